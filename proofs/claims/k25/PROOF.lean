import PyProof.Rows.All
import Wide.All
import OpenK.AllK
import Wide.FinOn
import Lean
import PyProof.EqAt
import PyProof.EqKinds
import PyProof.TupleCall
import PyProof.CompFree
import PyProof.ZipIter
import PyProof.Cells
import PyProof.Rows.CellsFrame
import PyProof.EnumMake
import PyProof.TupleIter
import PyProof.IsiPairs
import PyProof.IsiSeqPairs
import PyProof.IsiNone
import PyProof.ConsumeWalk
import PyProof.DictCompW
import PyProof.NeKinds
import PyProof.MinMaxWalk
import PyProof.Rows.SortRev
import KE.KIsAll
import KE.KDictOf
import PyProof.AttrMissHeap
import PyProof.CallFns
import PySem.Challenge.RW_boxlayers_k25_whole_layers_take_each_onc
open PySem PySem.Spec PyProof.Rows
open List (mem_cons_self mem_cons_of_mem mem_append_left getElem?_set_self getElem?_set_ne mem_append_right append_nil of_mem_zip replicate length_take getElem?_append_right getElem?_replicate getElem?_append_left getElem?_map take_sublist mem_of_getElem? length_append length_map length_replicate zip_cons_cons length_cons length_nil size_toArray length_drop map_nil map_cons all_cons any_cons lookup_cons lookup_cons_self forIn_nil forIn_cons zipIdx_cons mem_cons not_mem_nil all_eq_true getElem?_eq_getElem nil_append getElem?_drop getElem_mem find?_cons take_left' drop_left' pairwise_map take_add_one take_length all_map drop_zero append_assoc extract_eq_take_drop drop_drop take_append_drop drop_eq_getElem_cons getElem?_take take_of_length_le reverse_append reverse_reverse reverse_perm map_append map_take map_drop getD_eq_getElem?_getD map_map map_congr_left drop_sublist sum_cons)
noncomputable section
set_option compiler.extract_closed false
set_option Elab.async false
set_option linter.all false
set_option maxRecDepth 100000
namespace L2
abbrev Key:=Sum Int Str
def keyIs:Key->Value->Bool
 | .inl k,v=>Value.isInt k v
 | .inr x,v=>Value.isStrOf x v
def keyH(w:World):Key->Int
 | .inl k=>hashInt k
 | .inr x=>hashStr w x
private theorem keyIs_shape:∀ {k:Key} {v:Value},keyIs k v=true->(∃ i t,k=Sum.inl i/\v=Value.int i t)\/(∃ x t,k=Sum.inr x/\v=Value.str x t)
 | .inl i,v,h=>by
  obtain⟨t,e⟩:=Value.isInt_shape (k:=i) (v:=v) h
  exact .inl ⟨i,t,rfl,e⟩
 | .inr x,v,h=>by
  obtain⟨t,e⟩:=Value.isStrOf_shape (x:=x) (v:=v) h
  exact .inr ⟨x,t,rfl,e⟩
private theorem keyIs_int(i:Int)(t:Tok):keyIs (.inl i) (.int i t)=true:=by simp[keyIs,Value.isInt]
private theorem keyIs_str(x:Str)(t:Tok):keyIs (.inr x) (.str x t)=true:=by simp[keyIs,Value.isStrOf]
private theorem key_ll(a b:Int):decide ((Sum.inl a:Key)=Sum.inl b)=(a == b):=by
 by_cases e:a=b
 ·subst e;simp
 ·have h : ¬ (Sum.inl a : Key) = Sum.inl b := fun q => e (Sum.inl.inj q)
  rw[decide_eq_false h]
  exact(beq_eq_false_iff_ne.mpr e).symm
private theorem key_rr(a b:Str):decide ((Sum.inr a:Key)=Sum.inr b)=decide (a=b):=by
 by_cases e:a=b
 ·subst e;simp
 ·have h : ¬ (Sum.inr a : Key) = Sum.inr b := fun q => e (Sum.inr.inj q)
  rw[decide_eq_false h,decide_eq_false e]
private theorem key_lr(a:Int)(b:Str):decide ((Sum.inl a:Key)=Sum.inr b)=false:=decide_eq_false (fun q=>nomatch q)
private theorem key_rl(a:Str)(b:Int):decide ((Sum.inr a:Key)=Sum.inl b)=false:=decide_eq_false (fun q=>nomatch q)
def mixKind(prog:Program)(w:World):PySem.KeyKind prog w Key where
 is:=keyIs
 hash:=keyH w
 inj:=fun v a b ha hb=>by
  rcases keyIs_shape ha with ⟨i,t,rfl,rfl⟩ | ⟨x,t,rfl,rfl⟩
  ·rcases keyIs_shape hb with ⟨j, u, rfl, e⟩ | ⟨y, u, rfl, e⟩
   ·injection e with e1 _;rw[e1]
   ·exact nomatch e
  ·rcases keyIs_shape hb with ⟨j, u, rfl, e⟩ | ⟨y, u, rfl, e⟩
   ·exact nomatch e
   ·injection e with e1 _;rw[e1]
 byValue:=fun k v h=>by
  rcases keyIs_shape h with ⟨i,t,rfl,rfl⟩ | ⟨x,t,rfl,rfl⟩<;>rfl
 pyHash:=fun hv h=>by
  rcases keyIs_shape hv with ⟨i,t,rfl,rfl⟩ | ⟨x,t,rfl,rfl⟩
  ·exact wpAny_pyHash_int h
  ·exact wpAny_pyHash_str h
 eqBool:=fun hu hv h=>by
  rcases keyIs_shape hu with ⟨i,t,rfl,rfl⟩ | ⟨x,t,rfl,rfl⟩
  ·rcases keyIs_shape hv with ⟨j, u, rfl, rfl⟩ | ⟨y, u, rfl, rfl⟩
   ·rw[key_ll] at h;exact wpAny_eqBool_int h
   ·rw[key_lr] at h;exact SeqAt.EqAt.int_str i t y u _ _ _ _ h
  ·rcases keyIs_shape hv with ⟨j, u, rfl, rfl⟩ | ⟨y, u, rfl, rfl⟩
   ·rw[key_rl] at h;exact SeqAt.EqAt.str_int x t j u _ _ _ _ h
   ·rw[key_rr] at h;exact wpAny_eqBool_str h
 «strs»:=fun k x t v h=>by
  rcases keyIs_shape h with ⟨i,u,rfl,e⟩ | ⟨y,u,rfl,e⟩
  ·exact nomatch e
  ·injection e with e1 _
   subst e1
   cases v<;>rfl
private theorem mixKind_int(prog:Program)(w:World)(i:Int)(t:Tok):(mixKind prog w).is (.inl i) (.int i t)=true:=keyIs_int i t
private theorem mixKind_str(prog:Program)(w:World)(x:Str)(t:Tok):(mixKind prog w).is (.inr x) (.str x t)=true:=keyIs_str x t
end L2
namespace L2
inductive V where
 | non | bl (b:Bool) | int (i:Int) | str (x:Str) | byt (b:Array UInt8) | flt (b:UInt64) | ref (a:Addr) | ty (n:String)
 deriving DecidableEq
def RelV:V->Value->Prop
 | .non,u=>u=Value.none
 | .bl b,u=>u=Value.bool b
 | .int i,u=>∃ t,u=Value.int i t
 | .str x,u=>∃ t,u=Value.str x t
 | .byt b,u=>∃ t,u=Value.bytes b t
 | .flt b,u=>∃ t,u=Value.float b t
 | .ref a,u=>u=Value.ref a
 | .ty n,u=>u=Value.type n
abbrev Vals:List V->List Value->Prop:=Paired RelV
private theorem Vals.length{xs:List V}{us:List Value}(r:Vals xs us):xs.length=us.length:=Paired.length r
private theorem Vals.get:∀ {xs:List V} {us:List Value} {i:Nat} {x:V},Vals xs us->xs[i]?=some x->∃ u,us[i]?=some u/\RelV x u
 | _,_,_,_,.nil,e=>by simp at e
 | _,_,0,_,.cons r _,e=>by simp at e;subst e;exact⟨_,rfl,r⟩
 | _,_,i+1,x,.cons _ t,e=>by
  obtain⟨u,h1,h2⟩:=Vals.get (i:=i) (x:=x) t (by simpa using e)
  exact⟨u,by simpa using h1,h2⟩
private theorem Vals.set{x:V}{u:Value}(r:RelV x u):∀ {xs:List V} {us:List Value} (i:Nat),Vals xs us->Vals (xs.set i x) (us.set i u)
 | _,_,_,.nil=>.nil
 | _,_,0,.cons _ t=>.cons r t
 | _,_,i+1,.cons q t=>.cons q (Vals.set r i t)
private theorem Vals.append:∀ {xs ys:List V} {us ws:List Value},Vals xs us->Vals ys ws->Vals (xs++ys) (us++ws)
 | _,_,_,_,.nil,s=>s
 | _,_,_,_,.cons r t,s=>.cons r (Vals.append t s)
private theorem Vals.take:∀ {xs:List V} {us:List Value} (n:Nat),Vals xs us->Vals (xs.take n) (us.take n)
 | _,_,0,_=>.nil
 | _,_,_+1,.nil=>.nil
 | _,_,n+1,.cons r t=>.cons r (Vals.take n t)
private theorem Vals.drop:∀ {xs:List V} {us:List Value} (n:Nat),Vals xs us->Vals (xs.drop n) (us.drop n)
 | _,_,0,r=>r
 | _,_,_+1,.nil=>.nil
 | _,_,n+1,.cons _ t=>Vals.drop n t
def RelO:Option V->Option Value->Prop
 | some v,some u=>RelV v u
 | none,none=>True
 | _,_=>False
def KV{κ:Type}:List (κ × V)->List (κ × Value)->Prop:=Paired fun(p:κ × V) (q:κ × Value)=>p.1=q.1/\RelV p.2 q.2
def kV:Key->V
 | .inl i=>.int i
 | .inr x=>.str x
inductive HO where
 /-- a list -/
 | lst (xs:List V)
 /-- a tuple (never changes) -/
 | tup (xs:List V)
 /-- a dict whose keys are ints and texts; one whose keys are tuples of ints and texts (the empty one is both) -/
 | dK (kvs:List (Key × V)) | dT (kvs:List (List Key × V))
 /-- a set of ints: its members, its size -/
 | set (S:Int->Bool) (n:Nat)
 /-- an instance of the class at C, its dict at dx, its attributes -/
 | ins (C dx:Addr) (fs:List (Str × V))
 /-- the dict of the instance at x -/
 | own (x:Addr)
 /-- the dict of an exception -/
 | xd (fs:List (Str × V))
 /-- a bound method, f of x -/
 | met (f x:Addr)
 /-- a range object lo, lo + 1, .. below hi -/
 | rng (lo hi:Int)
 /-- a thing that is known to the object (the script; a dict while a loop walks it): read, never written while it is so -/
 | frz (o:Obj) (u:HO)
 /-- a code object's table -/
 | tbl (ps:Array Value)
 /-- any other thing, by what is true of its one object (a def of one's own: SetO a S n := HO.ext fun h => ..) -/
 | ext (φ:Heap->Prop)
abbrev Hp:=Addr->Option HO
def upd(H:Hp)(a:Addr)(o:HO):Hp:=fun b=>if b=a then some o else H b
private theorem upd_same{H:Hp}{a:Addr}{o:HO}:upd H a o a=some o:=by unfold upd;rw[if_pos rfl]
private theorem upd_ne{H:Hp}{a b:Addr}{o:HO}(h:b≠a):upd H a o b=H b:=by unfold upd;rw[if_neg h]
private theorem ne_of_none{H:Hp}{a b:Addr}{o:HO}(h:H a=some o)(h':H b=none):a≠b:=by
 intro e;subst e;rw[h] at h';cases h'
section
variable (P:Program) (w:World)
def ObjOk(H:Hp)(h:Heap)(a:Addr):HO->Prop
 | .lst xs=>xs.length<=sizeLine/\∃ (its:List Value) (n:Nat),Vals xs its/\h.get? a=some { cls:=.type "list",data:=.seq its.toArray n }
 | .tup xs=>xs.length<=sizeLine/\∃ its:List Value,Vals xs its/\IsTup h a its.toArray
 | .dK kvs=>kvs.length<=sizeLine/\(a == sysModules)=false/\∃ vs,KV kvs vs/\h.DictOf (mixKind P w) a vs
 | .dT kvs => kvs.length <= sizeLine /\ (a == sysModules) = false /\ ∃ xs : List (List Key × Addr × Value),
   Paired (fun(p:List Key × V) (q:List Key × Addr × Value)=>p.1=q.1/\H q.2.1=some (.tup (p.1.map kV))/\RelV p.2 q.2.2) kvs xs /\
   ∃ o es ep,h.get? a=some o/\o.ExactDict/\o.data=.dict es ep/\es.toList=xs.map (entryOfKey (tupleKind (mixKind P w)))/\(xs.map (·.1)).Nodup
 | .set S n=>h.SetOf (intKind P w) a S n
 | .ins C dx fs => H dx = some (.own a) /\ fs.length <= 1000 /\ dx ≠ a /\ h.get? a = some (W.instObj C dx) /\
   ∃ mA,h.Ns1 dx mA/\(∀ f,RelO (fs.lookup f) (mA f))/\PySem.Within mA (fs.map (·.1))
 | .own _=>∃ o,h.get? a=some o
 | .xd fs=>∃ mA,h.Ns1 a mA/\∀ f,RelO (fs.lookup f) (mA f)
 | .rng lo hi=>∃ t u v,h.get? a=some { cls:=.type "range",data:=.fields #[.int lo t,.int hi u,.int 1 v] }
 | .frz o u=>h.get? a=some o/\ObjOk H h a u
 | .tbl ps=>h.get? a=some { cls:=.none,data:=.fields ps }
 | .met f x=>h.get? a=some (W.methodObj (.ref f) (.ref x))
 | .ext φ=>φ h/\(∃ o,h.get? a=some o)/\∀ h1 h2:Heap,φ h1->(∀ o,h1.get? a=some o->h2.get? a=some o)->φ h2
def HOk(H:Hp)(h:Heap):Prop:=∀ a o,H a=some o->ObjOk P w H h a o
end
section
variable {P:Program} {w:World} {H H':Hp} {h h':Heap} {a:Addr} {o:HO}
private theorem ObjOk.lt(x:ObjOk P w H h a o):a<h.objs.size:=by
 cases o with
 | lst xs=>obtain⟨_,_,_,_,e⟩:=x;exact Heap.lt_size e
 | tup xs=>obtain⟨_,_,_,p⟩:=x;exact p.lt
 | dK kvs=>obtain⟨_,_,_,_,o,_,_,e,_⟩:=x;exact Heap.lt_size e
 | dT kvs=>obtain⟨_,_,_,_,o,_,_,e,_⟩:=x;exact Heap.lt_size e
 | set S n=>obtain⟨o,_,_,_,e,_⟩:=x;exact Heap.lt_size e
 | ins C dx fs=>obtain⟨_,_,_,e,_⟩:=x;exact Heap.lt_size e
 | own y=>obtain⟨_,e⟩:=x;exact Heap.lt_size e
 | xd fs=>obtain⟨_,⟨_,_,_,e,_⟩,_⟩:=x;exact Heap.lt_size e
 | rng lo hi=>obtain⟨_,_,_,e⟩:=x;exact Heap.lt_size e
 | frz ob u=>obtain⟨e,_⟩:=x;exact Heap.lt_size e
 | tbl ps=>exact Heap.lt_size (show h.get? a=some _ from x)
 | met f y=>exact Heap.lt_size (show h.get? a=some _ from x)
 | ext φ=>obtain⟨_,⟨_,e⟩,_⟩:=x;exact Heap.lt_size e
private theorem Paired.mapP{α β:Type}{F G:α->β->Prop}:∀ {l₁:List α} {l₂:List β},Paired F l₁ l₂->(∀ a b,F a b->G a b)->Paired G l₁ l₂
 | _,_,.nil,_=>.nil
 | _,_,.cons r t,f=>.cons (f _ _ r) (Paired.mapP t f)
private theorem ObjOk.stay(x:ObjOk P w H h a o)(k:∀ b u,(b=a\/H b=some (.own a))->h.get? b=some u->h'.get? b=some u)
  (ho:∀ b,H b=some (.own a)->H' b=some (.own a)) (ht:∀ b xs,H b=some (.tup xs)->H' b=some (.tup xs)):ObjOk P w H' h' a o:=by
 induction o with
 | lst xs=>obtain⟨z,its,n,r,e⟩:=x;exact⟨z,its,n,r,k _ _ (.inl rfl) e⟩
 | tup xs=>obtain⟨z,its,r,ob,e,c⟩:=x;exact⟨z,its,r,ob,k _ _ (.inl rfl) e,c⟩
 | dK kvs=>obtain⟨z,y,vs,r,ob,es,ep,e,c⟩:=x;exact⟨z,y,vs,r,ob,es,ep,k _ _ (.inl rfl) e,c⟩
 | dT kvs =>
  obtain⟨z,y,xs,r,ob,es,ep,e,c⟩:=x
  exact⟨z,y,xs,Paired.mapP r fun p q z=>⟨z.1,ht _ _ z.2.1,z.2.2⟩,ob,es,ep,k _ _ (.inl rfl) e,c⟩
 | set S n=>obtain⟨ob,es,ep,t,e,c⟩:=x;exact⟨ob,es,ep,t,k _ _ (.inl rfl) e,c⟩
 | ins C dx fs =>
  obtain⟨d,z,ne,e,mA,⟨od,es,ep,e2,c⟩,r⟩:=x
  exact⟨ho _ d,z,ne,k _ _ (.inl rfl) e,mA,⟨od,es,ep,k _ _ (.inr d) e2,c⟩,r⟩
 | own y=>obtain⟨ob,e⟩:=x;exact⟨ob,k _ _ (.inl rfl) e⟩
 | xd fs=>obtain⟨mA,⟨od,es,ep,e,c⟩,r⟩:=x;exact⟨mA,⟨od,es,ep,k _ _ (.inl rfl) e,c⟩,r⟩
 | rng lo hi=>obtain⟨t,u,v,e⟩:=x;exact⟨t,u,v,k _ _ (.inl rfl) e⟩
 | frz ob u ih=>obtain⟨e,q⟩:=x;exact⟨k _ _ (.inl rfl) e,ih q⟩
 | tbl ps =>
  have e:h.get? a=some { cls:=.none,data:=.fields ps }:=x
  show h'.get? a=some { cls:=.none,data:=.fields ps }
  exact k a _ (.inl rfl) e
 | met f y =>
  have e:h.get? a=some (W.methodObj (.ref f) (.ref y)):=x
  show h'.get? a=some (W.methodObj (.ref f) (.ref y))
  exact k a _ (.inl rfl) e
 | ext φ=>obtain⟨p,⟨o,e⟩,st⟩:=x;exact⟨st _ _ p fun o q=>k _ _ (.inl rfl) q,⟨o,k _ _ (.inl rfl) e⟩,st⟩
private theorem HOk.lt(x:HOk P w H h)(e:H a=some o):a<h.objs.size:=(x a o e).lt
private theorem HOk.fresh(x:HOk P w H h)(e:h.objs.size<=a):H a=none:=by
 cases q:H a with
 | none=>rfl
 | some u=>exact absurd (Nat.lt_of_lt_of_le (x.lt q) e) (Nat.lt_irrefl _)
private theorem HOk.kept(x:HOk P w H h)(k:∀ b u,h.get? b=some u->h'.get? b=some u):HOk P w H h':=fun a o e =>
 (x a o e).stay (fun b u _ q=>k b u q) (fun _ q=>q) fun _ _ q=>q
private theorem HOk.laid(x:HOk P w H h)(k:∀ b u,h.get? b=some u->h'.get? b=some u)(hp:h.objs.size<=a)(new:ObjOk P w (upd H a o) h' a o):HOk P w (upd H a o) h':=fun b u e=>by
 have hn:=x.fresh hp
 by_cases hb:b=a
 ·subst hb;rw[upd_same] at e;cases e;exact new
 ·rw [upd_ne hb] at e
  exact(x b u e).stay (fun c v _ q=>k c v q) (fun c q=>by rw[upd_ne (ne_of_none q hn)];exact q) fun c xs q=>by rw[upd_ne (ne_of_none q hn)];exact q
end
def Rd(H:Hp)(a:Addr)(u:HO):Prop:=H a=some u\/∃ o,H a=some (.frz o u)
private theorem Rd.ok{P:Program}{w:World}{H:Hp}{h:Heap}{a:Addr}{u:HO}(r:Rd H a u)(x:HOk P w H h):ObjOk P w H h a u:=by
 rcases r with r | ⟨o,r⟩
 ·exact x a u r
 ·obtain ⟨_, q⟩ := x a _ r
  exact q
def Mut:Option HO->Prop
 | some (.lst _)=>True
 | some (.dK _)=>True
 | some (.dT _)=>True
 | some (.set _ _)=>True
 | some (.ins _ _ _)=>True
 | some (.ext _)=>True
 | _=>False
section
variable {P:Program} {w:World} {H:Hp} {h h':Heap} {x e:Addr} {o':HO}
private theorem HOk.write(ok:HOk P w H h)(mu:Mut (H x))(he:e=x\/H e=some (.own x))(k:∀ b u,b≠e->h.get? b=some u->h'.get? b=some u)(heo:∃ u,h'.get? e=some u)
  (new:ObjOk P w (upd H x o') h' x o'):HOk P w (upd H x o') h':=fun b u q=>by
 have nown:∀ c y,H c=some (.own y)->c≠x:=fun c y r z=>by subst z;rw[r] at mu;exact mu
 have ntup:∀ c xs,H c=some (.tup xs)->c≠x:=fun c xs r z=>by subst z;rw[r] at mu;exact mu
 by_cases hb:b=x
 ·subst hb;rw[upd_same] at q;cases q;exact new
 ·rw [upd_ne hb] at q
  by_cases hbe:b=e
  ·have q' : H b = some (.own x) := by
    rcases he with z | z
    ·exact absurd (hbe.trans z) hb
    ·rw[hbe];exact z
   rw[q] at q';cases q'
   obtain⟨v,hv⟩:=heo
   exact⟨v,by rw[hbe];exact hv⟩
  ·refine (ok b u q).stay (fun c v hc r => k c v ?_ r) (fun c r => by rw [upd_ne (nown c b r)]; exact r) fun c xs r => by rw [upd_ne (ntup c xs r)]; exact r
   rcases hc with rfl | hc
   ·exact hbe
   ·rintro rfl
    rcases he with z | z
    ·exact nown c b hc z
    ·rw[hc] at z;cases z;exact hb rfl
end
structure Un(fs ex:List Addr)(H H':Hp)(h h':Heap):Prop where
 keep:∀ b o,h.get? b=some o->H b=none->b ∉ fs->b ∉ ex->h'.get? b=some o
 slot:∀ b o,h.get? b=some o->H b=none->b∈fs->b ∉ ex->∃ sl,h'.get? b=some { o with slots:=sl }
 free:∀ b o,h.get? b=some o->H b=none->b ∉ ex->H' b=none
 there:∀ b o,h.get? b=some o->b ∉ ex->∃ o',h'.get? b=some o'
 tups:∀ b xs,H b=some (.tup xs)->H' b=some (.tup xs)
 frzs:∀ b o u,H b=some (.frz o u)->H' b=some (.frz o u)
 tbls:∀ b ps,H b=some (.tbl ps)->∃ more,H' b=some (.tbl (ps++more))
section
variable {fs fs' ex ex':List Addr} {H H1 H2:Hp} {h h1 h2 h':Heap} {a x e:Addr} {o:HO}
private theorem Un.any(u:Un fs ex H H1 h h1){b:Addr}{ob:Obj}(q:h.get? b=some ob)(n:H b=none)(hx:b ∉ ex):∃ sl,h1.get? b=some { ob with slots:=sl }:=by
 by_cases hb:b∈fs
 ·exact u.slot b ob q n hb hx
 ·exact⟨ob.slots,u.keep b ob q n hb hx⟩
private theorem Un.kept(k:∀ b u,h.get? b=some u->h'.get? b=some u):Un fs ex H H h h' :=
 ⟨fun b ob q _ _ _=>k b ob q,fun b ob q _ _ _=>⟨ob.slots,k b ob q⟩,fun _ _ _ n _=>n,fun b ob q _=>⟨ob,k b ob q⟩,fun _ _ q=>q,fun _ _ _ q=>q,fun _ ps q=>⟨#[],by rw[q];simp⟩⟩
private theorem Un.refl:Un fs ex H H h h:=Un.kept fun _ _ q=>q
private theorem Un.laid(k:∀ b u,h.get? b=some u->h'.get? b=some u)(hp:h.objs.size<=a)(hn:H a=none):Un fs ex H (upd H a o) h h' where
 keep:=fun b u q _ _ _=>k b u q
 slot:=fun b u q _ _ _=>⟨u.slots,k b u q⟩
 free:=fun b u q n _=>by rw[upd_ne (Nat.ne_of_lt (Nat.lt_of_lt_of_le (Heap.lt_size q) hp))];exact n
 there:=fun b u q _=>⟨u,k b u q⟩
 tups:=fun b xs q=>by rw[upd_ne (ne_of_none q hn)];exact q
 frzs:=fun b u xs q=>by rw[upd_ne (ne_of_none q hn)];exact q
 tbls:=fun b ps q=>⟨#[],by rw[upd_ne (ne_of_none q hn),q];simp⟩
private theorem Un.write(mu:Mut (H x))(he:e=x\/H e=some (.own x))(k:∀ b u,b≠e->h.get? b=some u->h'.get? b=some u)(heo:∃ u,h'.get? e=some u):Un fs ex H (upd H x o) h h':=by
 have hx:∀ b,H b=none->b≠x:=fun b n z=>by subst z;rw[n] at mu;exact mu
 have hb:∀ b,H b=none->b≠e:=fun b n z=>by
  subst z
  rcases he with r | r
  ·exact hx b n r
  ·rw[n] at r;cases r
 have hm:∀ b u,H b=some u->¬ Mut (some u)->b≠x:=fun b u q nm z=>by subst z;rw[q] at mu;exact nm mu
 refine⟨fun b u q n _ _=>k b u (hb b n) q,fun b u q n _ _=>⟨u.slots,k b u (hb b n) q⟩,fun b u q n _=>by rw[upd_ne (hx b n)];exact n,fun b u q _=>?_,
  fun b xs q=>by rw[upd_ne (hm b _ q fun z=>z)];exact q,fun b u xs q=>by rw[upd_ne (hm b _ q fun z=>z)];exact q,fun b ps q=>⟨#[],by rw[upd_ne (hm b _ q fun z=>z),q];simp⟩⟩
 by_cases hbe:b=e
 ·subst hbe;exact heo
 ·exact⟨u,k b u hbe q⟩
end
def trk(h:Heap)(H:Hp):List Addr:=(List.range h.objs.size).filter fun a=>(H a).isSome
def hidT(h:Heap)(H:Hp):Heap:=W.hideAll h (trk h H)
private theorem hidT_size(h:Heap)(H:Hp):(hidT h H).objs.size=h.objs.size:=W.hideAll_size _ _
private theorem hidT_get{h:Heap}{H:Hp}{b:Addr}{o:Obj}(e:h.get? b=some o)(n:H b=none):(hidT h H).get? b=some o :=
 PySem.W.hideAll_get _ e fun hm=>by
  have q:(H b).isSome=true:=(List.mem_filter.mp hm).2
  rw[n] at q;simp at q
private theorem of_hidT{h:Heap}{H:Hp}{b:Addr}{o:Obj}(e:(hidT h H).get? b=some o):h.get? b=some o/\H b=none:=by
 have e':h.get? b=some o:=W.of_hideAll (trk h H) e
 refine⟨e',?_⟩
 cases q:H b with
 | none=>rfl
 | some x =>
  have hm:b∈trk h H:=List.mem_filter.mpr ⟨List.mem_range.mpr (Heap.lt_size e'),by simp[q]⟩
  have z:(hidT h H).get? b=none:=W.hideAll_none (trk h H) hm
  rw[z] at e;cases e
def allNews(g h:Heap)(L:Addr):List (Addr × Obj):=(List.range h.objs.size).filterMap fun a=>if a=L\/(g.get? a).isSome=true then none else(h.get? a).map fun o=>(a,o)
def rest(g h:Heap)(L d:Addr):List (Addr × Obj):=(allNews g h L).filter fun p=>decide (p.1≠d)
end L2
namespace L2
structure Mod(K:W.Frag)(mg:Str->Option Value)(base:Heap):Prop where
 kin:K.In base
 glob:base.Ns mainGlobals mg
 blt:∃ mb,base.Ns builtinsNs mb/\∀ x:Str,x ≠ "__name__" -> mb x=bootBuiltins x
 nolimit:base.NoLimit
structure Cx where
 prog:Program
 w:World
 K:W.Frag
 mg:Str->Option Value
 base:Heap
 A:Around
 N:List Str
 s₀:Shared
 H₀:Hp
 env:Env
 outer:List Env
 stack:List Env
 ex:List Addr
 fn:Str->Bool
 calm:Bool
 pn:List (Addr × Obj)
 xe:Value->Shared->Prop
def frs(l:List Env):List Addr:=l.filterMap (·.frame)
abbrev Cx.fs(X:Cx):List Addr:=frs X.outer
def Vis(sc:Scope)(x:Str):Prop:=sc.names.lookup x=some .local\/sc.names.lookup x=some .cell\/sc.names.lookup x=some .free
def Loc(sc:Scope)(x:Str):Prop:=sc.names.lookup x=some .local\/sc.names.lookup x=some .cell
def Look(env:Env)(h:Heap)(m:Str->Option Value)(x:Str)(u:Value):Prop :=
 (env.kindOf x=some .local/\m x=some u)\/((env.kindOf x=some .cell\/env.kindOf x=some .free)/\∃ c,env.cells.lookup x=some c/\h.IsCell c (some u))
structure Cx.Ok(X:Cx):Prop where
 mod:Mod X.K X.mg X.base
 kind:X.env.scope.kind=.function
 glob:X.env.globals=mainGlobals
 blt:X.env.builtins=builtinsNs
 above:X.s₀.heap.objs.size<=X.env.locals
 inj:∀ x y c,X.env.cells.lookup x=some c->X.env.cells.lookup y=some c->x=y
 has:∀ x,(X.env.kindOf x=some .cell\/X.env.kindOf x=some .free)->∃ c,X.env.cells.lookup x=some c
 cab:∀ x c,X.fn x=true->X.env.cells.lookup x=some c->X.s₀.heap.objs.size<=c
 hd:X.calm=true->X.A.handled=none
 frames:X.A.frames=some X.stack
 stk:X.stack=X.outer\/(X.stack=X.env::X.outer/\X.env.frame=some X.env.locals)
 exf:∀ b∈X.ex,b≠X.env.locals/\∀ x c,X.env.cells.lookup x=some c->c≠b
 bs:∀ b o,X.base.get? b=some o->X.s₀.heap.get? b=some o/\X.H₀ b=none
 bsz:X.base.objs.size<=X.s₀.heap.objs.size
 noex:∀ b o,X.base.get? b=some o->b ∉ X.ex
 exfs:∀ b∈X.ex,b ∉ X.fs
 funs:X.s₀.heap.FunFrames X.base X.outer
 frf:∀ b∈X.fs,X.H₀ b=none
structure Inv(X:Cx)(pins:List (Addr × Obj))(σ:List (Option V))(H:Hp)(s:Shared):Prop where
 ok:X.Ok
 os:s.os=X.s₀.os
 bare:AllBare s.gens
 base:Un X.fs X.ex X.H₀ H X.s₀.heap s.heap
 loc:∃ m,s.heap.Ns X.env.locals m/\∀ (i:Nat) (x:Str) (v:V),X.N[i]?=some x->σ[i]?=some (some v)->Vis X.env.scope x->∃ u,RelV v u/\Look X.env s.heap m x u
 cell:∀ x c,X.env.cells.lookup x=some c->∃ v,s.heap.IsCell c v
 free:H X.env.locals=none
 freeC:∀ x c,X.env.cells.lookup x=some c->H c=none
 pin:∀ p∈X.pn++pins,s.heap.get? p.1=some p.2/\H p.1=none/\p.1≠X.env.locals/\p.1 ∉ X.fs/\∀ v,p.2.data≠.cell v
 hok:HOk X.prog X.w H s.heap
 len:σ.length=X.N.length
section
variable {X:Cx} {pins:List (Addr × Obj)} {σ:List (Option V)} {H H':Hp} {s:Shared} {h':Heap}
private theorem Cx.Ok.nofr(ok:X.Ok){b:Addr}{o:Obj}(e:X.base.get? b=some o):b ∉ X.fs:=fun hb=>by
 have:=(ok.funs.mem hb).1
 rw[e] at this;cases this
private theorem Inv.bs(I:Inv X pins σ H s):∀ b o,X.base.get? b=some o->s.heap.get? b=some o/\H b=none:=fun b o e =>
 ⟨I.base.keep b o (I.ok.bs b o e).1 (I.ok.bs b o e).2 (I.ok.nofr e) (I.ok.noex b o e),I.base.free b o (I.ok.bs b o e).1 (I.ok.bs b o e).2 (I.ok.noex b o e)⟩
private theorem Inv.bk(I:Inv X pins σ H s):∀ b o,X.base.get? b=some o->s.heap.get? b=some o:=fun b o e=>(I.bs b o e).1
private theorem Inv.mod(I:Inv X pins σ H s):Mod X.K X.mg X.base:=I.ok.mod
private theorem Inv.kIn(I:Inv X pins σ H s):X.K.In s.heap:=I.ok.mod.kin.keeps I.bk
private theorem Inv.lt(I:Inv X pins σ H s):X.env.locals<s.heap.objs.size:=let ⟨_,hn,_⟩:=I.loc;hn.lt
private theorem Inv.sz(I:Inv X pins σ H s):X.s₀.heap.objs.size<=s.heap.objs.size:=Nat.le_trans I.ok.above (Nat.le_of_lt I.lt)
private theorem Inv.nofs(I:Inv X pins σ H s){a:Addr}(h:s.heap.objs.size<=a):a ∉ X.fs:=fun hb=>by
 obtain⟨_,o,ho,_⟩:=I.ok.funs.mem hb
 exact absurd (Nat.lt_of_lt_of_le (Heap.lt_size ho) (Nat.le_trans I.sz h)) (Nat.lt_irrefl _)
private theorem Inv.cne(I:Inv X pins σ H s):∀ x c,X.env.cells.lookup x=some c->c≠X.env.locals:=fun x c e z=>by
 obtain⟨v,o,ho,hd⟩:=I.cell x c e
 obtain⟨m,⟨o',es,ep,ho',hd',_⟩,_⟩:=I.loc
 rw[z,ho'] at ho;cases ho;rw[hd'] at hd;cases hd
private theorem Inv.funs(I:Inv X pins σ H s):s.heap.FunFrames X.base X.outer:=by
 have all:∀ (l:List Env),(∀ b∈frs l,b∈X.fs)->X.s₀.heap.FunFrames X.base l->s.heap.FunFrames X.base l:=by
  intro l
  induction l with
  | nil=>intro _ _;trivial
  | cons env r ih =>
   intro hs hl
   obtain⟨hk,⟨L,o,hf,hn,ho,hd⟩,hr⟩:=hl
   have hL:L∈X.fs:=hs L (by unfold frs;rw[List.filterMap_cons,hf];exact mem_cons_self)
   obtain⟨sl,e⟩:=I.base.slot L o ho (I.ok.frf L hL) hL fun z=>I.ok.exfs L z hL
   exact⟨hk,⟨L,_,hf,hn,e,hd⟩,ih (fun b hb=>hs b (by unfold frs;rw[List.filterMap_cons,hf];exact mem_cons_of_mem _ hb)) hr⟩
 exact all X.outer (fun _ hb=>hb) I.ok.funs
private theorem Inv.stack(I:Inv X pins σ H s):s.heap.FunFrames X.base X.stack:=by
 rcases I.ok.stk with e | ⟨e,hf⟩
 ·rw[e];exact I.funs
 ·rw [e]
  obtain⟨m,hn,_⟩:=I.loc
  refine .cons (by rw[I.ok.kind];decide) hf hn ?_ I.funs
  exact Heap.get?_none_of_le (Nat.le_trans I.ok.bsz I.ok.above)
private theorem Inv.stkSub(I:Inv X pins σ H s):∀ b∈frs X.stack,b∈X.env.locals::X.fs:=fun b hb=>by
 rcases I.ok.stk with e | ⟨e,hf⟩
 ·rw[e] at hb;exact mem_cons_of_mem _ hb
 ·rw [e] at hb
  unfold frs at hb
  rw[List.filterMap_cons,hf] at hb
  exact hb
private theorem Inv.stkFree(I:Inv X pins σ H s):∀ b∈frs X.stack,H b=none:=fun b hb=>by
 rcases List.mem_cons.mp (I.stkSub b hb) with e | hb
 ·rw[e];exact I.free
 ·obtain ⟨_, o, ho, _⟩ := I.ok.funs.mem hb
  exact I.base.free b o ho (I.ok.frf b hb) fun z=>I.ok.exfs b z hb
private theorem Inv.step{g':Array GenState}{t':Nat}{d':Drawn}{ch:List Addr}(I:Inv X pins σ H s)
  (hch:∀ b∈ch,(b∈X.ex\/X.s₀.heap.objs.size<=b)/\b≠X.env.locals/\(∀ x c,X.env.cells.lookup x=some c->c≠b)/\∀ p∈X.pn++pins,p.1≠b)
  (keep:∀ b o,b≠X.env.locals->b ∉ X.fs->b ∉ ch->s.heap.get? b=some o->H b=none->h'.get? b=some o)
  (slot:∀ b o,b≠X.env.locals->b∈X.fs->b ∉ ch->s.heap.get? b=some o->H b=none->∃ sl,h'.get? b=some { o with slots:=sl }) (free:∀ b o,b ∉ ch->s.heap.get? b=some o->H b=none->H' b=none)
  (there:∀ b o,b ∉ ch->s.heap.get? b=some o->∃ o',h'.get? b=some o')
  (tups:∀ b xs,H b=some (.tup xs)->H' b=some (.tup xs)) (frzs:∀ b o u,H b=some (.frz o u)->H' b=some (.frz o u)) (tbls:∀ b ps,H b=some (.tbl ps)->∃ more,H' b=some (.tbl (ps++more)))
  (ns:∀ m,s.heap.Ns X.env.locals m->h'.Ns X.env.locals m) (hok:HOk X.prog X.w H' h') (hg:AllBare g') :
  Inv X pins σ H' { s with heap:=h',gens:=g',drawn:=d',toks:=t' }:=by
 have neL:∀ b o,X.s₀.heap.get? b=some o->b≠X.env.locals:=fun b o e=>Nat.ne_of_lt (Nat.lt_of_lt_of_le (Heap.lt_size e) I.ok.above)
 have neC:∀ b o,X.s₀.heap.get? b=some o->b ∉ X.ex->b ∉ ch:=fun b o e hx hb=>by
  rcases(hch b hb).1 with z | z
  ·exact hx z
  ·exact absurd (Nat.lt_of_lt_of_le (Heap.lt_size e) z) (Nat.lt_irrefl _)
 have cellK:∀ x c,X.env.cells.lookup x=some c->∀ v,s.heap.IsCell c v->h'.IsCell c v:=fun x c e v ⟨o,ho,hd⟩=>by
  have nch:c ∉ ch:=fun z=>(hch c z).2.2.1 x c e rfl
  by_cases hc:c∈X.fs
  ·obtain ⟨sl, q⟩ := slot c o (I.cne x c e) hc nch ho (I.freeC x c e)
   exact⟨_,q,hd⟩
  ·exact⟨o,keep c o (I.cne x c e) hc nch ho (I.freeC x c e),hd⟩
 refine⟨I.ok,I.os,hg,⟨fun b o e n hb hx=>?_,fun b o e n hb hx=>?_,fun b o e n hx=>?_,fun b o e hx=>?_,fun b xs e=>tups b xs (I.base.tups b xs e),fun b o xs e=>frzs b o xs (I.base.frzs b o xs e),fun b ps e=>?_⟩,?_,fun x c e=>?_,?_,fun x c e=>?_,fun p hp=>?_,hok,I.len⟩
 ·exact keep b o (neL b o e) hb (neC b o e hx) (I.base.keep b o e n hb hx) (I.base.free b o e n hx)
 ·obtain ⟨sl, e1⟩ := I.base.slot b o e n hb hx
  obtain⟨sl',e2⟩:=slot b _ (neL b o e) hb (neC b o e hx) e1 (I.base.free b o e n hx)
  exact⟨sl',e2⟩
 ·obtain ⟨o', e1⟩ := I.base.there b o e hx
  exact free b o' (neC b o e hx) e1 (I.base.free b o e n hx)
 ·obtain ⟨o', e1⟩ := I.base.there b o e hx
  exact there b o' (neC b o e hx) e1
 ·obtain ⟨m1, e1⟩ := I.base.tbls b ps e
  obtain⟨m2,e2⟩:=tbls b _ e1
  exact⟨m1++m2,by rw[e2,Array.append_assoc]⟩
 ·obtain ⟨m, hn, hl⟩ := I.loc
  refine⟨m,ns m hn,fun i x v e1 e2 e3=>?_⟩
  obtain⟨u,r,l⟩:=hl i x v e1 e2 e3
  refine⟨u,r,?_⟩
  rcases l with l | ⟨k,c,e,z⟩
  ·exact .inl l
  ·exact .inr ⟨k,c,e,cellK x c e _ z⟩
 ·obtain ⟨v, z⟩ := I.cell x c e
  exact⟨v,cellK x c e v z⟩
 ·obtain ⟨m, ⟨o, _, _, ho, _⟩, _⟩ := I.loc
  exact free _ o (fun z=>(hch _ z).2.1 rfl) ho I.free
 ·obtain ⟨v, o, ho, hd⟩ := I.cell x c e
  exact free c o (fun z=>(hch c z).2.2.1 x c e rfl) ho (I.freeC x c e)
 ·obtain ⟨e, n, ne, nf, d⟩ := I.pin p hp
  have nch:p.1 ∉ ch:=fun z=>(hch p.1 z).2.2.2 p hp rfl
  exact⟨keep p.1 p.2 ne nf nch e n,free p.1 p.2 nch e n,ne,nf,d⟩
private theorem Inv.un{t':Nat}(I:Inv X pins σ H s)(u:Un X.fs [] H H' s.heap h')(hok:HOk X.prog X.w H' h'):Inv X pins σ H' { s with heap:=h',toks:=t' }:=by
 obtain⟨m,⟨o,es,ep,ho,r⟩,_⟩:=id I.loc
 obtain⟨sl,hL⟩:=u.any ho I.free (by simp)
 exact I.step (g':=s.gens) (d':=s.drawn) (ch:=[]) (fun _ z=>nomatch z) (fun b o _ hb _ e n=>u.keep b o e n hb (by simp)) (fun b o _ hb _ e n=>u.slot b o e n hb (by simp)) (fun b o _ e n=>u.free b o e n (by simp)) (fun b o _ e=>u.there b o e (by simp)) u.tups u.frzs u.tbls (fun m' hm=>by
  obtain⟨o',es',ep',ho',r'⟩:=hm
  rw[ho] at ho';cases ho'
  exact⟨_,es',ep',hL,r'⟩) hok I.bare
private theorem Inv.call{g':Array GenState}{t':Nat}{d':Drawn}{ch:List Addr}(I:Inv X pins σ H s)(u:Un (frs X.stack) ch H H' s.heap h')(hok:HOk X.prog X.w H' h')(hg:AllBare g')
  (hch:∀ b∈ch,(b∈X.ex\/X.s₀.heap.objs.size<=b)/\b≠X.env.locals/\(∀ x c,X.env.cells.lookup x=some c->c≠b)/\∀ p∈X.pn++pins,p.1≠b) :
  Inv X pins σ H' { s with heap:=h',gens:=g',drawn:=d',toks:=t' }:=by
 obtain⟨m,⟨o,es,ep,ho,r⟩,_⟩:=id I.loc
 obtain⟨sl,hL⟩:=u.any ho I.free fun z=>(hch _ z).2.1 rfl
 exact I.step (ch:=ch) hch (fun b o hL hb hc e n=>u.keep b o e n (fun z=>(List.mem_cons.mp (I.stkSub b z)).elim hL hb) hc) (fun b o _ _ hc e n=>u.any e n hc) (fun b o hc e n=>u.free b o e n hc) (fun b o hc e=>u.there b o e hc) u.tups u.frzs u.tbls (fun m' hm=>by
  obtain⟨o',es',ep',ho',r'⟩:=hm
  rw[ho] at ho';cases ho'
  exact⟨_,es',ep',hL,r'⟩) hok hg
private theorem Inv.turned{t':Nat}{it:Addr}(I:Inv X pins σ H s)(k:∀ b o,b≠it->s.heap.get? b=some o->h'.get? b=some o)(hn:H it=none)(hL:it≠X.env.locals)
  (h1:it∈X.ex\/X.s₀.heap.objs.size<=it) (h2:∀ x c,X.env.cells.lookup x=some c->c≠it) (h3:∀ p∈X.pn++pins,p.1≠it):Inv X pins σ H { s with heap:=h',toks:=t' }:=by
 have nit:∀ b u,H b=some u->b≠it:=fun b u e z=>by rw[z,hn] at e;cases e
 refine I.step (g':=s.gens) (d':=s.drawn) (ch:=[it]) (fun b hb=>?_) (fun b o _ _ hc e _=>k b o (fun z=>hc (by simp[z])) e) (fun b o _ _ hc e _=>⟨o.slots,k b o (fun z=>hc (by simp[z])) e⟩) (fun _ _ _ _ n=>n)
  (fun b o hc e=>⟨o,k b o (fun z=>hc (by simp[z])) e⟩) (fun _ _ e=>e) (fun _ _ _ e=>e) (fun b ps e=>⟨#[],by rw[e];simp⟩) (fun m hm=>?_) (fun b u e=>?_) I.bare
 ·have e : b = it := by simpa using hb
  subst e
  exact⟨h1,hL,h2,h3⟩
 ·obtain ⟨o, es, ep, ho, r⟩ := hm
  exact⟨o,es,ep,k _ o (Ne.symm hL) ho,r⟩
 ·refine (I.hok b u e).stay (fun c v hc q => k c v ?_ q) (fun _ q => q) fun _ _ q => q
  rcases hc with z | z
  ·rw[z];exact nit b u e
  ·exact nit c _ z
private theorem Inv.tok(I:Inv X pins σ H s)(t:Nat):Inv X pins σ H { s with toks:=t }:=I.un (h':=s.heap) (t':=t) Un.refl I.hok
private theorem Inv.kept{t':Nat}(I:Inv X pins σ H s)(k:∀ b u,s.heap.get? b=some u->h'.get? b=some u):Inv X pins σ H { s with heap:=h',toks:=t' }:=I.un (Un.kept k) (I.hok.kept k)
private theorem Inv.laid{a:Addr}{o:HO}{t':Nat}(I:Inv X pins σ H s)(k:∀ b u,s.heap.get? b=some u->h'.get? b=some u)(hp:s.heap.objs.size<=a)(new:ObjOk X.prog X.w (upd H a o) h' a o) :
  Inv X pins σ (upd H a o) { s with heap:=h',toks:=t' }:=I.un (Un.laid k hp (I.hok.fresh hp)) (I.hok.laid k hp new)
private theorem Inv.write{x e:Addr}{o:HO}{t':Nat}(I:Inv X pins σ H s)(mu:Mut (H x))(he:e=x\/H e=some (.own x))(k:∀ b u,b≠e->s.heap.get? b=some u->h'.get? b=some u)(heo:∃ u,h'.get? e=some u)
  (new:ObjOk X.prog X.w (upd H x o) h' x o):Inv X pins σ (upd H x o) { s with heap:=h',toks:=t' }:=I.un (Un.write mu he k heo) (I.hok.write mu he k heo new)
private theorem Inv.weak{σ':List (Option V)}(I:Inv X pins σ H s)(hl:σ'.length=σ.length)(w:∀ (i:Nat) v,σ'[i]?=some (some v)->σ[i]?=some (some v)):Inv X pins σ' H s :=
 ⟨I.ok,I.os,I.bare,I.base,let ⟨m,hn,hl'⟩:=I.loc;⟨m,hn,fun i x v e1 e2 e3=>hl' i x v e1 (w i v e2) e3⟩,I.cell,I.free,I.freeC,I.pin,I.hok,hl.trans I.len⟩
private theorem Inv.pins_of{pins':List (Addr × Obj)}(I:Inv X pins σ H s)(h:∀ p∈pins',s.heap.get? p.1=some p.2/\H p.1=none/\p.1≠X.env.locals/\p.1 ∉ X.fs/\∀ v,p.2.data≠.cell v):Inv X pins' σ H s :=
 ⟨I.ok,I.os,I.bare,I.base,I.loc,I.cell,I.free,I.freeC,fun p hp=>(List.mem_append.mp hp).elim (fun z=>I.pin p (mem_append_left _ z)) (h p),I.hok,I.len⟩
private theorem nodup_ix{N:List Str}(hN:N.Nodup){i j:Nat}{x:Str}(a:N[i]?=some x)(b:N[j]?=some x):i=j:=by
 obtain⟨h1,e1⟩:=List.getElem?_eq_some_iff.mp a
 obtain⟨h2,e2⟩:=List.getElem?_eq_some_iff.mp b
 exact(List.getElem_inj hN).mp (e1.trans e2.symm)
private theorem store_ok2{M:Model}{A:Around}{E:Value->Shared->Prop}{i:Nat}{x:Str}{v:V}{u:Value}{Q:Unit->Shared->Prop}(I:Inv X pins σ H s)(hN:X.N.Nodup)(hi:X.N[i]?=some x)(hx:Loc X.env.scope x)(r:RelV v u)
  (h:∀ s',Inv X pins (σ.set i (some v)) H s'->(∃ a,Heap.SameBut a s.heap s'.heap/\(a=X.env.locals\/X.env.cells.lookup x=some a))->Q () s') (hf:X.fn x=true\/X.env.scope.names.lookup x=some .local:=by first | exact .inl rfl | exact .inr rfl | assumption):wpAny M A (storeName X.env x u) Q E s:=by
 obtain⟨m,hn,hl⟩:=id I.loc
 have hcls:(X.env.scope.kind == .class||(X.env.scope.kind == .module&&X.env.locals != X.env.globals))=false:=by rw[I.ok.kind];rfl
 have hiσ:i<σ.length:=by rw[I.len];exact(List.getElem?_eq_some_iff.mp hi).1
 have cne:=I.cne
 have tracked:∀ {a:Addr} {h':Heap},(∃ o,s.heap.get? a=some o/\H a=none)->Heap.SameBut a s.heap h'->HOk X.prog X.w H h':=fun {a h'} ha hs b ob e=>by
  obtain⟨_,_,hfree⟩:=ha
  refine(I.hok b ob e).stay (fun c w' hc q=>(hs.2 c ?_).trans q) (fun _ q=>q) fun _ _ q=>q
  rintro rfl
  rcases hc with rfl | hc
  ·rw[hfree] at e;cases e
  ·rw[hfree] at hc;cases hc
 rcases hx with hk | hk
 ·refine wpAny_storeName_local hk hn (fun h' hn' hs => ?_) hcls
  obtain⟨oL,_,_,hoL,_⟩:=id hn
  refine h _ ⟨I.ok,I.os,I.bare,⟨fun b o e n hb hx=>?_,fun b o e n hb hx=>?_,I.base.free,fun b o e hx=>?_,I.base.tups,I.base.frzs,I.base.tbls⟩,⟨_,hn',fun j y v' e1 e2 e3=>?_⟩,fun y c e=>?_,I.free,I.freeC,fun p hp=>?_,tracked ⟨oL,hoL,I.free⟩ hs,by simpa using I.len⟩ ⟨_,hs,.inl rfl⟩
  ·exact(hs.2 b (Nat.ne_of_lt (Nat.lt_of_lt_of_le (Heap.lt_size e) I.ok.above))).trans (I.base.keep b o e n hb hx)
  ·obtain ⟨sl, e1⟩ := I.base.slot b o e n hb hx
   exact⟨sl,(hs.2 b (Nat.ne_of_lt (Nat.lt_of_lt_of_le (Heap.lt_size e) I.ok.above))).trans e1⟩
  ·obtain ⟨o', e1⟩ := I.base.there b o e hx
   exact⟨o',(hs.2 b (Nat.ne_of_lt (Nat.lt_of_lt_of_le (Heap.lt_size e) I.ok.above))).trans e1⟩
  ·by_cases hj : j = i
   ·subst hj
    rw[hi] at e1;cases e1
    rw[getElem?_set_self hiσ] at e2
    cases e2
    exact⟨u,r,.inl ⟨hk,by simp⟩⟩
   ·rw [List.getElem?_set_ne (Ne.symm hj)] at e2
    obtain⟨u',r',q⟩:=hl j y v' e1 e2 e3
    refine⟨u',r',?_⟩
    rcases q with ⟨k,e⟩ | ⟨k,c,e,z⟩
    ·refine .inl ⟨k, ?_⟩
     have:y≠x:=fun e=>hj (nodup_ix hN e1 (e ▸ hi))
     simp[this,e]
    ·exact .inr ⟨k,c,e,z.sameBut hs (cne y c e)⟩
  ·obtain ⟨w', z⟩ := I.cell y c e
   exact⟨w',z.sameBut hs (cne y c e)⟩
  ·obtain ⟨e, n, ne, nf, d⟩ := I.pin p hp
   exact⟨(hs.2 p.1 ne).trans e,n,ne,nf,d⟩
 ·have hfn : X.fn x = true := by
   rcases hf with z | z
   ·exact z
   ·rw[z] at hk;cases hk
  obtain⟨c,hc⟩:=I.ok.has x (.inl hk)
  obtain⟨w',z⟩:=I.cell x c hc
  refine wpAny_storeName_cell I.ok.kind hk hc z (fun h' hc' hs=>?_)
  obtain⟨oc,hoc,hocd⟩:=id z
  refine h { s with heap:=h' } ⟨I.ok,I.os,I.bare,⟨fun b o e n hb hx=>?_,fun b o e n hb hx=>?_,I.base.free,fun b o e hx=>?_,I.base.tups,I.base.frzs,I.base.tbls⟩,⟨m,hn.sameBut hs (Ne.symm (cne x c hc)),fun j y v' e1 e2 e3=>?_⟩,fun y c' e=>?_,I.free,I.freeC,fun p hp=>?_,tracked ⟨oc,hoc,I.freeC x c hc⟩ hs,by simpa using I.len⟩ ⟨c,hs,.inr hc⟩
  ·exact(hs.2 b (Nat.ne_of_lt (Nat.lt_of_lt_of_le (Heap.lt_size e) (I.ok.cab x c hfn hc)))).trans (I.base.keep b o e n hb hx)
  ·obtain ⟨sl, e1⟩ := I.base.slot b o e n hb hx
   exact⟨sl,(hs.2 b (Nat.ne_of_lt (Nat.lt_of_lt_of_le (Heap.lt_size e) (I.ok.cab x c hfn hc)))).trans e1⟩
  ·obtain ⟨o', e1⟩ := I.base.there b o e hx
   exact⟨o',(hs.2 b (Nat.ne_of_lt (Nat.lt_of_lt_of_le (Heap.lt_size e) (I.ok.cab x c hfn hc)))).trans e1⟩
  ·by_cases hj : j = i
   ·subst hj
    rw[hi] at e1;cases e1
    rw[getElem?_set_self hiσ] at e2
    cases e2
    exact⟨u,r,.inr ⟨.inl hk,c,hc,hc'⟩⟩
   ·rw [List.getElem?_set_ne (Ne.symm hj)] at e2
    obtain⟨u',r',q⟩:=hl j y v' e1 e2 e3
    refine⟨u',r',?_⟩
    rcases q with q | ⟨k,c',e,z'⟩
    ·exact .inl q
    ·refine .inr ⟨k, c', e, z'.sameBut hs ?_⟩
     rintro rfl
     exact hj (nodup_ix hN e1 (I.ok.inj _ _ _ e hc ▸ hi))
  ·by_cases hcc : c' = c
   ·subst hcc;exact⟨_,hc'⟩
   ·obtain ⟨w2, z2⟩ := I.cell y c' e
    exact⟨w2,z2.sameBut hs hcc⟩
  ·obtain ⟨e, n, ne, nf, d⟩ := I.pin p hp
   refine⟨(hs.2 p.1 ?_).trans e,n,ne,nf,d⟩
   intro q
   rw[q,hoc] at e
   have q':oc=p.2:=Option.some.inj e
   exact d w' (by rw[<- q'];exact hocd)
private theorem store_ok{M:Model}{A:Around}{E:Value->Shared->Prop}{i:Nat}{x:Str}{v:V}{u:Value}{Q:Unit->Shared->Prop}(I:Inv X pins σ H s)(hN:X.N.Nodup)(hi:X.N[i]?=some x)(hx:Loc X.env.scope x)(r:RelV v u)
  (h:∀ s',Inv X pins (σ.set i (some v)) H s'->Q () s') (hf:X.fn x=true\/X.env.scope.names.lookup x=some .local:=by first | exact .inl rfl | exact .inr rfl | assumption):wpAny M A (storeName X.env x u) Q E s :=
 store_ok2 I hN hi hx r (fun s' I' _=>h s' I') hf
private theorem Inv.call'{s':Shared}{ch:List Addr}(I:Inv X pins σ H s)(ho:s'.os=s.os)(u:Un (frs X.stack) ch H H' s.heap s'.heap)(hok:HOk X.prog X.w H' s'.heap)(hg:AllBare s'.gens)
  (hch:∀ b∈ch,(b∈X.ex\/X.s₀.heap.objs.size<=b)/\b≠X.env.locals/\(∀ x c,X.env.cells.lookup x=some c->c≠b)/\∀ p∈X.pn++pins,p.1≠b):Inv X pins σ H' s':=by
 obtain⟨h',g',d',t',o'⟩:=s'
 have e:o'=s.os:=ho
 subst e
 exact I.call (g':=g') (t':=t') (d':=d') u hok hg hch
end
abbrev XK:=Value->Option Addr->Hp->Prop
abbrev St:=List (Option V)
abbrev VK:=V->Hp->Prop
abbrev TE:=St->Hp->VK->Prop
abbrev TT:=St->Hp->(Bool->Hp->Prop)->Prop
abbrev TA:=St->Hp->(List V->Hp->Prop)->Prop
structure Ends where
 nx:St->Hp->Prop
 rt:VK
 bk:St->Hp->Prop:=fun _ _=>False
 ct:St->Hp->Prop:=fun _ _=>False
abbrev TS:=Ends->St->Hp->Prop
def EP(X:Cx)(pins:List (Addr × Obj))(σ:St)(Q:VK)(u:Value)(s':Shared):Prop:=∃ v H',Inv X pins σ H' s'/\RelV v u/\Q v H'
def TP(X:Cx)(pins:List (Addr × Obj))(σ:St)(Q:Bool->Hp->Prop)(b:Bool)(s':Shared):Prop:=∃ H',Inv X pins σ H' s'/\Q b H'
def AP(X:Cx)(pins:List (Addr × Obj))(σ:St)(Q:List V->Hp->Prop)(us:List Value)(s':Shared):Prop:=∃ vs H',Inv X pins σ H' s'/\Vals vs us/\Q vs H'
def SP(X:Cx)(pins:List (Addr × Obj))(D:Ends)(f:Flow)(s':Shared):Prop :=
 match f with
 | .next=>∃ σ' H',Inv X pins σ' H' s'/\D.nx σ' H'
 | .brk=>∃ σ' H',Inv X pins σ' H' s'/\D.bk σ' H'
 | .cont=>∃ σ' H',Inv X pins σ' H' s'/\D.ct σ' H'
 | .ret u=>∃ v σ' H',Inv X pins σ' H' s'/\RelV v u/\D.rt v H'
def PE(X:Cx)(e:Expr)(t:TE):Prop :=
 ∀ (pins:List (Addr × Obj)) (s:Shared) (σ:St) (H:Hp) (Q:VK),Inv X pins σ H s->t σ H Q->wpAny (model X.prog X.w) X.A (eval e X.env) (EP X pins σ Q) X.xe s
def PT(X:Cx)(e:Expr)(t:TT):Prop :=
 ∀ (pins:List (Addr × Obj)) (s:Shared) (σ:St) (H:Hp) (Q:Bool->Hp->Prop),Inv X pins σ H s->t σ H Q->wpAny (model X.prog X.w) X.A (isTrue e X.env (eval e X.env)) (TP X pins σ Q) X.xe s
def PW(X:Cx)(e:Expr)(t:TT):Prop :=
 ∀ (whole:Sem Value) (pins:List (Addr × Obj)) (s:Shared) (σ:St) (H:Hp) (Q:Bool->Hp->Prop),Inv X pins σ H s->t σ H Q->wpAny (model X.prog X.w) X.A (isTrue e X.env whole) (TP X pins σ Q) X.xe s
private theorem PW.pt{X:Cx}{e:Expr}{t:TT}(h:PW X e t):PT X e t:=h _
def PA(X:Cx)(es:List Expr)(t:TA):Prop :=
 ∀ (pos:Pos) (pins:List (Addr × Obj)) (s:Shared) (σ:St) (H:Hp) (Q:List V->Hp->Prop),Inv X pins σ H s->t σ H Q->wpAny (model X.prog X.w) X.A (spliced (backTo pos (starEach es X.env))) (AP X pins σ Q) X.xe s
def PS(X:Cx)(st:Stmt)(t:TS):Prop :=
 ∀ (pins:List (Addr × Obj)) (s:Shared) (σ:St) (H:Hp) (D:Ends),Inv X pins σ H s->t D σ H->wpAny (model X.prog X.w) X.A (exec st X.env) (SP X pins D) X.xe s
def PSs(X:Cx)(st:List Stmt)(t:TS):Prop :=
 ∀ (pins:List (Addr × Obj)) (s:Shared) (σ:St) (H:Hp) (D:Ends),Inv X pins σ H s->t D σ H->wpAny (model X.prog X.w) X.A (execs st X.env) (SP X pins D) X.xe s
private theorem thn{α:Type}{t:Sem α}{Q Q':α->Shared->Prop}{M:Model}{A:Around}{E:Value->Shared->Prop}{s:Shared}(h:wpAny M A t Q E s)(hQ:∀ a s,Q a s->Q' a s):wpAny M A t Q' E s:=wpAny_mono h hQ fun _ _ x=>x
end L2
namespace L2
section
variable {X:Cx}
def tVar(i:Nat):TE:=fun σ H Q=>∃ v,σ[i]?=some (some v)/\Q v H
def tC(v:V):TE:=fun _ H Q=>Q v H
private theorem pe_var{i:Nat}{x:Str}{pos:Pos}(hN:X.N[i]?=some x)(hv:Vis X.env.scope x)(hd:(x == ("__debug__" : Str))=false:=by decide)(hcd:(x == ("__classdict__" : Str))=false:=by decide):PE X (.Name x pos) (tVar i):=by
 intro pins s σ H Q I h
 obtain⟨v,e,h⟩:=h
 obtain⟨m,hn,hl⟩:=I.loc
 obtain⟨u,r,l⟩:=hl i x v hN e hv
 have fin:EP X pins σ Q u s:=⟨v,H,I,r,h⟩
 rcases l with ⟨hk,hm⟩ | ⟨hk,c,hc,hcell⟩
 ·exact wpAny_Name (wpAny_loadName_local I.ok.kind hk hn hm fin) hd
 ·rcases hk with hk | hk
  ·exact wpAny_Name (wpAny_loadName_cell I.ok.kind hk hc hcell fin) hd
  ·exact wpAny_Name (wpAny_loadName_free I.ok.kind hk hc hcell fin hcd) hd
private theorem pe_int{i j pos}:PE X (.Constant (.int i) j pos) (tC (.int i)):=fun _ _ _ H _ I h=>wpAny_Constant_int ⟨.int i,H,I.tok _,⟨_,rfl⟩,h⟩
private theorem pe_bl{b j pos}:PE X (.Constant (.bool b) j pos) (tC (.bl b)):=fun _ _ _ H _ I h=>Constant_bool ⟨.bl b,H,I,rfl,h⟩
private theorem pe_non{j pos}:PE X (.Constant .none j pos) (tC .non):=fun _ _ _ H _ I h=>Constant_none ⟨.non,H,I,rfl,h⟩
private theorem pe_str{x j pos}:PE X (.Constant (.str x) j pos) (tC (.str x)):=fun _ _ _ H _ I h=>Calls.Constant_str ⟨.str x,H,I.tok _,⟨_,rfl⟩,h⟩
def Gl(X:Cx)(x:Str):Prop:=X.env.kindOf x=some .globalImplicit
private theorem ld_glob{E:Value->Shared->Prop}{pins:List (Addr × Obj)}{s:Shared}{σ:St}{H:Hp}{x:Str}{u:Value}{pos:Pos}{Q:Value->Shared->Prop}(I:Inv X pins σ H s)(hg:Gl X x)(hm:X.mg x=some u)(h:Q u s)
  (hd:(x == ("__debug__" : Str))=false:=by decide):wpAny (model X.prog X.w) X.A (eval (.Name x pos) X.env) Q E s :=
 Calls.Name_function_global I.ok.kind hg (Calls.loadGlobal_global (by rw[I.ok.glob];exact I.mod.glob.keeps I.bk) hm h) hd
private theorem ld_blt{E:Value->Shared->Prop}{pins:List (Addr × Obj)}{s:Shared}{σ:St}{H:Hp}{x:Str}{u:Value}{pos:Pos}{Q:Value->Shared->Prop}(I:Inv X pins σ H s)(hg:Gl X x)(hm:X.mg x=none)(hv:bootBuiltins x=some u)(h:Q u s)
  (hn:x ≠ "__name__" := by decide) (hd:(x == ("__debug__" : Str))=false:=by decide):wpAny (model X.prog X.w) X.A (eval (.Name x pos) X.env) Q E s:=by
 obtain⟨mb,h1,h2⟩:=I.mod.blt
 exact Calls.Name_function_global I.ok.kind hg (Calls.loadGlobal_builtin (by rw[I.ok.glob];exact I.mod.glob.keeps I.bk) hm (by rw[I.ok.blt];exact h1.keeps I.bk) ((h2 x hn).trans hv) h) hd
private theorem pe_glob{x:Str}{v:V}{u:Value}{pos:Pos}(hg:Gl X x)(hm:X.mg x=some u)(r:RelV v u)(hd:(x == ("__debug__" : Str))=false:=by decide):PE X (.Name x pos) (tC v) :=
 fun _ _ _ H _ I h=>ld_glob I hg hm ⟨v,H,I,r,h⟩ hd
variable {a b:Expr} {ta tb:TE} {pos:Pos}
def tB(t:TE):TT:=fun σ H Q=>t σ H fun x H1=>∃ c,x=.bl c/\Q c H1
private theorem pt_val{e:Expr}{t:TE}(h:PE X e t)(he:∀ whole,isTrue e X.env whole=(do let v <- whole;standAt e.pos;holding [v] (truthy v)):=by intro _;rfl):PT X e (tB t):=by
 intro pins s σ H Q I hw
 refine isTrue_plain (thn (h pins s σ H _ I hw) fun v s1 ⟨x,H1,I1,r1,q1⟩=>?_) (he _)
 obtain⟨d,rfl,q⟩:=q1
 cases r1
 exact wpAny_truthy_bool ⟨H1,I1,q⟩
variable {tA tB':TT} {rest:List Expr}
def tAnd(t u:TT):TT:=fun σ H Q=>t σ H fun c H1=>if c=true then u σ H1 Q else Q false H1
def tOr(t u:TT):TT:=fun σ H Q=>t σ H fun c H1=>if c=true then Q true H1 else u σ H1 Q
def tNot(t:TT):TT:=fun σ H Q=>t σ H fun c H1=>Q (!c) H1
private theorem pw_and1(ha:PT X a tA):PW X (.BoolOp .And [a] pos) tA:=by
 intro wh pins s σ H Q I h
 refine isTrue_and (thn (ha pins s σ H Q I h) fun c s1 e=>?_)
 cases c with
 | true=>exact isTrue_and_nil e
 | false=>exact e
private theorem pw_or1(ha:PT X a tA):PW X (.BoolOp .Or [a] pos) tA:=by
 intro wh pins s σ H Q I h
 refine isTrue_or (thn (ha pins s σ H Q I h) fun c s1 e=>?_)
 cases c with
 | false=>exact isTrue_or_nil e
 | true=>exact e
private theorem pw_and(ha:PT X a tA)(hb:PW X (.BoolOp .And (b::rest) pos) tB'):PW X (.BoolOp .And (a::b::rest) pos) (tAnd tA tB'):=by
 intro wh pins s σ H Q I h
 refine isTrue_and (thn (ha pins s σ H _ I h) fun c s1 ⟨H1,I1,q1⟩=>?_)
 cases c with
 | true=>exact hb wh pins s1 σ H1 Q I1 q1
 | false=>exact⟨H1,I1,q1⟩
private theorem pw_or(ha:PT X a tA)(hb:PW X (.BoolOp .Or (b::rest) pos) tB'):PW X (.BoolOp .Or (a::b::rest) pos) (tOr tA tB'):=by
 intro wh pins s σ H Q I h
 refine isTrue_or (thn (ha pins s σ H _ I h) fun c s1 ⟨H1,I1,q1⟩=>?_)
 cases c with
 | true=>exact⟨H1,I1,q1⟩
 | false=>exact hb wh pins s1 σ H1 Q I1 q1
private theorem pt_not(ha:PT X a tA):PT X (.UnaryOp .Not a pos) (tNot tA):=by
 intro pins s σ H Q I h
 exact isTrue_not (ha pins s σ H (fun c H1=>Q (!c) H1) I h)
def tAndV(ta tb:TE):TE:=fun σ H Q=>ta σ H fun x H1=>∃ c,x=.bl c/\if c=true then tb σ H1 Q else Q (.bl false) H1
def tOrV(ta tb:TE):TE:=fun σ H Q=>ta σ H fun x H1=>∃ c,x=.bl c/\if c=true then Q (.bl true) H1 else tb σ H1 Q
private theorem pe_one{op}{t:TE}(h:PE X a t):PE X (.BoolOp op [a] pos) t:=fun pins s σ H Q I hw=>BoolOp_one (h pins s σ H Q I hw)
private theorem pe_and(ha:PE X a ta)(hb:PE X (.BoolOp .And (b::rest) pos) tb):PE X (.BoolOp .And (a::b::rest) pos) (tAndV ta tb):=by
 intro pins s σ H Q I h
 refine BoolOp_and (thn (ha pins s σ H _ I h) fun v s1 ⟨x,H1,I1,r1,q1⟩=>?_)
 obtain⟨c,rfl,q1⟩:=q1
 cases r1
 refine wpAny_truthy_bool ?_
 cases c with
 | true=>exact hb pins s1 σ H1 Q I1 q1
 | false=>exact⟨.bl false,H1,I1,rfl,q1⟩
private theorem pe_or(ha:PE X a ta)(hb:PE X (.BoolOp .Or (b::rest) pos) tb):PE X (.BoolOp .Or (a::b::rest) pos) (tOrV ta tb):=by
 intro pins s σ H Q I h
 refine BoolOp_or (thn (ha pins s σ H _ I h) fun v s1 ⟨x,H1,I1,r1,q1⟩=>?_)
 obtain⟨c,rfl,q1⟩:=q1
 cases r1
 refine wpAny_truthy_bool ?_
 cases c with
 | false=>exact hb pins s1 σ H1 Q I1 q1
 | true=>exact⟨.bl true,H1,I1,rfl,q1⟩
def tIf(t:TT)(ta tb:TE):TE:=fun σ H Q=>t σ H fun c H1=>if c=true then ta σ H1 Q else tb σ H1 Q
private theorem pe_ifExp{c:Expr}(hc:PT X c tA)(ha:PE X a ta)(hb:PE X b tb):PE X (.IfExp c a b pos) (tIf tA ta tb):=by
 intro pins s σ H Q I h
 refine wpAny_IfExp (thn (hc pins s σ H _ I h) fun d s1 ⟨H1,I1,q1⟩=>?_)
 cases d with
 | true=>exact ha pins s1 σ H1 Q I1 q1
 | false=>exact hb pins s1 σ H1 Q I1 q1
end
end L2
namespace L2
def SqL(K:W.Frag)(H:Hp)(a:Addr)(xs:List V):Prop :=
 Rd H a (.lst xs) \/
  ∃ (o:Obj) (its:Array Value) (n:Nat),K.lookup a=some o/\o.cls=.type "list" /\ o.dict=none/\o.data=.seq its n/\its.size<=sizeLine/\Vals xs its.toList
def SqT(K:W.Frag)(H:Hp)(a:Addr)(xs:List V):Prop :=
 Rd H a (.tup xs) \/
  ∃ (o:Obj) (its:Array Value) (n:Nat),K.lookup a=some o/\o.cls=.type "tuple" /\ o.data=.seq its n/\its.size<=sizeLine/\Vals xs its.toList
def absV:Value->Option V
 | .none=>some .non
 | .bool b=>some (.bl b)
 | .int i _=>some (.int i)
 | .str x _=>some (.str x)
 | .bytes b _=>some (.byt b)
 | .float b _=>some (.flt b)
 | .ref a=>some (.ref a)
 | .type n=>some (.ty n)
 | _=>none
private theorem RelV.abs{x:V}{u:Value}(r:RelV x u):absV u=some x:=by
 cases x with
 | non=>cases r;rfl
 | bl _=>cases r;rfl
 | int _=>obtain⟨t,rfl⟩:=r;rfl
 | str _=>obtain⟨t,rfl⟩:=r;rfl
 | byt _=>obtain⟨t,rfl⟩:=r;rfl
 | flt _=>obtain⟨t,rfl⟩:=r;rfl
 | ref _=>cases r;rfl
 | ty _=>cases r;rfl
private theorem RelV.inj{x y:V}{u:Value}(r:RelV x u)(q:RelV y u):x=y:=Option.some.inj (r.abs.symm.trans q.abs)
private theorem Vals.inj:∀ {xs ys:List V} {us:List Value},Vals xs us->Vals ys us->xs=ys
 | _,_,_,.nil,.nil=>rfl
 | _,_,_,.cons r t,.cons r' t'=>by rw[r.inj r',Vals.inj t t']
section
variable {X:Cx} {pins:List (Addr × Obj)} {σ:St} {H:Hp} {s:Shared} {a:Addr} {xs ys:List V}
private theorem SqL.of{K:W.Frag}(h:H a=some (.lst xs)):SqL K H a xs:=.inl (.inl h)
private theorem Inv.list(I:Inv X pins σ H s)(h:SqL X.K H a xs):∃ its:List Value,Vals xs its/\PlainL s.heap a its.toArray/\xs.length<=sizeLine:=by
 rcases h with h | ⟨o,its,n,hk,hc,hd,hs,hz,r⟩
 ·obtain ⟨z, its, n, r, e⟩ := h.ok I.hok
  exact⟨its,r,⟨_,n,e,rfl,rfl,rfl⟩,z⟩
 ·refine ⟨its.toList, r, ⟨o, n, I.kIn a o hk, hc, hd, by simpa using hs⟩, ?_⟩
  have e:=r.length
  simp only[Array.length_toList] at e
  lia
private theorem Inv.tuple(I:Inv X pins σ H s)(h:SqT X.K H a xs):∃ its:List Value,Vals xs its/\IsTup s.heap a its.toArray/\xs.length<=sizeLine:=by
 rcases h with h | ⟨o,its,n,hk,hc,hs,hz,r⟩
 ·obtain ⟨z, its, r, p⟩ := h.ok I.hok
  exact⟨its,r,p,z⟩
 ·refine ⟨its.toList, r, ⟨o, I.kIn a o hk, hc, n, by simpa using hs⟩, ?_⟩
  have e:=r.length
  simp only[Array.length_toList] at e
  lia
private theorem Inv.list_inj(I:Inv X pins σ H s)(h:SqL X.K H a xs)(h':SqL X.K H a ys):xs=ys:=by
 obtain⟨its,r,⟨o,n,e,_,_,d⟩,_⟩:=I.list h
 obtain⟨its',r',⟨o',n',e',_,_,d'⟩,_⟩:=I.list h'
 rw[e] at e';cases e'
 rw[d] at d'
 injection d' with d1 _
 have:its=its':=by simpa using congrArg Array.toList d1
 subst this
 exact r.inj r'
private theorem Inv.tuple_inj(I:Inv X pins σ H s)(h:SqT X.K H a xs)(h':SqT X.K H a ys):xs=ys:=by
 obtain⟨its,r,⟨o,e,_,n,d⟩,_⟩:=I.tuple h
 obtain⟨its',r',⟨o',e',_,n',d'⟩,_⟩:=I.tuple h'
 rw[e] at e';cases e'
 rw[d] at d'
 injection d' with d1 _
 have:its=its':=by simpa using congrArg Array.toList d1
 subst this
 exact r.inj r'
end
abbrev Cx.wish(X:Cx)(E:Value->Shared->Prop):Cx:={ X with xe:=E }
abbrev Cx.nox(X:Cx):Cx:=X.wish fun _ _=>False
private theorem Cx.Ok.wish{X:Cx}(ok:X.Ok)(E:Value->Shared->Prop):(X.wish E).Ok :=
 ⟨ok.mod,ok.kind,ok.glob,ok.blt,ok.above,ok.inj,ok.has,ok.cab,ok.hd,ok.frames,ok.stk,ok.exf,ok.bs,ok.bsz,ok.noex,ok.exfs,ok.funs,ok.frf⟩
private theorem Cx.Ok.unwish{X:Cx}{E:Value->Shared->Prop}(ok:(X.wish E).Ok):X.Ok :=
 ⟨ok.mod,ok.kind,ok.glob,ok.blt,ok.above,ok.inj,ok.has,ok.cab,ok.hd,ok.frames,ok.stk,ok.exf,ok.bs,ok.bsz,ok.noex,ok.exfs,ok.funs,ok.frf⟩
section
variable {X:Cx} {pins:List (Addr × Obj)} {σ:St} {H:Hp} {s:Shared} {E:Value->Shared->Prop}
private theorem Inv.wish(I:Inv X pins σ H s)(E:Value->Shared->Prop):Inv (X.wish E) pins σ H s:=⟨I.ok.wish E,I.os,I.bare,I.base,I.loc,I.cell,I.free,I.freeC,I.pin,I.hok,I.len⟩
private theorem Inv.unwish(I:Inv (X.wish E) pins σ H s):Inv X pins σ H s:=⟨I.ok.unwish,I.os,I.bare,I.base,I.loc,I.cell,I.free,I.freeC,I.pin,I.hok,I.len⟩
private theorem SP.unwish{D:Ends}{f:Flow}{s':Shared}(h:SP (X.wish E) pins D f s'):SP X pins D f s':=by
 cases f with
 | next=>obtain⟨σ',H',I,q⟩:=h;exact⟨σ',H',I.unwish,q⟩
 | brk=>obtain⟨σ',H',I,q⟩:=h;exact⟨σ',H',I.unwish,q⟩
 | cont=>obtain⟨σ',H',I,q⟩:=h;exact⟨σ',H',I.unwish,q⟩
 | ret u=>obtain⟨v,σ',H',I,r,q⟩:=h;exact⟨v,σ',H',I.unwish,r,q⟩
private theorem PSs.nox{st:List Stmt}{t:TS}(h:PSs X.nox st t):PSs X st t:=fun pins s σ H D I hw =>
 wpAny_mono (h pins s σ H D (I.wish _) hw) (fun _ _ q=>q.unwish) fun _ _ z=>False.elim z
end
section
variable {X:Cx} {st:Stmt} {rest:List Stmt} {t u:TS} {e:Expr} {te:TE} {pos:Pos}
def tNext:TS:=fun D σ H=>D.nx σ H
def tSeq(t u:TS):TS:=fun D σ H=>t { D with nx:=u D } σ H
private theorem pss_nil:PSs X [] tNext:=fun _ _ σ H _ I h=>wpAny_execs_nil ⟨σ,H,I,h⟩
private theorem pss_cons(h1:PS X st t)(h2:PSs X rest u):PSs X (st::rest) (tSeq t u):=by
 intro pins s σ H D I h
 refine wpAny_execs_cons (thn (h1 pins s σ H { D with nx:=u D } I h) fun f s1 q=>?_)
 cases f with
 | next =>
  obtain⟨σ',H',I',q⟩:=q
  exact h2 pins s1 σ' H' D I' q
 | ret v=>exact q
 | brk=>exact q
 | cont=>exact q
private theorem pss_one(h1:PS X st t):PSs X [st] t:=by
 intro pins s σ H D I h
 refine wpAny_execs_cons (thn (h1 pins s σ H D I h) fun f s1 q=>?_)
 cases f with
 | next=>exact wpAny_execs_nil q
 | ret v=>exact q
 | brk=>exact q
 | cont=>exact q
private theorem Inv.quiet{pins:List (Addr × Obj)}{σ:St}{H:Hp}{s:Shared}(I:Inv X pins σ H s):interactive X.env=false:=by simp[interactive,I.ok.kind]
def tDrop(te:TE):TS:=fun D σ H=>te σ H fun _ H1=>D.nx σ H1
private theorem ps_expr(he:PE X e te)(hs:swapsWith e none pos.line X.env=pure false:=by rfl):PS X (.Expr e pos) (tDrop te):=by
 intro pins s σ H D I h
 exact wpAny_Expr_any (thn (he pins s σ H _ I h) fun v s1 ⟨x,H1,I1,r1,q1⟩=>⟨σ,H1,I1,q1⟩) I.quiet hs
def tRet(te:TE):TS:=fun D σ H=>te σ H D.rt
private theorem ps_ret(he:PE X e te):PS X (.Return (some e) pos) (tRet te):=by
 intro pins s σ H D I h
 exact wpAny_Return_some (thn (he pins s σ H _ I h) fun v s1 ⟨x,H1,I1,r1,q1⟩=>⟨x,σ,H1,I1,r1,q1⟩)
def tIfS(c:TT)(t u:TS):TS:=fun D σ H=>c σ H fun b H1=>if b=true then t D σ H1 else u D σ H1
private theorem ps_if{c:Expr}{a b:List Stmt}{tc:TT}(hc:PT X c tc)(ha:PSs X a t)(hb:PSs X b u):PS X (.If c a b pos) (tIfS tc t u):=by
 intro pins s σ H D I h
 refine wpAny_If (thn (hc pins s σ H _ I h) fun d s1 ⟨H1,I1,q1⟩=>?_)
 cases d with
 | true=>exact ha pins s1 σ H1 D I1 q1
 | false=>exact hb pins s1 σ H1 D I1 q1
end
abbrev TG:=V->St->Hp->(St->Hp->Prop)->Prop
abbrev TGs:=List V->St->Hp->(St->Hp->Prop)->Prop
def PG(X:Cx)(target:Expr)(t:TG):Prop :=
 ∀ (pins:List (Addr × Obj)) (s:Shared) (σ:St) (H:Hp) (v:V) (u:Value) (Q:St->Hp->Prop),Inv X pins σ H s->RelV v u->t v σ H Q ->
  wpAny (model X.prog X.w) X.A (assign target X.env u) (fun _ s'=>∃ σ' H',Inv X pins σ' H' s'/\Q σ' H') X.xe s
def PGs(X:Cx)(ts:List Expr)(t:TGs):Prop :=
 ∀ (pins:List (Addr × Obj)) (s:Shared) (σ:St) (H:Hp) (vs:List V) (us:List Value) (Q:St->Hp->Prop),Inv X pins σ H s->Vals vs us->t vs σ H Q ->
  wpAny (model X.prog X.w) X.A (assignInOrder ((assignEach ts X.env).map (·.2)) us) (fun _ s'=>∃ σ' H',Inv X pins σ' H' s'/\Q σ' H') X.xe s
abbrev TSet:=V->V->V->Hp->(Hp->Prop)->Prop
def PSet(X:Cx)(t:TSet):Prop :=
 ∀ (pins:List (Addr × Obj)) (s:Shared) (σ:St) (H:Hp) (o i v:V) (ov iv u:Value) (Q:Hp->Prop),Inv X pins σ H s->RelV o ov->RelV i iv->RelV v u->t o i v H Q ->
  wpAny (model X.prog X.w) X.A (setItem ov iv u) (fun _ s'=>∃ H',Inv X pins σ H' s'/\Q H') X.xe s
abbrev TIp:=V->V->Hp->VK->Prop
def PIp(X:Cx)(op:Operator)(t:TIp):Prop :=
 ∀ (pins:List (Addr × Obj)) (s:Shared) (σ:St) (H:Hp) (x y:V) (v u:Value) (Q:VK),Inv X pins σ H s->RelV x v->RelV y u->t x y H Q ->
  wpAny (model X.prog X.w) X.A (inplaceOp op v u) (EP X pins σ Q) X.xe s
section
variable {X:Cx} {pos:Pos}
def gName(i:Nat):TG:=fun v σ H Q=>Q (σ.set i (some v)) H
private theorem pg_name{i:Nat}{x:Str}(hN:X.N.Nodup)(hi:X.N[i]?=some x)(hx:Loc X.env.scope x)(hf:X.fn x=true\/X.env.scope.names.lookup x=some .local:=by first | exact .inl rfl | exact .inr rfl | assumption):PG X (.Name x pos) (gName i):=by
 intro pins s σ H v u Q I r h
 exact wpAny_assign_Name (store_ok I hN hi hx r (fun s' I'=>⟨_,H,I',h⟩) hf)
def gNil:TGs:=fun vs σ H Q=>vs=[]/\Q σ H
def gCons(t:TG)(u:TGs):TGs:=fun vs σ H Q=>∃ v r,vs=v::r/\t v σ H fun σ' H'=>u r σ' H' Q
private theorem pgs_nil:PGs X [] gNil:=by
 intro pins s σ H vs us Q I r h
 obtain⟨e,h⟩:=h
 subst e
 cases r
 exact assignInOrder_nil ⟨σ,H,I,h⟩
private theorem pgs_cons{e:Expr}{es:List Expr}{t:TG}{u:TGs}(h1:PG X e t)(h2:PGs X es u)
  (hs:(assignEach (e::es) X.env).map (·.2)=assign e X.env::(assignEach es X.env).map (·.2):=by rfl):PGs X (e::es) (gCons t u):=by
 intro pins s σ H vs us Q I r h
 obtain⟨v,vr,e1,h⟩:=h
 subst e1
 cases r with
 | cons r rr =>
  rw[hs]
  refine assignInOrder_cons (thn (h1 pins s σ H _ _ _ I r h) fun _ s1 ⟨σ1,H1,I1,q1⟩=>?_)
  exact h2 pins s1 σ1 H1 _ _ Q I1 rr q1
def gTup(K:W.Frag)(n:Nat)(t:TGs):TG:=fun v σ H Q=>∃ a xs,v=.ref a/\SqT K H a xs/\xs.length=n/\t xs σ H Q
private theorem pg_tup{es:List Expr}{k:Nat}{t:TGs}{n:Nat}(hc:X.calm=true)(h:PGs X es t)
  (hn:(assignEach es X.env).length=n:=by rfl) (hst:(assignEach es X.env).findIdx? (·.1)=none:=by rfl):PG X (.Tuple es k pos) (gTup X.K n t):=by
 intro pins s σ H v u Q I r hw
 obtain⟨a,xs,e1,hq,hl,hw⟩:=hw
 subst e1
 cases r
 obtain⟨its,rv,ht,hz⟩:=I.tuple hq
 refine assign_Tuple_tuple (I.ok.hd hc) ht (by simp[hn,<- hl,rv.length]) hst fun h' hx=>?_
 have I1:Inv X pins σ H { s with heap:=h' }:=I.kept (t':=s.toks) fun b o e=>hx b o (Nat.ne_of_lt (Heap.lt_size e)) e
 exact h pins _ σ H xs _ Q I1 (by simpa using rv) hw
def gSub(to ti:TE)(t:TSet):TG:=fun v σ H Q=>to σ H fun o H1=>ti σ H1 fun i H2=>t o i v H2 fun H3=>Q σ H3
private theorem pg_sub{o i:Expr}{to ti:TE}{t:TSet}(ho:PE X o to)(hi:PE X i ti)(hs:PSet X t)
  (ha : ∀ v, assign (.Subscript o i pos) X.env v = (do
   let ov <- holding [v] (eval o X.env)
   let iv <- holding [v,ov] (eval i X.env)
   standAt pos
   holding [v,ov,iv] (setItem ov iv v)
   release [v,ov,iv] []):=by intro _;rfl):PG X (.Subscript o i pos) (gSub to ti t):=by
 intro pins s σ H v u Q I r h
 rw[ha]
 refine wpAny_bind (wpAny_holding (thn (ho pins s σ H _ I h) fun ov s1 ⟨x,H1,I1,r1,q1⟩=>?_))
 refine wpAny_bind (wpAny_holding (thn (hi pins s1 σ H1 _ I1 q1) fun iv s2 ⟨y,H2,I2,r2,q2⟩=>?_))
 refine wpAny_bind (wpAny_standAt (wpAny_bind (wpAny_holding (thn (hs pins s2 σ H2 x y v ov iv u _ I2 r1 r2 r q2) fun _ s3 ⟨H3,I3,q3⟩=>?_))))
 exact wpAny_release ⟨σ,H3,I3,q3⟩
def tAsg(te:TE)(g:TG):TS:=fun D σ H=>te σ H fun x H1=>g x σ H1 D.nx
private theorem ps_asg{tg e:Expr}{te:TE}{g:TG}(he:PE X e te)(hg:PG X tg g)(hs:swapsWithSole [tg] e pos.line X.env=pure false:=by rfl)(hw:swappedStores [tg] e X.env=pure none:=by rfl)
  (h1:(assignEach [tg] X.env).map (·.2)=[assign tg X.env]:=by rfl):PS X (.Assign [tg] e pos) (tAsg te g):=by
 intro pins s σ H D I h
 refine wpAny_Assign_stores (thn (he pins s σ H _ I h) fun v s1 ⟨x,H1,I1,r1,q1⟩=>?_) hs hw
 rw[h1]
 exact thn (hg pins s1 σ H1 x v _ I1 r1 q1) fun _ s2 q=>q
private theorem ps_set{i:Nat}{x:Str}{e:Expr}{te:TE}{pos':Pos}(hN:X.N.Nodup)(hi:X.N[i]?=some x)(hx:Loc X.env.scope x)(he:PE X e te)(hs:swapsWith e (some (.Name x pos')) pos.line X.env=pure false:=by rfl)(hf:X.fn x=true\/X.env.scope.names.lookup x=some .local:=by first | exact .inl rfl | exact .inr rfl | assumption) :
  PS X (.Assign [.Name x pos'] e pos) (tAsg te (gName i)):=by
 intro pins s σ H D I h
 refine wpAny_Assign_Name (thn (he pins s σ H _ I h) fun v s1 ⟨y,H1,I1,r1,q1⟩=>?_) hs
 exact store_ok I1 hN hi hx r1 (fun s2 I2=>⟨_,H1,I2,q1⟩) hf
def tPar(i j:Nat)(ta:TA):TS:=fun D σ H=>ta σ H fun vs H1=>∃ v w,vs=[v,w]/\D.nx ((σ.set i (some v)).set j (some w)) H1
private theorem ps_par{i j:Nat}{x y:Str}{a b:Expr}{ta:TA}{px py pt:Pos}{kt k2 pt2}(hc:X.calm=true)(hN:X.N.Nodup)(hi:X.N[i]?=some x)(hj:X.N[j]?=some y)(hij:i≠j)
  (hx:X.env.scope.names.lookup x=some .local) (hy:X.env.scope.names.lookup y=some .local) (ha:PA X [a,b] ta)
  (hw:swappedStores [.Tuple [.Name x px,.Name y py] kt pt] (.Tuple [a,b] k2 pt2) X.env=pure (some [x,y]))
  (hs:swapsWithSole [.Tuple [.Name x px,.Name y py] kt pt] (.Tuple [a,b] k2 pt2) pos.line X.env=pure false:=by rfl) :
  PS X (.Assign [.Tuple [.Name x px,.Name y py] kt pt] (.Tuple [a,b] k2 pt2) pos) (tPar i j ta):=by
 intro pins s σ H D I h
 rw[exec_Assign_arm]
 refine wpAny_bind (wpAny_standAt ?_)
 rw[hs]
 refine wpAny_bind (wpAny_pure ?_)
 rw[if_neg (by decide)]
 refine wpAny_bind (Tuple_ (thn (ha _ pins s σ H _ I h) fun us s1 ⟨vs,H1,I1,r1,q1⟩=>?_))
 obtain⟨v,w,e1,q1⟩:=q1
 subst e1
 obtain⟨u1,u2,rfl,rv,rw'⟩:∃ u1 u2,us=[u1,u2]/\RelV v u1/\RelV w u2:=by
  cases r1 with
  | cons p q =>
   cases q with
   | cons p' q' =>
    cases q'
    exact⟨_,_,rfl,p,p'⟩
 refine wpAny_newObj_type ?_ (by show 2<=sizeLine;decide)
 have I2:Inv X pins σ H1 { s1 with heap:=s1.heap.push { cls:=.type "tuple",data:=.seq [u1,u2].toArray } }:=I1.kept (t':=s1.toks) fun b o e=>Heap.get?_push_of_some _ e
 rw[hw]
 refine wpAny_bind (wpAny_pure ?_)
 show wpAny (model X.prog X.w) X.A (do rule "assign.swapped-stores";let items <- unpackItems (.ref s1.heap.objs.size) 2 none;assignInOrder [fun v=>bindName X.env y v,fun v=>bindName X.env x v] items.reverse;pure Flow.next) _ _ _
 refine wpAny_bind (wpAny_rule (wpAny_bind (unpackItems_tuple (items:=#[u1,u2]) (I.ok.hd hc) (IsTup.new s1.heap _) fun h' hx'=>?_)))
 have I3:=I2.kept (h':=h') (t':=s1.toks) fun b o e=>hx' b o (Nat.ne_of_lt (Heap.lt_size e)) e
 show wpAny _ _ (assignInOrder [fun v=>bindName X.env y v,fun v=>bindName X.env x v] [u2,u1] >>= fun _=>pure Flow.next) _ _ _
 refine wpAny_bind (assignInOrder_cons (wpAny_bindName (store_ok I3 hN hj (.inl hy) rw' (fun s2 I4=>?_) (.inr hy))))
 refine assignInOrder_cons (wpAny_bindName (store_ok I4 hN hi (.inl hx) rv (fun s3 I5=>assignInOrder_nil (wpAny_pure ?_)) (.inr hx)))
 rw[List.set_comm _ _ (Ne.symm hij)] at I5
 exact⟨_,H1,I5,q1⟩
def tAug(i:Nat)(te:TE)(ti:TIp):TS:=fun D σ H=>∃ x,σ[i]?=some (some x)/\te σ H fun y H1=>ti x y H1 fun z H2=>D.nx (σ.set i (some z)) H2
private theorem ps_aug{i:Nat}{x:Str}{e:Expr}{te:TE}{op:Operator}{ti:TIp}{pos':Pos}(hN:X.N.Nodup)(hi:X.N[i]?=some x)(hx:Loc X.env.scope x)(he:PE X e te)(ho:PIp X op ti)(hf:X.fn x=true\/X.env.scope.names.lookup x=some .local:=by first | exact .inl rfl | exact .inr rfl | assumption) :
  PS X (.AugAssign (.Name x pos') op e pos) (tAug i te ti):=by
 intro pins s σ H D I h
 obtain⟨v,e1,h⟩:=h
 obtain⟨m,hn,hl⟩:=I.loc
 have vis:Vis X.env.scope x:=by rcases hx with k | k;exact .inl k;exact .inr (.inl k)
 obtain⟨u,r,l⟩:=hl i x v hi e1 vis
 refine wpAny_AugAssign_Name ?_
 have go:wpAny (model X.prog X.w) X.A (eval e X.env) (fun w s₂=>wpAny (model X.prog X.w) X.A (inplaceOp op u w) (fun r s₃=>wpAny (model X.prog X.w) X.A (storeName X.env x r) (fun _=>SP X pins D .next) X.xe s₃) X.xe s₂) X.xe s:=by
  refine thn (he pins s σ H _ I h) fun w s1 ⟨y,H1,I1,r1,q1⟩=>?_
  refine thn (ho pins s1 σ H1 v y u w _ I1 r r1 q1) fun z s2 ⟨zv,H2,I2,r2,q2⟩=>?_
  exact store_ok I2 hN hi hx r2 (fun s3 I3=>⟨_,H2,I3,q2⟩) hf
 rcases l with ⟨hk,hm⟩ | ⟨hk,c,hc,hcell⟩
 ·exact wpAny_loadName_local I.ok.kind hk hn hm go
 ·rcases hk with hk | hk
  ·exact wpAny_loadName_cell I.ok.kind hk hc hcell go
  ·rcases hx with k | k
   ·have : X.env.scope.names.lookup x = some .free := hk
    rw[k] at this;cases this
   ·have : X.env.scope.names.lookup x = some .free := hk
    rw[k] at this;cases this
def ipI(f:Int->Int->Int):TIp:=fun x y H Q=>∃ i j,x=.int i/\y=.int j/\Q (.int (f i j)) H
private theorem ip_add:PIp X .Add (ipI fun i j=>i+j):=by
 intro pins s σ H x y v u Q I r1 r2 h
 obtain⟨i,j,e1,e2,q⟩:=h
 subst e1;subst e2
 obtain⟨t,rfl⟩:=r1
 obtain⟨t',rfl⟩:=r2
 exact iadd_int ⟨.int _,H,I.tok _,⟨_,rfl⟩,q⟩
end
section
variable {X:Cx} {pos:Pos}
def tWhile(c:TT)(tb:TS):TS:=fun D σ H=>∃ W:Nat->St->Hp->Prop,(∃ m,W m σ H)/\∀ m σ H,W m σ H ->
 c σ H fun b H1=>if b=true then ∃ N:St->Hp->Prop,(∀ σ' H',N σ' H'->∃ m',m'<m/\W m' σ' H')/\tb { D with nx:=N,ct:=N,bk:=D.nx } σ H1 else D.nx σ H1
private theorem ps_while{c:Expr}{body:List Stmt}{tc:TT}{tb:TS}(hp:PassesOwn (model X.prog X.w) X.A X.env X.xe)(hc:PT X c tc)(hb:PSs X body tb):PS X (.While c body [] pos) (tWhile tc tb):=by
 intro pins s σ H D I h
 obtain⟨W,⟨m0,w0⟩,turn⟩:=h
 refine wpAny_While (codeAny_whileLoop (fun n s'=>∃ σ' H',Inv X pins σ' H' s'/\W n σ' H') ?_ m0 ⟨σ,H,I,w0⟩)
 rintro n s1 ⟨σ1,H1,I1,w1⟩
 refine wpAny_passesOwn hp (thn (hc pins s1 σ1 H1 _ I1 (turn n σ1 H1 w1)) fun b s2 ⟨H2,I2,q2⟩=>?_)
 cases b with
 | true =>
  obtain⟨N,hN,q2⟩:=q2
  rw[if_pos rfl]
  refine wpAny_passesOwn hp (thn (hb pins s2 σ1 H2 _ I2 q2) fun f s3 q3=>?_)
  cases f with
  | next =>
   obtain⟨σ3,H3,I3,n3⟩:=q3
   obtain⟨m',hm,w3⟩:=hN σ3 H3 n3
   exact⟨m',hm,σ3,H3,I3,w3⟩
  | cont =>
   obtain⟨σ3,H3,I3,n3⟩:=q3
   obtain⟨m',hm,w3⟩:=hN σ3 H3 n3
   exact⟨m',hm,σ3,H3,I3,w3⟩
  | brk=>exact q3
  | ret v=>exact q3
 | false =>
  rw[if_neg Bool.false_ne_true]
  exact wpAny_execs_nil ⟨σ1,H2,I2,q2⟩
end
structure It where
 go:Nat->Hp->Prop
 yld:Nat->Hp->V->Hp->Prop
 stop:Nat->Hp->Prop
def FpOk(X:Cx)(pins:List (Addr × Obj))(H:Hp)(b:Addr):Prop :=
 H b=none/\b≠X.env.locals/\b ∉ X.fs/\(b∈X.ex\/X.s₀.heap.objs.size<=b)/\(∀ x c,X.env.cells.lookup x=some c->c≠b)/\∀ p∈X.pn++pins,p.1≠b
private theorem Inv.fpOk{X:Cx}{pins:List (Addr × Obj)}{σ:St}{H H':Hp}{s:Shared}{b:Addr}(I:Inv X pins σ H s)(hb:s.heap.objs.size<=b)(hn:H' b=none):FpOk X pins H' b:=by
 refine⟨hn,Nat.ne_of_gt (Nat.lt_of_lt_of_le I.lt hb),I.nofs hb,.inr (Nat.le_trans I.sz hb),fun x c e z=>?_,fun p hp z=>?_⟩
 ·obtain ⟨v, q⟩ := I.cell x c e
  exact absurd (Nat.lt_of_lt_of_le q.lt (by rw[z];exact hb)) (Nat.lt_irrefl _)
 ·exact absurd (Nat.lt_of_lt_of_le (Heap.lt_size (I.pin p hp).1) (by rw[z];exact hb)) (Nat.lt_irrefl _)
structure Turn(P:Program)(w:World)(K:W.Frag)(tg:Expr)(J:It)(fp:List Addr)(it:Addr)(tn:Nat->Heap->Prop):Prop where
 mem:it∈fp
 obj:∀ i h,tn i h->∀ b∈fp,∃ o,h.get? b=some o/\∀ v,o.data≠.cell v
 keep:∀ i h h',tn i h->(∀ b∈fp,∀ o,h.get? b=some o->h'.get? b=some o)->tn i h'
 item:∀ (X:Cx),X.prog=P->X.w=w->X.K=K->X.calm=true->∀ (i:Nat) (pins:List (Addr × Obj)) (s:Shared) (σ:St) (H:Hp) (E:Value->Shared->Prop),Inv X pins σ H s->(∀ b∈fp,FpOk X pins H b)->tn i s.heap->J.go i H ->
  wpAny (model P w) X.A (pyNext (.ref it)) (fun r s1=>∃ u,r=some u /\
   wpAny (model P w) X.A (letOwnedTupleGo tg (.ref it) u) (fun _ s2=>∃ x H',Inv X pins σ H' s2/\RelV x u/\J.yld i H x H'/\tn (i+1) s2.heap/\∀ b∈fp,H' b=none) E s1) E s
 done:∀ (X:Cx),X.prog=P->X.w=w->X.K=K->X.calm=true->∀ (i:Nat) (pins:List (Addr × Obj)) (s:Shared) (σ:St) (H:Hp) (E:Value->Shared->Prop),Inv X pins σ H s->(∀ b∈fp,FpOk X pins H b)->tn i s.heap->J.stop i H ->
  wpAny (model P w) X.A (pyNext (.ref it)) (fun r s1=>r=none/\Inv X pins σ H s1) E s
 self:∀ (A:Around) (i:Nat) (s:Shared) (Q:Value->Shared->Prop) (E:Value->Shared->Prop),tn i s.heap->Q (.ref it) s->wpAny (model P w) A (pyIter (.ref it)) Q E s
abbrev TI:=St->Hp->(It->Hp->Prop)->Prop
def PIE(X:Cx)(pins:List (Addr × Obj))(σ:St)(tg:Expr)(R:It->Hp->Prop)(itv:Value)(s2:Shared):Prop :=
 ∃ (it:Addr) (fp:List Addr) (tn:Nat->Heap->Prop) (J:It) (H':Hp),itv=.ref it/\Inv X pins σ H' s2/\Turn X.prog X.w X.K tg J fp it tn/\tn 0 s2.heap/\(∀ b∈fp,FpOk X pins H' b)/\R J H'
def PI(X:Cx)(tg iter:Expr)(wi:TI):Prop :=
 ∀ (pins:List (Addr × Obj)) (s:Shared) (σ:St) (H:Hp) (R:It->Hp->Prop),Inv X pins σ H s->wi σ H R ->
  wpAny (model X.prog X.w) X.A (eval iter X.env) (fun v s1=>wpAny (model X.prog X.w) X.A (pyIter v) (PIE X pins σ tg R) X.xe s1) X.xe s
private theorem go_of{M : Model}{A : Around}{E : Value -> Shared -> Prop}{s : Shared}{tg : Expr}{it : Addr}{u : Value}{o : Obj}{n : String}{vs : Array Value}{Q : Unit -> Shared -> Prop}(ho : s.heap.get? it = some o)(hc : o.cls = .type n)(hd : o.data = .fields vs)
    (hn:["enumerate", "zip", "dict_itemiterator", "dict_reverseitemiterator", "odict_iterator", "itertools.zip_longest", "itertools.pairwise"].contains n=false) (hQ:Q () s):wpAny M A (letOwnedTupleGo tg (.ref it) u) Q E s:=by
  unfold letOwnedTupleGo
  cases tg <;> first
    | exact wpAny_pure hQ
    | (cases u<;>first
        | exact wpAny_pure hQ
        | (refine wpAny_bind (wpAny_load ho ?_)
           rw[hc,hd]
           show wpAny M A (if (["enumerate", "zip", "dict_itemiterator", "dict_reverseitemiterator", "odict_iterator", "itertools.zip_longest", "itertools.pairwise"].contains n&&vs[0]? == some (rawInt _))=true then _ else _) Q E s
           rw[if_neg (by intro h;rw[hn,Bool.false_and] at h;cases h)]
           exact wpAny_pure hQ))
def Itl(K:W.Frag)(a:Addr):It :=
 ⟨fun i H=>∃ xs x,SqL K H a xs/\xs[i]?=some x,fun i H x H'=>H'=H/\∀ xs,SqL K H a xs->xs[i]?=some x,fun i H=>∃ xs,SqL K H a xs/\xs.length<=i⟩
def Itt(K:W.Frag)(a:Addr):It :=
 ⟨fun i H=>∃ xs x,SqT K H a xs/\xs[i]?=some x,fun i H x H'=>H'=H/\∀ xs,SqT K H a xs->xs[i]?=some x,fun i H=>∃ xs,SqT K H a xs/\xs.length<=i⟩
def Itr(lo:Int)(n:Nat):It:=⟨fun i _=>i<n,fun i H x H'=>H'=H/\x=.int (lo+i),fun i _=>n<=i⟩
private theorem turn_list{P:Program}{w:World}{K:W.Frag}{tg:Expr}(a it:Addr):Turn P w K tg (Itl K a) [it] it (fun i h=>h.IsListIter it a i) where
 mem:=by simp
 obj:=fun i h st b hb=>by
  have e:b=it:=by simpa using hb
  subst e
  obtain⟨o,e,c,d⟩:=st
  exact⟨o,e,fun v z=>by rw[d] at z;cases z⟩
 keep:=fun i h h' st k=>st.at fun o e=>k it (by simp) o e
 item:=by
  intro X hP hw hK hc i pins s σ H E I hf st hg
  subst hP hw hK
  obtain⟨xs,x,hq,hx⟩:=hg
  obtain⟨its,rv,p,hz⟩:=I.list hq
  obtain⟨u,hu,ru⟩:=rv.get hx
  obtain⟨f0,f1,f2,f3,f4,f5⟩:=hf it (by simp)
  refine wpAny_pyNext_list_item st p.isList (x:=u) (by simpa using hu) fun h' st' sb=>?_
  have I1:Inv X pins σ H { s with heap:=h' }:=I.turned (t':=s.toks) (fun b o hb e=>(sb.2 b hb).trans e) f0 f1 f3 f4 f5
  obtain⟨o,e,c,d⟩:=id st'
  exact⟨u,rfl,go_of (s:={ s with heap:=h' }) e c d (by decide) ⟨x,H,I1,ru,⟨rfl,fun ys hy=>by rw[I.list_inj hy hq];exact hx⟩,st',fun b hb=>(hf b hb).1⟩⟩
 done:=by
  intro X hP hw hK hc i pins s σ H E I hf st hg
  subst hP hw hK
  obtain⟨xs,hq,hx⟩:=hg
  obtain⟨its,rv,p,hz⟩:=I.list hq
  obtain⟨f0,f1,f2,f3,f4,f5⟩:=hf it (by simp)
  have hl:=rv.length
  exact wpAny_pyNext_list_end (I.ok.hd hc) st p.isList (by simp;lia) fun h' eb=>⟨rfl,I.turned (t':=s.toks) (fun b o hb e=>eb b o hb e) f0 f1 f3 f4 f5⟩
 self:=fun _ _ _ _ _ st h=>wpAny_pyIter_listiter st h
private theorem turn_tuple{P:Program}{w:World}{K:W.Frag}{tg:Expr}(a it:Addr):Turn P w K tg (Itt K a) [it] it (fun i h=>h.IsTupleIter it a i) where
 mem:=by simp
 obj:=fun i h st b hb=>by
  have e:b=it:=by simpa using hb
  subst e
  obtain⟨o,e,c,d⟩:=st
  exact⟨o,e,fun v z=>by rw[d] at z;cases z⟩
 keep:=fun i h h' st k=>st.at fun o e=>k it (by simp) o e
 item:=by
  intro X hP hw hK hc i pins s σ H E I hf st hg
  subst hP hw hK
  obtain⟨xs,x,hq,hx⟩:=hg
  obtain⟨its,rv,p,hz⟩:=I.tuple hq
  obtain⟨u,hu,ru⟩:=rv.get hx
  obtain⟨f0,f1,f2,f3,f4,f5⟩:=hf it (by simp)
  refine wpAny_pyNext_tuple_item st (show s.heap.IsTuple a its.toArray from p) (x:=u) (by simpa using hu) fun h' st' sb=>?_
  have I1:Inv X pins σ H { s with heap:=h' }:=I.turned (t':=s.toks) (fun b o hb e=>(sb.2 b hb).trans e) f0 f1 f3 f4 f5
  obtain⟨o,e,c,d⟩:=id st'
  exact⟨u,rfl,go_of (s:={ s with heap:=h' }) e c d (by decide) ⟨x,H,I1,ru,⟨rfl,fun ys hy=>by rw[I.tuple_inj hy hq];exact hx⟩,st',fun b hb=>(hf b hb).1⟩⟩
 done:=by
  intro X hP hw hK hc i pins s σ H E I hf st hg
  subst hP hw hK
  obtain⟨xs,hq,hx⟩:=hg
  obtain⟨its,rv,p,hz⟩:=I.tuple hq
  obtain⟨f0,f1,f2,f3,f4,f5⟩:=hf it (by simp)
  have hl:=rv.length
  exact wpAny_pyNext_tuple_end (I.ok.hd hc) st (show s.heap.IsTuple a its.toArray from p) (by simp;lia) fun h' eb=>⟨rfl,I.turned (t':=s.toks) (fun b o hb e=>eb b o hb e) f0 f1 f3 f4 f5⟩
 self:=fun _ _ _ _ _ st h=>wpAny_pyIter_tupleiter st h
private theorem turn_range{P:Program}{w:World}{K:PySem.W.Frag}{tg:Expr}(it:Addr)(lo:Int)(n:Nat):Turn P w K tg (Itr lo n) [it] it (fun i h=>IsRangeIter h it (lo+(i:Nat)*1) ((n:Int)-(i:Nat)) 1) where
 mem:=by simp
 obj:=fun i h st b hb=>by
  have e:b=it:=by simpa using hb
  subst e
  exact⟨_,st,fun v z=>by
   have z':Data.fields _=Data.cell v:=z
   cases z'⟩
 keep:=fun i h h' st k=>k it (by simp) _ st
 item:=by
  intro X hP hw hK hc i pins s σ H E I hf st hg
  subst hP hw hK
  obtain⟨f0,f1,f2,f3,f4,f5⟩:=hf it (by simp)
  have W:=Walks.range (prog:=X.prog) (w:=X.w) (I.ok.hd hc) it lo 1 n
  refine W.item i s _ _ hg st fun v h' tk hv st' kk=>?_
  obtain⟨t,rfl⟩:=hv
  have I1:Inv X pins σ H { s with heap:=h',toks:=tk }:=I.turned (fun b o hb e=>kk b o (by simpa using hb) e) f0 f1 f3 f4 f5
  refine⟨_,rfl,go_of (s:={ s with heap:=h',toks:=tk }) (n := "range_iterator") st' rfl rfl (by decide) ⟨.int (lo+i),H,I1,⟨t,?_⟩,⟨rfl,rfl⟩,st',fun b hb=>(hf b hb).1⟩⟩
  rw[Int.mul_one]
 done:=by
  intro X hP hw hK hc i pins s σ H E I hf st hg
  subst hP hw hK
  obtain⟨f0,f1,f2,f3,f4,f5⟩:=hf it (by simp)
  exact wpAny_pyNext_range_end (I.ok.hd hc) st (by have:n<=i:=hg;lia) fun h' eb=>⟨rfl,I.turned (t':=s.toks) (fun b o hb e=>eb b o hb e) f0 f1 f3 f4 f5⟩
 self:=fun _ _ _ _ _ st h=>wpAny_pyIter_rangeiter st h
end L2
namespace L2
section
variable {X:Cx} {tg:Expr}
private theorem range_it{pins:List (Addr × Obj)}{σ:St}{H:Hp}{s:Shared}{R:It->Hp->Prop}{E:Value->Shared->Prop}{lo hi:Int}{t u v:Tok}{tk:Nat}(I:Inv X pins σ H s)(h1:-(2^62)<=lo)(h2:lo<2^62)(h3:-(2^62)<=hi)(h4:hi<2^62)
  (q:R (Itr lo (hi-lo).toNat) H):wpAny (model X.prog X.w) X.A (pyIter (.ref s.heap.objs.size)) (PIE X pins σ tg R) E { s with heap:=s.heap.push { cls:=.type "range",data:=.fields #[.int lo t,.int hi u,.int 1 v] },toks:=tk }:=by
 refine wpAny_pyIter_range (IsRange.new ..) (small_one h1 h2 h3 h4) ?_
 have I1:Inv X pins σ H { s with heap:=s.heap.push { cls:=.type "range",data:=.fields #[.int lo t,.int hi u,.int 1 v] },toks:=tk }:=I.kept fun b o e=>Heap.get?_push_of_some _ e
 refine⟨(s.heap.push { cls:=.type "range",data:=.fields #[.int lo t,.int hi u,.int 1 v] }).objs.size,[(s.heap.push { cls:=.type "range",data:=.fields #[.int lo t,.int hi u,.int 1 v] }).objs.size],_,_,H,rfl,
  I1.kept (t':=tk) fun b o e=>Heap.get?_push_of_some _ e,turn_range _ lo (hi-lo).toNat,?_,fun b hb=>?_,q⟩
 ·have e1 : lo + ((0 : Nat) : Int) * 1 = lo := by simp
  have e2:(((hi-lo).toNat:Nat):Int)-((0:Nat):Int)=Builtin.Range.rangeSize lo hi 1:=by rw[rangeSize_one];split<;>lia
  show IsRangeIter _ _ (lo+((0:Nat):Int)*1) ((((hi-lo).toNat:Nat):Int)-((0:Nat):Int)) 1
  rw[e1,e2]
  exact Heap.get?_push_size _ rfl
 ·have e : b = (s.heap.push { cls := .type "range", data := .fields #[.int lo t, .int hi u, .int 1 v] }).objs.size := by simpa using hb
  subst e
  exact I1.fpOk (Nat.le_refl _) (I1.hok.fresh (Nat.le_refl _))
def iRng1(ta:TA):TI:=fun σ H R=>ta σ H fun vs H1=>∃ j:Int,vs=[.int j]/\-(2^62)<=j/\j<2^62/\R (Itr 0 j.toNat) H1
private theorem pi_range1{a:Expr}{ta:TA}{p pos:Pos}(hg:Gl X "range")(hm:X.mg "range" = none)(ha:PA X [a] ta)(hs:starEach [a] X.env=[(false,eval a X.env)]:=by rfl):PI X tg (.Call (.Name "range" p) [a] [] pos) (iRng1 ta):=by
 intro pins s σ H R I h
 refine Call_ (ld_blt I hg hm boot_range (PyProof.Rows.callWith_type1 (thn (ha pos pins s σ H _ I h) fun us s1 ⟨vs,H1,I1,r1,q1⟩=>?_) hs rfl))
 obtain⟨j,e,q1,q2,q⟩:=q1
 subst e
 cases r1 with
 | cons r rr =>
  cases rr
  obtain⟨t,rfl⟩:=r
  exact call_range_1 (range_it I1 (by lia) (by lia) q1 q2 (by simpa using q))
def tFor(wi:TI)(g:TG)(tb:TS):TS:=fun D σ H=>wi σ H fun J H1=>∃ W:Nat->Nat->St->Hp->Prop,(∃ m,W 0 m σ H1)/\∀ i m σ H,W i m σ H ->
 (J.stop i H/\D.nx σ H)\/(J.go i H/\∃ N:St->Hp->Prop,(∀ σ' H',N σ' H'->∃ m',m'<m/\W (i+1) m' σ' H')/\∀ x H',J.yld i H x H'->g x σ H' fun σ2 H2=>tb { D with nx:=N,ct:=N,bk:=D.nx } σ2 H2)
def pinsAt(fp:List Addr)(h:Heap):List (Addr × Obj):=fp.filterMap fun b=>(h.get? b).map fun o=>(b,o)
private theorem mem_pinsAt{fp:List Addr}{h:Heap}{b:Addr}{o:Obj}(hb:b∈fp)(e:h.get? b=some o):(b,o)∈pinsAt fp h:=List.mem_filterMap.mpr ⟨b,hb,by rw[e];rfl⟩
private theorem of_pinsAt{fp:List Addr}{h:Heap}{p:Addr × Obj}(hp:p∈pinsAt fp h):p.1∈fp/\h.get? p.1=some p.2:=by
 obtain⟨b,hb,e⟩:=List.mem_filterMap.mp hp
 cases q:h.get? b with
 | none=>rw[q] at e;cases e
 | some o =>
  rw[q] at e
  have e':(b,o)=p:=Option.some.inj e
  subst e'
  exact⟨hb,q⟩
private theorem Inv.pinned{pins:List (Addr × Obj)}{σ:St}{H:Hp}{s:Shared}{fp:List Addr}(I:Inv X pins σ H s)(hf:∀ b∈fp,FpOk X pins H b)(ho:∀ b∈fp,∃ o,s.heap.get? b=some o/\∀ v,o.data≠.cell v):Inv X (pins++pinsAt fp s.heap) σ H s :=
 I.pins_of fun p hp=>(List.mem_append.mp hp).elim (fun z=>I.pin p (mem_append_right _ z)) fun z=>by
  obtain⟨hb,e⟩:=of_pinsAt z
  obtain⟨f0,f1,f2,_⟩:=hf p.1 hb
  obtain⟨o,e',d⟩:=ho p.1 hb
  rw[e] at e';cases e'
  exact⟨e,f0,f1,f2,d⟩
private theorem Inv.unpinned{pins pl:List (Addr × Obj)}{σ:St}{H:Hp}{s:Shared}(I:Inv X (pins++pl) σ H s):Inv X pins σ H s:=I.pins_of fun p hp=>I.pin p (mem_append_right _ (mem_append_left _ hp))
private theorem ps_for{iter:Expr}{body:List Stmt}{wi:TI}{g:TG}{tb:TS}{pos:Pos}(hp:PassesOwn (model X.prog X.w) X.A X.env X.xe)(hc:X.calm=true)(hi:PI X tg iter wi)(hg:PG X tg g)(hb:PSs X body tb)
  (hs:∀ x,foldedSetIterable iter X.env x=pure x:=by intro _;rfl):PS X (.For tg iter body [] pos) (tFor wi g tb):=by
 intro pins s σ H D I h
 refine wpAny_For (thn (hi pins s σ H _ I h) fun v s1 h1=>thn h1 fun itv s2 h2=>?_) hs
 obtain⟨it,fp,tn,J,H2,e,I2,T,st2,f2,W,⟨m0,w0⟩,turn⟩:=h2
 subst e
 have stat:∀ {H':Hp},(∀ b∈fp,H' b=none)->∀ b∈fp,FpOk X pins H' b:=fun hn b hb=>⟨hn b hb,(f2 b hb).2⟩
 refine codeAny_forLoop_any (fun n s'=>∃ i σ' H',Inv X pins σ' H' s'/\tn i s'.heap/\(∀ b∈fp,H' b=none)/\W i n σ' H') ?_ m0 ⟨0,σ,H2,I2,st2,fun b hb=>(f2 b hb).1,w0⟩
 rintro n s3 ⟨i,σ3,H3,I3,st3,fr3,w3⟩
 rcases turn i n σ3 H3 w3 with ⟨stop,qn⟩ | ⟨go,N,hN,step⟩
 ·refine wpAny_passesOwn hp (thn (T.done X rfl rfl rfl hc i pins s3 σ3 H3 X.xe I3 (stat fr3) st3 stop) fun r s4 ⟨hr, I4⟩ => ?_)
  subst hr
  exact wpAny_execs_nil ⟨σ3,H3,I4,qn⟩
 ·refine wpAny_passesOwn hp (thn (T.item X rfl rfl rfl hc i pins s3 σ3 H3 X.xe I3 (stat fr3) st3 go) fun r s4 ⟨u, hr, h4⟩ => ?_)
  subst hr
  refine wpAny_passesOwn hp (thn h4 fun _ s5 ⟨x,H5,I5,r5,y5,st5,fr5⟩=>?_)
  have I5':=I5.pinned (stat fr5) (T.obj _ _ st5)
  refine wpAny_passesOwn hp (thn (hg _ s5 σ3 H5 x u _ I5' r5 (step x H5 y5)) fun _ s6 ⟨σ6,H6,I6,q6⟩=>?_)
  refine wpAny_passesOwn hp (thn (hb _ s6 σ6 H6 _ I6 q6) fun f s7 q7=>?_)
  have again:∀ {σ7:St} {H7:Hp},Inv X (pins++pinsAt fp s5.heap) σ7 H7 s7->N σ7 H7->∃ m,m<n/\∃ i σ' H',Inv X pins σ' H' s7/\tn i s7.heap/\(∀ b∈fp,H' b=none)/\W i m σ' H':=fun {σ7 H7} I7 n7=>by
   obtain⟨m',hm,w7⟩:=hN σ7 H7 n7
   refine⟨m',hm,i+1,σ7,H7,I7.unpinned,T.keep _ _ _ st5 fun b hb o e=>(I7.pin (b,o) (mem_append_right _ (mem_append_right _ (mem_pinsAt hb e)))).1,fun b hb=>?_,w7⟩
   obtain⟨o,e,d⟩:=T.obj _ _ st5 b hb
   exact(I7.pin (b,o) (mem_append_right _ (mem_append_right _ (mem_pinsAt hb e)))).2.1
  cases f with
  | next=>obtain⟨σ7,H7,I7,n7⟩:=q7;exact again I7 n7
  | cont=>obtain⟨σ7,H7,I7,n7⟩:=q7;exact again I7 n7
  | brk=>obtain⟨σ7,H7,I7,q7⟩:=q7;exact⟨σ7,H7,I7.unpinned,q7⟩
  | ret v=>obtain⟨x7,σ7,H7,I7,r7,q7⟩:=q7;exact⟨x7,σ7,H7,I7.unpinned,r7,q7⟩
end
end L2
namespace L2
abbrev R2:=V->V->Hp->VK->Prop
def OpR(X:Cx)(f:Value->Value->Sem Value)(r:R2):Prop :=
 ∀ (pins:List (Addr × Obj)) (s:Shared) (σ:St) (H:Hp) (x y:V) (v u:Value) (Q:VK),Inv X pins σ H s->RelV x v->RelV y u->r x y H Q ->
  wpAny (model X.prog X.w) X.A (f v u) (EP X pins σ Q) X.xe s
def UnR(X:Cx)(f:Value->Sem Value)(r:V->Hp->VK->Prop):Prop :=
 ∀ (pins:List (Addr × Obj)) (s:Shared) (σ:St) (H:Hp) (x:V) (v:Value) (Q:VK),Inv X pins σ H s->RelV x v->r x H Q ->
  wpAny (model X.prog X.w) X.A (f v) (EP X pins σ Q) X.xe s
def CallR(X:Cx)(f:Value)(r:List V->Hp->VK->Prop):Prop :=
 ∀ (pins:List (Addr × Obj)) (s:Shared) (σ:St) (H:Hp) (xs:List V) (us:List Value) (Q:VK),Inv X pins σ H s->Vals xs us->r xs H Q ->
  wpAny (model X.prog X.w) X.A (call f us) (EP X pins σ Q) X.xe s
def tOp(r:R2)(ta tb:TE):TE:=fun σ H Q=>ta σ H fun x H1=>tb σ H1 fun y H2=>r x y H2 Q
def tUn(r:V->Hp->VK->Prop)(ta:TE):TE:=fun σ H Q=>ta σ H fun x H1=>r x H1 Q
def rI(C:Int->Int->Prop)(g:Int->Int->V):R2:=fun x y H Q=>∃ i j,x=.int i/\y=.int j/\C i j/\Q (g i j) H
def rI0(g:Int->Int->V):R2:=fun x y H Q=>∃ i j,x=.int i/\y=.int j/\Q (g i j) H
def rU(g:Int->V):V->Hp->VK->Prop:=fun x H Q=>∃ i,x=.int i/\Q (g i) H
section
variable {X:Cx} {a b c:Expr} {ta tb tc:TE} {pos:Pos}
private theorem binT(ha:PE X a ta)(hb:PE X b tb){pins:List (Addr × Obj)}{s:Shared}{σ:St}{H:Hp}{R:V->V->Hp->Prop}(I:Inv X pins σ H s)
  (h:ta σ H fun x H1=>tb σ H1 fun y H2=>R x y H2) {Q:Value->Shared->Prop} {f:Value->Value->Sem Value}
  (hf:∀ v u s2 x y H2,Inv X pins σ H2 s2->RelV x v->RelV y u->R x y H2->wpAny (model X.prog X.w) X.A (f v u) Q X.xe s2) :
  wpAny (model X.prog X.w) X.A (eval a X.env) (fun v s₁=>wpAny (model X.prog X.w) X.A (eval b X.env) (fun u s₂=>wpAny (model X.prog X.w) X.A (f v u) Q X.xe s₂) X.xe s₁) X.xe s:=by
 refine thn (ha pins s σ H _ I h) fun v s1 ⟨x,H1,I1,r1,q1⟩=>?_
 refine thn (hb pins s1 σ H1 _ I1 q1) fun u s2 ⟨y,H2,I2,r2,q2⟩=>?_
 exact hf v u s2 x y H2 I2 r1 r2 q2
private theorem pe_op{op:Operator}{r:R2}(ho:OpR X (binaryOp op) r)(ha:PE X a ta)(hb:PE X b tb):PE X (.BinOp a op b pos) (tOp r ta tb):=by
 intro pins s σ H Q I h
 exact wpAny_BinOp (binT ha hb I h fun v u s2 x y H2 I2 rx ry q=>ho pins s2 σ H2 x y v u Q I2 rx ry q)
private theorem pe_un{op:UnaryOp}{r:V->Hp->VK->Prop}(ho:UnR X (unaryOp op) r)(ha:PE X a ta):PE X (.UnaryOp op a pos) (tUn r ta):=by
 intro pins s σ H Q I h
 exact UnaryOp_ (thn (ha pins s σ H _ I h) fun v s1 ⟨x,H1,I1,r1,q1⟩=>ho pins s1 σ H1 x v Q I1 r1 q1)
private theorem opI{f:Value->Value->Sem Value}{C:Int->Int->Prop}{g:Int->Int->Int}
  (rule:∀ (i j:Int) (t u:Tok) (s:Shared) (Q:Value->Shared->Prop) (E:Value->Shared->Prop),C i j->Q (.int (g i j) s.toks) { s with toks:=s.toks+1 }->wpAny (model X.prog X.w) X.A (f (.int i t) (.int j u)) Q E s) :
  OpR X f (rI C fun i j=>.int (g i j)):=by
 intro pins s σ H x y v u Q I rx ry h
 obtain⟨i,j,rfl,rfl,hc,q⟩:=h
 obtain⟨t,rfl⟩:=rx
 obtain⟨t',rfl⟩:=ry
 exact rule i j t t' s _ _ hc ⟨.int (g i j),H,I.tok _,⟨_,rfl⟩,q⟩
private theorem opI0{f:Value->Value->Sem Value}{g:Int->Int->Int}
  (rule:∀ (i j:Int) (t u:Tok) (s:Shared) (Q:Value->Shared->Prop) (E:Value->Shared->Prop),Q (.int (g i j) s.toks) { s with toks:=s.toks+1 }->wpAny (model X.prog X.w) X.A (f (.int i t) (.int j u)) Q E s) :
  OpR X f (rI0 fun i j=>.int (g i j)):=by
 intro pins s σ H x y v u Q I rx ry h
 obtain⟨i,j,rfl,rfl,q⟩:=h
 obtain⟨t,rfl⟩:=rx
 obtain⟨t',rfl⟩:=ry
 exact rule i j t t' s _ _ ⟨.int (g i j),H,I.tok _,⟨_,rfl⟩,q⟩
private theorem opB0{f:Value->Value->Sem Value}{g:Int->Int->Bool}
  (rule:∀ (i j:Int) (t u:Tok) (s:Shared) (Q:Value->Shared->Prop) (E:Value->Shared->Prop),Q (.bool (g i j)) s->wpAny (model X.prog X.w) X.A (f (.int i t) (.int j u)) Q E s) :
  OpR X f (rI0 fun i j=>.bl (g i j)):=by
 intro pins s σ H x y v u Q I rx ry h
 obtain⟨i,j,rfl,rfl,q⟩:=h
 obtain⟨t,rfl⟩:=rx
 obtain⟨t',rfl⟩:=ry
 exact rule i j t t' s _ _ ⟨.bl (g i j),H,I,rfl,q⟩
def CDiv(i j:Int):Prop:=0<j/\j<1073741824
def CPow(i j:Int):Prop:=0<=j/\j<=1000000/\i.natAbs<2^64
def CMul(i j:Int):Prop:=(-(2^64)<i/\i<2^64)\/(-(2^64)<j/\j<2^64)
private theorem CMul.ok{i j:Int}(h:CMul i j):IntMulOk i j:=by
 rcases h with ⟨h1,h2⟩ | ⟨h1,h2⟩
 ·exact .of_left (intBits_le_64 h1 h2)
 ·exact .of_right (intBits_le_64 h1 h2)
private theorem op_add:OpR X (binaryOp .Add) (rI0 fun i j=>.int (i+j)):=opI0 fun _ _ _ _ _ _ _ q=>add_int q
private theorem op_sub:OpR X (binaryOp .Sub) (rI0 fun i j=>.int (i-j)):=opI0 fun _ _ _ _ _ _ _ q=>sub_int q
private theorem op_mul:OpR X (binaryOp .Mult) (rI CMul fun i j=>.int (i*j)):=opI fun _ _ _ _ _ _ _ hc q=>mul_int q hc.ok
private theorem op_fdiv:OpR X (binaryOp .FloorDiv) (rI CDiv fun i j=>.int (i/j)):=opI fun i j _ _ _ _ _ hc q=>by
 have h1:(0:Int)<j:=hc.1
 have h2:j<1073741824:=hc.2
 exact floordiv_int (by lia) (by rw[Int.fdiv_eq_ediv_of_nonneg i (by lia)];exact q) (.inl (PyProof.noPylong_small (by lia)))
private theorem op_mod:OpR X (binaryOp .Mod) (rI (fun _ j=>0<j) fun i j=>.int (i%j)):=opI fun i j _ _ _ _ _ hc q=>by
 have h1:(0:Int)<j:=hc
 exact mod_int' (by lia) (by rw[Int.fmod_eq_emod_of_nonneg i (by lia)];exact q)
private theorem op_pow:OpR X (binaryOp .Pow) (rI CPow fun i j=>.int (i^j.toNat)):=opI fun _ _ _ _ _ _ _ hc q=>pow_int_small hc.1 hc.2.1 hc.2.2 q
private theorem unI{f:Value->Sem Value}{g:Int->Int}
  (rule:∀ (i:Int) (t:Tok) (s:Shared) (Q:Value->Shared->Prop) (E:Value->Shared->Prop),Q (.int (g i) s.toks) { s with toks:=s.toks+1 }->wpAny (model X.prog X.w) X.A (f (.int i t)) Q E s) :
  UnR X f (rU fun i=>.int (g i)):=by
 intro pins s σ H x v Q I rx h
 obtain⟨i,rfl,q⟩:=h
 obtain⟨t,rfl⟩:=rx
 exact rule i t s _ _ ⟨.int (g i),H,I.tok _,⟨_,rfl⟩,q⟩
private theorem un_neg:UnR X (unaryOp .USub) (rU fun i=>.int (-i)):=unI fun _ _ _ _ _ q=>neg_int q
end
def scal:V->V->Bool
 | .non,.non=>true | .non,.int _=>true | .int _,.non=>true | .non,.bl _=>true | .bl _,.non=>true | .non,.str _=>true | .str _,.non=>true
 | .int _,.int _=>true | .bl _,.bl _=>true | .str _,.str _=>true | .byt _,.byt _=>true
 | .int _,.str _=>true | .str _,.int _=>true | .bl _,.str _=>true | .str _,.bl _=>true
 | _,_=>false
def rEq:R2:=fun x y H Q=>scal x y=true/\Q (.bl (decide (x=y))) H
private theorem dec_int{i j:Int}:decide (V.int i=V.int j)=(i == j):=by
 rw[Bool.eq_iff_iff]
 simp
private theorem dec_bl{i j:Bool}:decide (V.bl i=V.bl j)=(i == j):=by
 rw[Bool.eq_iff_iff]
 simp
private theorem dec_str{i j:Str}:decide (V.str i=V.str j)=(i == j):=by
 rw[Bool.eq_iff_iff]
 simp
private theorem dec_byt{i j:Array UInt8}:decide (V.byt i=V.byt j)=(i.toList == j.toList):=by
 rw[Bool.eq_iff_iff]
 cases i
 cases j
 simp
section
variable {X:Cx} {a b c:Expr} {ta tb tc:TE} {pos:Pos}
private theorem fin_bl{pins:List (Addr × Obj)}{σ:St}{H:Hp}{s:Shared}{Q:VK}{k k':Bool}(I:Inv X pins σ H s)(q:Q (.bl k) H)(e:k=k'):EP X pins σ Q (.bool k') s:=by
 subst e
 exact⟨.bl k,H,I,rfl,q⟩
private theorem op_eq:OpR X (compareOp .Eq) rEq:=by
 intro pins s σ H x y v u Q I rx ry h
 obtain⟨hs,q⟩:=h
 cases x with
 | non =>
  cases rx
  cases y with
  | non=>cases ry;exact PySem.EqNone.eq_none_none (fin_bl I q (by simp))
  | bl j=>cases ry;exact PySem.EqNone.eq_none_bool (fin_bl I q (by simp))
  | int j=>obtain⟨t',rfl⟩:=ry;exact PySem.EqNone.eq_none_int (fin_bl I q (by simp))
  | str j=>obtain⟨t',rfl⟩:=ry;exact PySem.EqNone.eq_none_str (fin_bl I q (by simp))
  | _=>exact absurd (show false=true from hs) Bool.false_ne_true
 | bl i =>
  cases rx
  cases y with
  | non=>cases ry;exact PySem.EqNone.eq_bool_none (fin_bl I q (by simp))
  | bl j=>cases ry;exact eq_bool (fin_bl I q dec_bl)
  | str j=>obtain⟨t',rfl⟩:=ry;exact PySem.EqMixed.eq_bool_str (fin_bl I q (by simp))
  | _=>exact absurd (show false=true from hs) Bool.false_ne_true
 | int i =>
  obtain⟨t,rfl⟩:=rx
  cases y with
  | non=>cases ry;exact PySem.EqNone.eq_int_none (fin_bl I q (by simp))
  | int j=>obtain⟨t',rfl⟩:=ry;exact eq_int (fin_bl I q dec_int)
  | str j=>obtain⟨t',rfl⟩:=ry;exact PySem.EqMixed.eq_int_str (fin_bl I q (by simp))
  | _=>exact absurd (show false=true from hs) Bool.false_ne_true
 | str i =>
  obtain⟨t,rfl⟩:=rx
  cases y with
  | non=>cases ry;exact PySem.EqNone.eq_str_none (fin_bl I q (by simp))
  | bl j=>cases ry;exact PySem.EqMixed.eq_str_bool (fin_bl I q (by simp))
  | int j=>obtain⟨t',rfl⟩:=ry;exact PySem.EqMixed.eq_str_int (fin_bl I q (by simp))
  | str j=>obtain⟨t',rfl⟩:=ry;exact eq_str (fin_bl I q dec_str)
  | _=>exact absurd (show false=true from hs) Bool.false_ne_true
 | byt i =>
  obtain⟨t,rfl⟩:=rx
  cases y with
  | byt j=>obtain⟨t',rfl⟩:=ry;exact W.eq_bytes (fin_bl I q dec_byt)
  | _=>exact absurd (show false=true from hs) Bool.false_ne_true
 | _=>cases y<;>exact absurd (show false=true from hs) Bool.false_ne_true
private theorem op_lt:OpR X (compareOp .Lt) (rI0 fun i j=>.bl (decide (i<j))):=opB0 fun _ _ _ _ _ _ _ q=>lt_int q
private theorem op_le:OpR X (compareOp .LtE) (rI0 fun i j=>.bl (decide (i<=j))):=opB0 fun _ _ _ _ _ _ _ q=>le_int q
private theorem op_gt:OpR X (compareOp .Gt) (rI0 fun i j=>.bl (decide (j<i))):=opB0 fun _ _ _ _ _ _ _ q=>gt_int q
private theorem op_ge:OpR X (compareOp .GtE) (rI0 fun i j=>.bl (decide (j<=i))):=opB0 fun _ _ _ _ _ _ _ q=>ge_int q
private theorem op_isN:OpR X (compareOp .Is) (fun x y H Q=>y=.non/\Q (.bl (decide (x=.non))) H):=by
 intro pins s σ H x y v u Q I rx ry h
 obtain⟨rfl,q⟩:=h
 cases ry
 refine is_none_gen (fin_bl I q ?_)
 cases x<;>first
  | (cases rx;rfl)
  | (obtain⟨t,rfl⟩:=rx;rfl)
private theorem op_notN:OpR X (compareOp .IsNot) (fun x y H Q=>y=.non/\Q (.bl (!decide (x=.non))) H):=by
 intro pins s σ H x y v u Q I rx ry h
 obtain⟨rfl,q⟩:=h
 cases ry
 refine isnot_none_gen (fin_bl I q ?_)
 cases x<;>first
  | (cases rx;rfl)
  | (obtain⟨t,rfl⟩:=rx;rfl)
private theorem nomark(b:Expr){op:CmpOp}(h:op≠.In:=by decide)(h2:op≠.NotIn:=by decide):behindInMarks op b=false:=by
 have e1:(op == CmpOp.In)=false:=by cases op<;>first | rfl | exact absurd rfl h
 have e2:(op == CmpOp.NotIn)=false:=by cases op<;>first | rfl | exact absurd rfl h2
 cases b<;>simp[behindInMarks,e1,e2]
private theorem pe_cmpR{op:CmpOp}{r:R2}(ho:OpR X (compareOp op) r)(ha:PE X a ta)(hb:PE X b tb)(hm:behindInMarks op b=false):PE X (.Compare a [op] [b] pos) (tOp r ta tb):=by
 intro pins s σ H Q I h
 exact wpAny_Compare1 (binT ha hb I h fun v u s2 x y H2 I2 rx ry q=>ho pins s2 σ H2 x y v u Q I2 rx ry q) hm
def tTest(t:TE):TT:=fun σ H Q=>t σ H fun x H'=>∃ k,x=.bl k/\Q k H'
private theorem pt_cmpR{op:CmpOp}{r:R2}(ho:OpR X (compareOp op) r)(ha:PE X a ta)(hb:PE X b tb)(hm:behindInMarks op b=false):PT X (.Compare a [op] [b] pos) (tTest (tOp r ta tb)):=by
 intro pins s σ H Q I h
 refine wpAny_isTrue_Compare1 (thn (ha pins s σ H _ I h) fun v s1 ⟨x,H1,I1,r1,q1⟩=>thn (hb pins s1 σ H1 _ I1 q1) fun u s2 ⟨y,H2,I2,r2,q2⟩ =>
  thn (ho pins s2 σ H2 x y v u _ I2 r1 r2 q2) fun c s3 ⟨z,H3,I3,r3,k,e,q3⟩=>?_) hm
 subst e
 cases r3
 exact wpAny_truthy_bool ⟨H3,I3,q3⟩
def tChain(r r':R2)(ta tb tc:TE):TE:=fun σ H Q=>ta σ H fun x H1=>tb σ H1 fun y H2=>r x y H2 fun z H3=>∃ k,z=.bl k /\
 (if k=true then tc σ H3 fun w' H4=>r' y w' H4 Q else Q (.bl false) H3)
private theorem pt_chain{op op':CmpOp}{r r':R2}(ho:OpR X (compareOp op) r)(ho':OpR X (compareOp op') r')(ha:PE X a ta)(hb:PE X b tb)(hc:PE X c tc)
  (hm:lastMarks [op,op'] [b,c]=false:=by with_unfolding_all rfl):PT X (.Compare a [op,op'] [b,c] pos) (tTest (tChain r r' ta tb tc)):=by
 intro pins s σ H Q I h
 refine isTrue_chain (thn (ha pins s σ H _ I h) fun v s1 ⟨x,H1,I1,r1,q1⟩=>test_link (thn (hb pins s1 σ H1 _ I1 q1) fun u s2 ⟨y,H2,I2,r2,q2⟩ =>
  thn (ho pins s2 σ H2 x y v u _ I2 r1 r2 q2) fun d s3 ⟨z,H3,I3,r3,k,e,q3⟩=>?_)) hm
 subst e
 cases r3
 refine wpAny_truthy_bool ?_
 cases k with
 | false =>
  obtain⟨k',e',q'⟩:=q3
  cases e'
  exact ite_ff ⟨H3,I3,q'⟩
 | true =>
  refine ite_tt (test_last (thn (hc pins s3 σ H3 _ I3 q3) fun w' s4 ⟨z',H4,I4,r4,q4⟩=>thn (ho' pins s4 σ H4 y z' u w' _ I4 r2 r4 q4) fun d' s5 ⟨z2,H5,I5,r5,k2,e2,q5⟩=>?_))
  subst e2
  cases r5
  exact wpAny_truthy_bool ⟨H5,I5,q5⟩
private theorem line63:(sizeLine:Nat)<2^63:=by rw[sizeLine_eq];decide
private theorem op_add_str:OpR X (binaryOp .Add) (fun x y H Q=>∃ i j,x=.str i/\y=.str j/\i.length+j.length<=sizeLine/\Q (.str (i++j)) H):=by
 intro pins s σ H x y v u Q I rx ry h
 obtain⟨i,j,rfl,rfl,hz,q⟩:=h
 obtain⟨t,rfl⟩:=rx
 obtain⟨t',rfl⟩:=ry
 exact add_str (fun t' tk=>⟨.str (i++j),H,I.tok _,⟨_,rfl⟩,q⟩) hz
private theorem vals1{x:V}{us:List Value}(r:Vals [x] us):∃ u,us=[u]/\RelV x u:=by
 cases r with
 | cons r1 r2=>cases r2;exact⟨_,rfl,r1⟩
private theorem vals2{x y:V}{us:List Value}(r:Vals [x,y] us):∃ u w',us=[u,w']/\RelV x u/\RelV y w':=by
 cases r with
 | cons r1 r2 =>
  cases r2 with
  | cons r3 r4=>cases r4;exact⟨_,_,rfl,r1,r3⟩
private theorem call_abs:CallR X (.builtin "abs") (fun xs H Q=>∃ i,xs=[.int i]/\Q (.int (if i<0 then -i else i)) H):=by
 intro pins s σ H xs us Q I r h
 obtain⟨i,rfl,q⟩:=h
 obtain⟨u,rfl,t,rfl⟩:=vals1 r
 exact call_abs_int fun u tk=>⟨.int (if i<0 then -i else i),H,I.tok _,⟨_,rfl⟩,q⟩
private theorem call_max2(hc:X.calm=true):CallR X (.builtin "max") (fun xs H Q=>∃ i j,xs=[.int i,.int j]/\Q (.int (if j > i then j else i)) H):=by
 intro pins s σ H xs us Q I r h
 obtain⟨i,j,rfl,q⟩:=h
 obtain⟨u,w',rfl,⟨t,rfl⟩,⟨t',rfl⟩⟩:=vals2 r
 refine max_two_ints (I.ok.hd hc) fun h' tk k=>⟨_,H,I.kept k,?_,q⟩
 by_cases hj:j > i
 ·rw[if_pos hj,if_pos hj];exact⟨_,rfl⟩
 ·rw[if_neg hj,if_neg hj];exact⟨_,rfl⟩
private theorem call_min2(hc:X.calm=true):CallR X (.builtin "min") (fun xs H Q=>∃ i j,xs=[.int i,.int j]/\Q (.int (if j<i then j else i)) H):=by
 intro pins s σ H xs us Q I r h
 obtain⟨i,j,rfl,q⟩:=h
 obtain⟨u,w',rfl,⟨t,rfl⟩,⟨t',rfl⟩⟩:=vals2 r
 refine min_two_ints (I.ok.hd hc) fun h' tk k=>⟨_,H,I.kept k,?_,q⟩
 by_cases hj:j<i
 ·rw[if_pos hj,if_pos hj];exact⟨_,rfl⟩
 ·rw[if_neg hj,if_neg hj];exact⟨_,rfl⟩
private theorem call_int1:CallR X (.type "int") (fun xs H Q=>(∃ i,xs=[.int i]/\Q (.int i) H)\/∃ k,xs=[.bl k]/\Q (.int (if k then 1 else 0)) H):=by
 intro pins s σ H xs us Q I r h
 rcases h with ⟨i,rfl,q⟩ | ⟨k,rfl,q⟩
 ·obtain ⟨u, rfl, t, rfl⟩ := vals1 r
  exact call_int_int ⟨.int i,H,I,⟨_,rfl⟩,q⟩
 ·obtain ⟨u, rfl, r1⟩ := vals1 r
  cases r1
  exact call_int_bool ⟨.int (if k then 1 else 0),H,I.tok _,⟨_,rfl⟩,q⟩
end
end L2
namespace L2
section
variable {prog:Program} {w:World} {A:Around} {E:Value->Shared->Prop} {s:Shared} {K:W.Frag} {x dx C f:Addr} {mA:Str->Option Value} {name:Str} {v:Value}
end
private theorem RelO.some_of{v:V}{o:Option Value}(r:RelO (some v) o):∃ u,o=some u/\RelV v u:=by
 cases o with
 | none=>exact(show False from r).elim
 | some u=>exact⟨u,rfl,r⟩
section
variable {P:Program} {w:World} {H H':Hp} {h h':Heap} {a C dx:Addr} {fs fs':List (Str × V)}
end
section
variable {X:Cx} {pins:List (Addr × Obj)} {σ:St} {H:Hp} {s:Shared} {a C dx:Addr} {fs:List (Str × V)} {f:Str} {v:V} {A:Around} {E:Value->Shared->Prop}
end
section
variable {X:Cx} {o e value:Expr} {f:Str} {pos pos' tpos:Pos} {ta tv:TE}
end
section
variable {X:Cx} {pins:List (Addr × Obj)} {σ:St} {H:Hp} {s:Shared} {A:Around} {E:Value->Shared->Prop} {Q:Value->Shared->Prop} {c:Value} {b:Bool}
end
end L2
namespace L2
structure Room(k:Nat)(A:Around):Prop where
 hd:A.handled=none
 dp:A.depth+3*k+5<recursionLimit
 un:A.units+16*k+200<cLine
 gd:A.guards=some []
private theorem Room.mono{j k:Nat}{A:Around}(r:Room k A)(h:j<=k):Room j A:=⟨r.hd,by have:=r.dp;lia,by have:=r.un;lia,r.gd⟩
private theorem Room.deeper{k:Nat}{A:Around}(r:Room (k+1) A)(env:Env):Room k (A.deeper env) :=
 ⟨r.hd,by have:=r.dp;show A.depth+1+3*k+5<_;lia,by have:=r.un;show A.units+3+16*k+200<_;lia,r.gd⟩
private theorem Room.depth{k:Nat}{A:Around}(r:Room k A):A.depth<recursionLimit:=by have:=r.dp;lia
private theorem Room.units{k:Nat}{A:Around}(r:Room k A):A.units+64<cLine:=by have:=r.un;lia
def tNil:TA:=fun _ H Q=>Q [] H
def tCons(ta:TE)(tr:TA):TA:=fun σ H Q=>ta σ H fun x H1=>tr σ H1 fun xs H2=>Q (x::xs) H2
section
variable {X:Cx} {e:Expr} {es:List Expr} {te:TE} {t:TA} {pos:Pos}
private theorem pa_nil:PA X [] tNil:=fun _ _ _ _ H Q I h=>Calls.spliced_nil ⟨[],H,I,.nil,h⟩
private theorem pa_cons(ha:PE X e te)(hr:PA X es t)(hs:starEach (e::es) X.env=(false,eval e X.env)::starEach es X.env:=by rfl):PA X (e::es) (tCons te t):=by
 intro pos pins s σ H Q I h
 rw[hs]
 show wpAny _ _ (spliced ((false,eval e X.env)::backTo pos (starEach es X.env))) _ _ s
 refine Calls.spliced_cons (thn (ha pins s σ H _ I h) fun u s1 ⟨x,H1,I1,r1,q1⟩=>?_)
 exact thn (hr pos pins s1 σ H1 _ I1 q1) fun us s2 ⟨xs,H2,I2,r2,q2⟩=>⟨x::xs,H2,I2,.cons r1 r2,q2⟩
def tTup(t:TA):TE:=fun σ H Q=>t σ H fun xs H1=>xs.length<=sizeLine/\∀ p,H1 p=none->Q (.ref p) (upd H1 p (.tup xs))
def tLst(t:TA):TE:=fun σ H Q=>t σ H fun xs H1=>xs.length<=sizeLine/\∀ p,H1 p=none->Q (.ref p) (upd H1 p (.lst xs))
private theorem pe_tup{x1}(h:PA X es t):PE X (.Tuple es x1 pos) (tTup t):=by
 intro pins s σ H Q I hq
 refine wpAny_Tuple_spliced (thn (h pos pins s σ H _ I hq) fun us s1 ⟨xs,H1,I1,r,z,q⟩=>⟨by rw[<- r.length];exact z,?_⟩)
 have hf:H1 s1.heap.objs.size=none:=I1.hok.fresh (Nat.le_refl _)
 refine⟨.ref s1.heap.objs.size,upd H1 s1.heap.objs.size (.tup xs),I1.laid (t':=s1.toks) (fun b u e=>Heap.get?_push_of_some _ e) (Nat.le_refl _) ?_,rfl,q _ hf⟩
 exact⟨z,us,r,⟨_,Heap.get?_push_size _ rfl,rfl,_,rfl⟩⟩
private theorem pe_lst(h:PA X es t):PE X (.List es pos) (tLst t):=by
 intro pins s σ H Q I hq
 refine wpAny_List_spliced (thn (h pos pins s σ H _ I hq) fun us s1 ⟨xs,H1,I1,r,z,q⟩=>⟨by rw[<- r.length];exact z,?_⟩)
 have hf:H1 s1.heap.objs.size=none:=I1.hok.fresh (Nat.le_refl _)
 refine⟨.ref s1.heap.objs.size,upd H1 s1.heap.objs.size (.lst xs),I1.laid (t':=s1.toks) (fun b u e=>Heap.get?_push_of_some _ e) (Nat.le_refl _) ?_,rfl,q _ hf⟩
 exact⟨z,us,0,r,Heap.get?_push_size _ rfl⟩
end
abbrev Sp:=List V->Hp->VK->XK->Prop
abbrev CXT:=List Env->Hp->Shared->XK->Value->Shared->Prop
structure Env0(P:Program)(w:World)(K:W.Frag)(mg:Str->Option Value)(base:Heap)(A:Around)(outer:List Env)(s:Shared)(H:Hp):Prop where
 frames:A.frames=some outer
 mod:Mod K mg base
 bs:∀ b o,base.get? b=some o->s.heap.get? b=some o/\H b=none
 bsz:base.objs.size<=s.heap.objs.size
 funs:s.heap.FunFrames base outer
 frf:∀ b∈frs outer,H b=none
 hok:HOk P w H s.heap
 bare:AllBare s.gens
def CE(outer:List Env)(P:Program)(w:World)(H:Hp)(s:Shared)(Q:VK)(u:Value)(s':Shared):Prop :=
 ∃ v H',s'.os=s.os/\AllBare s'.gens/\Un (frs outer) [] H H' s.heap s'.heap/\HOk P w H' s'.heap/\RelV v u/\Q v H'
def CR(CX:CXT)(outer:List Env)(P:Program)(w:World)(H:Hp)(s:Shared)(Q:VK)(E:XK)(r:Result)(s':Shared):Prop :=
 match r with
 | .ok (.ret u)=>CE outer P w H s Q u s'
 | .ok _=>False
 | .error e=>CX outer H s E e s'
structure FnOk(P:Program)(w:World)(K:W.Frag)(mg:Str->Option Value)(base:Heap)(CX:CXT)(k:Nat)(f:Addr)(fd:FuncData)(ps:List Str)(sp:Sp):Prop where
 len:∀ vs H Q E,sp vs H Q E->vs.length=ps.length
 run:∀ (A:Around) (outer:List Env) (s:Shared) (H:Hp) (args:Args) (us:List Value) (vs:List V) (Q:VK) (E:XK),Room k A->Env0 P w K mg base A outer s H->BindsTo s fd args (ps.zip us)->Vals vs us->sp vs H Q E ->
  codeAny (model P w) A (.call (.ref f) args) (CR CX outer P w H s Q E) s
section
variable {X:Cx} {pins:List (Addr × Obj)} {σ:St} {H:Hp} {s s':Shared}
private theorem Inv.env0(I:Inv X pins σ H s):Env0 X.prog X.w X.K X.mg X.base X.A X.stack s H :=
 ⟨I.ok.frames,I.ok.mod,I.bs,Nat.le_trans I.ok.bsz I.sz,I.stack,I.stkFree,I.hok,I.bare⟩
private theorem Inv.after{Q:VK}{u:Value}(I:Inv X pins σ H s)(h:CE X.stack X.prog X.w H s Q u s'):EP X pins σ Q u s':=by
 obtain⟨v,H',os,bare,un,hok,r,q⟩:=h
 obtain⟨hh,g,d,t,os'⟩:=s'
 obtain rfl:os'=s.os:=os
 exact⟨v,H',I.call (h':=hh) (g':=g) (d':=d) (t':=t) (ch:=[]) un hok bare (fun b z=>absurd z (by simp)),r,q⟩
end
def tCall(sp:Sp)(dvs:List V)(E:XK)(t:TA):TE:=fun σ H Q=>t σ H fun vs H1=>sp (vs++dvs) H1 Q E
def Binds(K:W.Frag)(fd:FuncData)(ps:List Str)(ds:List Value):Prop :=
 ∀ (s:Shared) (us:List Value),K.In s.heap->(us++ds).length=ps.length->BindsTo s fd ⟨us,[]⟩ (ps.zip (us++ds))
private theorem Binds.all{K:W.Frag}{fd:FuncData}{ps:List Str}(h:∀ us:List Value,us.length=ps.length->bindArgs fd ⟨us,[]⟩=pure (ps.zip us)):Binds K fd ps []:=fun s us _ hl=>by
 rw[append_nil] at hl ⊢
 exact .of_eq (h us hl)
def Passes(CX:CXT)(X:Cx)(E:XK):Prop:=∀ (pins:List (Addr × Obj)) (σ:St) (H:Hp) (s:Shared) (e:Value) (s':Shared),Inv X pins σ H s->CX X.stack H s E e s'->X.xe e s'
section
variable {X:Cx} {CX:CXT} {k:Nat} {f C:Addr} {fd:FuncData} {ps:List Str} {sp:Sp} {dvs:List V} {ds:List Value} {E:XK} {x m:Str} {p pos apos:Pos} {e o:Expr} {es:List Expr} {ta:TE} {t:TA}
private theorem run_fn{pins:List (Addr × Obj)}{σ:St}{H:Hp}{s:Shared}{Q:VK}{us:List Value}{vs:List V}(F:FnOk X.prog X.w X.K X.mg X.base CX k f fd ps sp)(hr:Room k X.A)(hb:Binds X.K fd ps ds)(hd:Vals dvs ds)(hx:Passes CX X E)
  (I:Inv X pins σ H s) (r:Vals vs us) (h:sp (vs++dvs) H Q E):wpAny (model X.prog X.w) X.A (call (.ref f) us) (EP X pins σ Q) X.xe s:=by
 have r2:Vals (vs++dvs) (us++ds):=r.append hd
 have hl:(us++ds).length=ps.length:=by rw[<- r2.length];exact F.len _ _ _ _ h
 refine wpAny_call (codeAny_mono (F.run X.A X.stack s H ⟨us,[]⟩ (us++ds) (vs++dvs) Q E hr I.env0 (hb s us I.kIn hl) r2 h) fun r s' hq=>?_)
 cases r with
 | error e=>exact hx pins σ H s e s' I hq
 | ok fl =>
  cases fl with
  | ret u=>exact I.after hq
  | next=>exact False.elim hq
  | brk=>exact False.elim hq
  | cont=>exact False.elim hq
private theorem pe_call(F:FnOk X.prog X.w X.K X.mg X.base CX k f fd ps sp)(hr:Room k X.A)(hg:Gl X x)(hm:X.mg x=some (.ref f))(hk:W.keepIn X.K (.ref f)=true)(hb:Binds X.K fd ps ds)(hd:Vals dvs ds)(hx:Passes CX X E)
  (ha:PA X (e::es) t) (hdb:(x == ("__debug__" : Str))=false:=by decide) (he:starEach (e::es) X.env=(false,eval e X.env)::starEach es X.env:=by rfl) (hpl:(backTo pos (starEach es X.env)).any (·.1)=false:=by rfl) :
  PE X (.Call (.Name x p) (e::es) [] pos) (tCall sp dvs E t):=by
 intro pins s σ H Q I h
 refine wpAny_Call_Name_kw (ld_glob I hg hm ?_ hdb)
 refine W.callWith_K (h₀:=X.base) I.ok.mod.kin hk (thn (ha pos pins s σ H _ I h) fun us s1 ⟨vs,H1,I1,r,q⟩=>⟨I1.kIn,?_⟩) he hpl
 exact run_fn F hr hb hd hx I1 r q
end
section
variable {X:Cx} {CX:CXT} {k:Nat} {f C:Addr} {fd:FuncData} {ps ks:List Str} {sp:Sp} {E:XK} {x m:Str} {p pos apos kpos:Pos} {e o:Expr} {es:List Expr} {kws:List Keyword} {te ta:TE} {t tk:TA} {nm:Option Str}
variable {g:List Value->List Value->List Value} {gV:List V->List V->List V}
end
structure FnScope(N P:List Str)(sc:Scope):Prop where
 kind:sc.kind=.function
 co:sc.isCoroutine=false
 gen:sc.isGenerator=false
 nd:N.Nodup
 pre:N.take P.length=P
 par:∀ x∈P,sc.names.lookup x=some .local\/sc.names.lookup x=some .cell
 nofree:∀ y∈sc.names,y.2≠.free
private theorem bindL_out{kindOf:Str->Option NameKind}{x:Str}:∀ {binds:List (Str × Value)} {m:Str->Option Value},(∀ v,(x,v) ∉ binds)->bindL kindOf binds m x=m x
 | [],_,_=>rfl
 | (n, v) :: r, m, h => by
  unfold bindL
  rw[bindL_out fun w hw=>h w (mem_cons_of_mem _ hw)]
  split
  ·have : x ≠ n := by rintro rfl; exact h v List.mem_cons_self
   simp[this]
  ·rfl
private theorem bindC_out{kindOf:Str->Option NameKind}{x:Str}:∀ {binds:List (Str × Value)} {m:Str->Option Value},(∀ v,(x,v) ∉ binds)->bindC kindOf binds m x=m x
 | [],_,_=>rfl
 | (n, v) :: r, m, h => by
  unfold bindC
  rw[bindC_out fun w hw=>h w (mem_cons_of_mem _ hw)]
  split
  ·rfl
  ·have : x ≠ n := by rintro rfl; exact h v List.mem_cons_self
   simp[this]
private theorem bindL_get{kindOf:Str->Option NameKind}{x:Str}{v:Value}:∀ {P:List Str} {vs:List Value} {i:Nat} {m:Str->Option Value},P.Nodup->P[i]?=some x->vs[i]?=some v->kindOf x=some .local ->
  bindL kindOf (P.zip vs) m x=some v
 | [],_,_,_,_,h,_,_=>by simp at h
 | _::_,[],_,_,_,_,h,_=>by simp at h
 | p::P,w::vs,0,m,nd,h1,h2,hk=>by
  simp at h1 h2;subst h1;subst h2
  show bindL kindOf ((p,w)::P.zip vs) m p=_
  unfold bindL
  rw[bindL_out fun v hv=>(List.nodup_cons.mp nd).1 (of_mem_zip hv).1,if_pos hk]
  simp
 | p::P,w::vs,i+1,m,nd,h1,h2,hk=>by
  show bindL kindOf ((p,w)::P.zip vs) m x=_
  unfold bindL
  exact bindL_get (i:=i) (List.nodup_cons.mp nd).2 (by simpa using h1) (by simpa using h2) hk
private theorem bindC_get{kindOf:Str->Option NameKind}{x:Str}{v:Value}:∀ {P:List Str} {vs:List Value} {i:Nat} {m:Str->Option Value},P.Nodup->P[i]?=some x->vs[i]?=some v->kindOf x≠some .local ->
  bindC kindOf (P.zip vs) m x=some v
 | [],_,_,_,_,h,_,_=>by simp at h
 | _::_,[],_,_,_,_,h,_=>by simp at h
 | p::P,w::vs,0,m,nd,h1,h2,hk=>by
  simp at h1 h2;subst h1;subst h2
  show bindC kindOf ((p,w)::P.zip vs) m p=_
  unfold bindC
  rw[bindC_out fun v hv=>(List.nodup_cons.mp nd).1 (of_mem_zip hv).1,if_neg hk]
  simp
 | p::P,w::vs,i+1,m,nd,h1,h2,hk=>by
  show bindC kindOf ((p,w)::P.zip vs) m x=_
  unfold bindC
  exact bindC_get (i:=i) (List.nodup_cons.mp nd).2 (by simpa using h1) (by simpa using h2) hk
def start(N:List Str)(vs:List V):St:=vs.map some++replicate (N.length-vs.length) none
def cxOf(CX:CXT)(P:Program)(w:World)(K:W.Frag)(mg:Str->Option Value)(base:Heap)(N:List Str)(qual:Str)(scope:Scope)(f:Addr)(cd:Value)(A:Around)(outer:List Env)(s:Shared)(H:Hp)(E:XK):Cx where
 prog:=P
 w:=w
 K:=K
 mg:=mg
 base:=base
 A:=A.deeper (envOfC qual scope s.heap.objs.size f cd)
 N:=N
 s₀:=s
 H₀:=H
 env:=envOfC qual scope s.heap.objs.size f cd
 outer:=outer
 stack:=envOfC qual scope s.heap.objs.size f cd::outer
 ex:=[]
 calm:=true
 fn:=fun _=>true
 pn:=[]
 xe:=fun e s'=>wpAny (model P w) (A.deeper (envOfC qual scope s.heap.objs.size f cd)) (leaving (envOfC qual scope s.heap.objs.size f cd) e) (fun _ s''=>CX outer H s E e s'') (fun e' s''=>CX outer H s E e' s'') s'
private theorem cell_has{sc:Scope}{n:Nat}{x:Str}(h:sc.names.lookup x=some .cell):∃ c,(cellsFrom n sc.names []).lookup x=some c:=by
 have q:=W.cellsFrom_some sc.names n [] (.inl h)
 exact Option.isSome_iff_exists.mp q
private theorem inv_start{CX:CXT}{P:Program}{w:World}{K:W.Frag}{mg:Str->Option Value}{base:Heap}{N ps:List Str}{qual:Str}{scope:Scope}{f:Addr}{cd:Value}{A:Around}{outer:List Env}{s s1:Shared}{H:Hp}{E:XK}{us:List Value}{vs:List V}
  (S:FnScope N ps scope) (hd:A.handled=none) (e0:Env0 P w K mg base A outer s H) (hl:vs.length=ps.length) (r:Vals vs us)
  (x:InCallC s s.heap.objs.size (bindL (envOfC qual scope s.heap.objs.size f cd).kindOf (ps.zip us) fun _=>none) (cellsFrom (s.heap.objs.size+1) scope.names []) (bindC (envOfC qual scope s.heap.objs.size f cd).kindOf (ps.zip us) fun _=>none) s1) :
  Inv (cxOf CX P w K mg base N qual scope f cd A outer s H E) [] (start N vs) H s1:=by
 have hpl:ps.length<=N.length:=by have:=congrArg List.length S.pre;rw[length_take] at this;lia
 obtain⟨h1,tk,rfl,hk⟩:=x.done
 have noA:∀ b:Addr,b ∉ (cxOf CX P w K mg base N qual scope f cd A outer s H E).ex:=fun b z=>absurd (show b∈([]:List Addr) from z) (by simp)
 refine⟨⟨e0.mod,S.kind,rfl,rfl,Nat.le_refl _,fun y z c h1 h2=>?_,fun y hy=>?_,fun y c _ h=>?_,fun _=>hd,Around.frames_deeper e0.frames,.inr ⟨rfl,rfl⟩,fun b z=>absurd z (noA b),e0.bs,e0.bsz,fun b _ _=>noA b,fun b z=>absurd z (noA b),e0.funs,e0.frf⟩,
  rfl,e0.bare,Un.kept hk,⟨_,x.toInCall.ns,fun i y v h1 h2 h3=>?_⟩,fun y c h=>⟨_,x.cell y c h⟩,e0.hok.fresh (Nat.le_refl _),fun y c h=>?_,fun p hp=>absurd (show p∈([]:List (Addr × Obj)) from hp) (by simp),e0.hok.kept hk,?_⟩
 ·exact name_of_addr x.apart (PySem.mem_of_lookup h1) (PySem.mem_of_lookup h2)
 ·have hy : scope.names.lookup y = some .cell \/ scope.names.lookup y = some .free := hy
  rcases hy with hy | hy
  ·exact cell_has hy
  ·exact absurd rfl (S.nofree _ (PySem.mem_of_lookup hy))
 ·exact Nat.le_of_lt (x.above y c (PySem.mem_of_lookup h))
 ·have hi : i < vs.length := by
   unfold start at h2
   by_cases hi:i<vs.length
   ·exact hi
   ·rw [List.getElem?_append_right (by simpa using hi)] at h2
    rw[getElem?_replicate] at h2
    split at h2<;>cases h2
  have ha:vs[i]?=some v:=by
   unfold start at h2
   rw[getElem?_append_left (by simpa using hi),getElem?_map] at h2
   cases e:vs[i]? with
   | none=>rw[e] at h2;cases h2
   | some a=>rw[e] at h2;cases h2;rfl
  obtain⟨u,hu,rv⟩:=r.get ha
  have hp:ps[i]?=some y:=by
   rw[<- S.pre,List.getElem?_take_of_lt (by lia)];exact h1
  have ndP:ps.Nodup:=by rw[<- S.pre];exact S.nd.sublist (take_sublist _ _)
  refine⟨u,rv,?_⟩
  rcases S.par y (mem_of_getElem? hp) with k | k
  ·exact .inl ⟨k,bindL_get ndP hp hu k⟩
  ·obtain ⟨c, e⟩ := cell_has (n := s.heap.objs.size + 1) k
   refine .inr ⟨.inl k,c,e,?_⟩
   have q:=x.cell y c e
   rw[bindC_get ndP hp hu (by show scope.names.lookup y≠_;rw[k];decide)] at q
   exact q
 ·exact e0.hok.fresh (Nat.le_of_lt (x.above y c (PySem.mem_of_lookup h)))
 ·unfold start
  show _=N.length
  rw[length_append,length_map,length_replicate]
  lia
private theorem fn_of{CX:CXT}{P:Program}{w:World}{K:W.Frag}{mg:Str->Option Value}{base:Heap}{k:Nat}{f:Addr}{name qual:Str}{params:Arguments}{body:List Stmt}{scope:Scope}{dV kV doc pm cdv ct oc:Value}{an od:Option Addr}
  {osl:Array (Option Value)} {N ps:List Str} {sp:Sp} (lk:K.lookup f=some ⟨oc,od,.func (W.fnOf name qual params body scope dV kV doc pm an cdv ct),osl⟩) (hcd:W.codeIn K cdv qual=true) (S:FnScope N ps scope)
  (len:∀ vs H Q E,sp vs H Q E->vs.length=ps.length)
  (hbody : ∀ (A : Around) (outer : List Env) (s : Shared) (H : Hp) (vs : List V) (Q : VK) (E : XK), Room k (A.deeper (envOfC qual scope s.heap.objs.size f cdv)) -> sp vs H Q E ->
   ∃ t,PSs (cxOf CX P w K mg base N qual scope f cdv A outer s H E) body t/\t { nx:=fun _ H'=>Q .non H',rt:=Q } (start N vs) H) :
  FnOk P w K mg base CX (k+1) f (W.fnOf name qual params body scope dV kV doc pm an cdv ct) ps sp:=by
 refine⟨len,fun A outer s H args us vs Q E hr e0 hb r hsp=>?_⟩
 have hl:=len _ _ _ _ hsp
 have KX:K.In s.heap:=e0.mod.kin.keeps fun b o e=>(e0.bs b o e).1
 have lim:s.heap.NoLimit:=e0.mod.nolimit.keeps fun b o e=>(e0.bs b o e).1
 have hkind:∀ y∈ps.zip us,scope.names.lookup y.1=some .local\/(scope.names.lookup y.1=some .cell/\((cellsFrom (s.heap.objs.size+1) scope.names []).lookup y.1).isSome=true):=fun⟨n,v⟩ hy=>by
  rcases S.par n (of_mem_zip hy).1 with q | q
  ·exact .inl q
  ·exact .inr ⟨q,W.cellsFrom_some _ _ _ (.inl q)⟩
 refine codeAny_call_function hr.depth (KX _ _ lk) rfl S.co S.gen rfl (W.codeRec_of KX hcd) (hb _ _ _ _ ?_)
 refine wpAny_newFunctionEnv_cells S.kind hkind fun env he s1 x=>?_
 subst he
 refine⟨lim.keeps x.toInCall.keep,codeAny_func ?_⟩
 obtain⟨t,ht,hq⟩:=hbody A outer s H vs Q E (hr.deeper _) hsp
 have I:Inv (cxOf CX P w K mg base N qual scope f cdv A outer s H E) [] (start N vs) H s1:=inv_start S hr.hd e0 hl r x
 refine wpAny_mono (ht [] s1 (start N vs) H _ I hq) (fun fl s' hs=>?_) fun e s' hs=>hs
 have fin:∀ {σ':St} {H':Hp} {v:V} {u:Value},Inv (cxOf CX P w K mg base N qual scope f cdv A outer s H E) [] σ' H' s'->RelV v u->Q v H'->CE outer P w H s Q u s' :=
  fun {σ' H' v u} J rv q=>⟨v,H',J.os,J.bare,J.base,J.hok,rv,q⟩
 cases fl with
 | ret u =>
  obtain⟨v,σ',H',J,rv,q⟩:=hs
  exact fin J rv q
 | next =>
  obtain⟨σ',H',J,q⟩:=hs
  exact fin (v:=V.non) (u:=Value.none) J rfl q
 | brk =>
  obtain⟨_,_,_,q⟩:=hs
  exact False.elim q
 | cont =>
  obtain⟨_,_,_,q⟩:=hs
  exact False.elim q
end L2
namespace L2
section
variable {X:Cx} {x:Str} {p pos:Pos} {e:Expr} {es:List Expr} {t:TA} {id T:String} {r:List V->Hp->VK->Prop}
def tCB(r:List V->Hp->VK->Prop)(t:TA):TE:=fun σ H Q=>t σ H fun vs H1=>r vs H1 Q
private theorem pe_callB(hc:CallR X (.builtin id) r)(hg:Gl X x)(hm:X.mg x=none)(hv:bootBuiltins x=some (.builtin id))(ha:PA X (e::es) t)(hn:x ≠ "__name__" := by decide)(hdb:(x == ("__debug__" : Str))=false:=by decide)
  (he:starEach (e::es) X.env=(false,eval e X.env)::starEach es X.env:=by rfl) (hpl:(backTo pos (starEach es X.env)).any (·.1)=false:=by rfl):PE X (.Call (.Name x p) (e::es) [] pos) (tCB r t):=by
 intro pins s σ H Q I h
 refine wpAny_Call_Name_kw (ld_blt I hg hm hv ?_ hn hdb)
 exact PyProof.Rows.callWith_builtin1 (thn (ha pos pins s σ H _ I h) fun us s1 ⟨vs,H1,I1,r1,q1⟩=>hc pins s1 σ H1 vs us Q I1 r1 q1) he hpl
private theorem pe_callTy(hc:CallR X (.type T) r)(hg:Gl X x)(hm:X.mg x=none)(hv:bootBuiltins x=some (.type T))(ha:PA X (e::es) t)(hn:x ≠ "__name__" := by decide)(hdb:(x == ("__debug__" : Str))=false:=by decide)
  (he:starEach (e::es) X.env=(false,eval e X.env)::starEach es X.env:=by rfl) (hpl:(backTo pos (starEach es X.env)).any (·.1)=false:=by rfl):PE X (.Call (.Name x p) (e::es) [] pos) (tCB r t):=by
 intro pins s σ H Q I h
 refine wpAny_Call_Name_kw (ld_blt I hg hm hv ?_ hn hdb)
 exact PyProof.Rows.callWith_type1 (thn (ha pos pins s σ H _ I h) fun us s1 ⟨vs,H1,I1,r1,q1⟩=>hc pins s1 σ H1 vs us Q I1 r1 q1) he hpl
end
end L2
namespace HT
open PySem PyProof.Rows
def lexLt:List Int->List Int->Bool
 | [],[]=>false
 | [],_::_=>true
 | _::_,[]=>false
 | x::xs,y::ys=>if x=y then lexLt xs ys else decide (x<y)
private theorem lexLt_cons(x y:Int)(xs ys:List Int):lexLt (x::xs) (y::ys)=if x=y then lexLt xs ys else decide (x<y):=rfl
private theorem lexLt_nil_nil:lexLt [] []=false:=rfl
private theorem lexLt_nil_cons(y:Int)(ys:List Int):lexLt [] (y::ys)=true:=rfl
private theorem lexLt_cons_nil(x:Int)(xs:List Int):lexLt (x::xs) []=false:=rfl
private theorem eqAt_int(A:Around)(s:Shared)(a:Int)(t:Tok)(c:Int)(u:Tok):∃ e,SeqAt.EqAt A s (.int a t) (.int c u) e/\(e=true↔a=c) :=
 ⟨(a == c),SeqAt.EqAt.int_int a t c u,by simp⟩
private theorem rcLt_int(A:Around)(s:Shared)(a:Int)(t:Tok)(c:Int)(u:Tok)(prog:Program)(w:World)(E:Value->Shared->Prop)(Q:Value->Shared->Prop)(h:Q (.bool (decide (a<c))) s) :
  wpAny (model prog w) A (richCompare .Lt (.int a t) (.int c u)) Q E s :=
 (PyProof.Rows.lt_int h:wpAny (model prog w) A (compareOp .Lt (.int a t) (.int c u)) Q E s)
section
open PySem.SeqAt
open PySem.AutoSeq1 (wpAny_loadPart')
open PySem.MeetsSeq PySem.MeetsSeq2 PySem.MeetsSeq3
private theorem tuple_lt_ints(l b:Addr)(items items2:Array Value)(n n2:Nat)(dd dd2:Option Addr)(sl sl2:Array (Option Value))(ns ms:List Int)(hi:IntsAre items.toList ns)(hj:IntsAre items2.toList ms) :
  Meets (Builtin.«tuple.__lt__» ⟨[.ref l,.ref b],[]⟩)
   (fun _ R s => s.heap.get? l = some { cls := .type "tuple", dict := dd, data := .seq items n, slots := sl } /\ s.heap.get? b = some { cls := .type "tuple", dict := dd2, data := .seq items2 n2, slots := sl2 } /\
    R (.ok (.ret (.bool (lexLt ns ms)))) s) :=
 .of_wp fun prog w A R s h=>by
  obtain⟨hp,g,d,tk,os⟩:=s;obtain⟨hl,hb,h⟩:=h
  have f2:=AutoSeq1.sub_tuple_tuple
  have z1:items.size=ns.length:=by rw[<- hi.length];simp
  have z2:items2.size=ms.length:=by rw[<- hj.length];simp
  wp_walk using wpAny_loadPart' hl,wpAny_loadPart' hb,wpAny_forIn_list _ (fun rest b s'=>b.1=none/\s'=⟨hp,g,d,tk,os⟩/\∃ (vs ws:List Value) (ns' ms':List Int),rest=vs.zip ws /\
   IntsAre vs ns'/\IntsAre ws ms'/\ns'.length+items2.size=ms'.length+items.size/\R (.ok (.ret (.bool (lexLt ns' ms')))) ⟨hp,g,d,tk,os⟩) _
  case turn =>
   rintro⟨y,x⟩ rest b s' ⟨hb',rfl,vs,ws,ns',ms',hz,hvi,hwi,hlen,hR⟩
   cases hvi with
   | nil=>rw[List.zip_nil_left] at hz;cases hz
   | cons a t hvi' =>
    cases hwi with
    | nil=>rw[List.zip_nil_right] at hz;cases hz
    | cons c u hwi' =>
     rw[zip_cons_cons] at hz
     injection hz with hyx hrest
     injection hyx with hy hx
     subst hy hx
     rw[lexLt_cons] at hR
     simp only[length_cons] at hlen
     obtain⟨e,he,hiff⟩:=eqAt_int A.in1 ⟨hp,g,d,tk,os⟩ a t c u
     refine wpAny_bind (he prog w _ _ ?_)
     cases e with
     | true =>
      rw[if_pos (hiff.mp rfl)] at hR
      wp_walk
      exact⟨rfl,rfl,_,_,_,_,hrest,hvi',hwi',by lia,hR⟩
     | false =>
      rw[if_neg (fun q=>absurd (hiff.mpr q) Bool.false_ne_true)] at hR
      have hri:=rcLt_int A.in1 ⟨hp,g,d,tk,os⟩ a t c u prog w
      wp_walk using hri
      exact⟨_,rfl,by simpa using hR⟩
  case fin =>
   rintro⟨b1,b2⟩ s' ⟨hb',rfl,vs,ws,ns',ms',hz,hvi,hwi,hlen,hR⟩
   simp only at hb'
   subst hb'
   have hv:lexLt ns' ms'=decide (items.size<items2.size):=by
    cases hvi with
    | nil =>
     cases hwi with
     | nil =>
      simp only[length_nil] at hlen
      rw[lexLt_nil_nil]
      exact(decide_eq_false (by lia)).symm
     | cons c u hw =>
      simp only[length_nil,length_cons] at hlen
      rw[lexLt_nil_cons]
      exact(decide_eq_true (by lia)).symm
    | cons a t hv =>
     cases hwi with
     | nil =>
      simp only[length_nil,length_cons] at hlen
      rw[lexLt_cons_nil]
      exact(decide_eq_false (by lia)).symm
     | cons c u hw =>
      rw[zip_cons_cons] at hz
      cases hz
   rw[hv] at hR
   wp_walk
   exact⟨_,rfl,by simpa [Builtin.Tuple.tupleCompareSizes] using hR⟩
  case h =>
   exact⟨rfl,rfl,items.toList,items2.toList,ns,ms,rfl,hi,hj,by lia,h⟩
end
section
variable {prog:Program} {w:World} {A:Around} {E:Value->Shared->Prop} {s:Shared}
private theorem lt_tupInts{l b:Addr}{items items2:Array Value}{ns ms:List Int}{Q:Value->Shared->Prop}(hl:IsTup s.heap l items)(hb:IsTup s.heap b items2)(hi:IntsAre items.toList ns)(hj:IntsAre items2.toList ms)
  (hu:A.units<cLine) (h:Q (.bool (lexLt ns ms)) s):wpAny (model prog w) A (compareOp .Lt (.ref l) (.ref b)) Q E s:=by
 obtain⟨⟨cls,dd,data,sl⟩,ho,hc,n,hd⟩:=id hl
 obtain⟨⟨cls2,dd2,data2,sl2⟩,ho2,hc2,n2,hd2⟩:=id hb
 simp only at hc hd hc2 hd2
 subst hc hd hc2 hd2
 exact richCompare_meets_room (op:=.Lt) ⟨_,ho,rfl⟩ ⟨_,ho2,rfl⟩ PySem.F.slot_tuple_lt PySem.F.entry_tuple_lt (PySem.F.args_tuple_lt_2 _ _) (tuple_lt_ints l b items items2 n n2 dd dd2 sl sl2 ns ms hi hj)
  ⟨ho,ho2,show Value.bool (lexLt ns ms)≠Value.notImplemented/\Q (.bool (lexLt ns ms)) s from⟨(fun x=>nomatch x),h⟩⟩ hu
private theorem cat_tup{t b:Addr}{vs ws:List Value}{Q:Value->Shared->Prop}(ht:IsTup s.heap t vs.toArray)(hb:IsTup s.heap b ws.toArray)(hv:vs≠[])
  (h1:ws=[]->Q (.ref t) s) (h2:ws≠[]->Q (.ref s.heap.objs.size) { s with heap:=s.heap.push { cls:=.type "tuple",data:=.seq (vs++ws).toArray } })
  (hsz:vs.length+ws.length<=sizeLine):wpAny (model prog w) A (binaryOp .Add (.ref t) (.ref b)) Q E s:=by
 obtain⟨⟨cls,dd,data,sl⟩,ho,hc,n,hd⟩:=id ht
 obtain⟨⟨cls2,dd2,data2,sl2⟩,ho2,hc2,n2,hd2⟩:=id hb
 simp only at hc hd hc2 hd2
 subst hc hd hc2 hd2
 have e:vs.toArray++ws.toArray=(vs++ws).toArray:=by simp
 by_cases hw:ws=[]
 ·exact concat_meets ⟨_,ho,rfl⟩ ⟨_,ho2,rfl⟩ noFill_tuple_add seq_tuple_add PySem.F.slot_tuple_add PySem.F.entry_tuple_add (PySem.F.args_tuple_add_2 _ _)
   (tuple_addW1 t b vs.toArray ws.toArray n n2 dd dd2 sl sl2 (by simpa using hv) (by simp[hw])) ⟨ho,ho2,h1 hw⟩
 ·refine concat_meets ⟨_, ho, rfl⟩ ⟨_, ho2, rfl⟩ noFill_tuple_add seq_tuple_add PySem.F.slot_tuple_add PySem.F.entry_tuple_add (PySem.F.args_tuple_add_2 _ _)
   (tuple_addW2 t b vs.toArray ws.toArray n n2 dd dd2 sl sl2 (by simpa using hv) (by simpa using hw) (by rw[size_toArray,size_toArray];exact hsz)) ⟨ho,ho2,?_⟩
  rw[e]
  exact h2 hw
def sIx(n d:Nat):Option Int->Nat
 | none=>d
 | some v=>if v<0 then(v+(n:Int)).toNat else min v.toNat n
private theorem sIx_none(n d:Nat):sIx n d none=d:=rfl
private theorem sIx_nat(n d k:Nat):sIx n d (some (k:Int))=min k n:=by
 show(if (k:Int)<0 then((k:Int)+(n:Int)).toNat else min (k:Int).toNat n)=min k n
 rw[if_neg (by lia),Int.toNat_natCast]
private theorem sIx_le(n d:Nat)(hd:d<=n)(o:Option Int):sIx n d o<=n:=by
 cases o with
 | none=>exact hd
 | some v =>
  show(if v<0 then(v+(n:Int)).toNat else min v.toNat n)<=n
  by_cases hv:v<0
  ·rw[if_pos hv];lia
  ·rw[if_neg hv];exact Nat.min_le_right _ _
private theorem clip_eq(v:Int)(n d:Nat):(if v<0 then max (v+(n:Int)) 0 else min v (n:Int))=((sIx n d (some v):Nat):Int):=by
 show(if v<0 then max (v+(n:Int)) 0 else min v (n:Int))=(((if v<0 then(v+(n:Int)).toNat else min v.toNat n):Nat):Int)
 by_cases hv:v<0
 ·simp only[if_pos hv];lia
 ·simp only[if_neg hv];lia
private theorem adjust_gen(lo hi:Option Int)(n:Nat):Builtin.Slice.sliceAdjust lo hi 1 (n:Int)=(((sIx n 0 lo:Nat):Int),((sIx n n hi:Nat):Int)):=by
 have h1:¬ ((1:Int)<0):=by lia
 unfold Builtin.Slice.sliceAdjust
 simp only[h1,if_false]
 refine Prod.ext ?_ ?_
 ·cases lo with
  | none=>rfl
  | some v=>exact clip_eq v n 0
 ·cases hi with
  | none=>rfl
  | some v=>exact clip_eq v n n
private theorem places_gen(i j:Nat):Builtin.Slice.slicePlaces (i:Int) (j:Int) 1=j-i:=by
 unfold Builtin.Slice.slicePlaces
 have h1:(1:Int) > 0:=by lia
 simp only[h1,if_true,Int.ediv_one]
 split<;>lia
private theorem slicePart_{v:Value}{o:Option Int}{Q:Option Int->Shared->Prop}(p:IsPart v o)(h:Q o s):wpAny (model prog w) A (Builtin.Slice.slicePartIndex v) Q E s:=by
 cases p with
 | none=>exact slicePart_none h
 | int i t=>exact slicePart_int h
private theorem sliceApplied_gen{sl:Addr}{vl vu:Value}{lo hi:Option Int}{n:Nat}{Q:Int × Int × Nat->Shared->Prop}(hs:s.heap.IsSliceOf sl vl vu .none)(pl:IsPart vl lo)(pu:IsPart vu hi)
  (h:Q (((sIx n 0 lo:Nat):Int),1,sIx n n hi-sIx n 0 lo) s):wpAny (model prog w) A (Builtin.Slice.sliceApplied (.ref sl) (pure (n:Int))) Q E s:=by
 obtain⟨os,hos,hcs,hds⟩:=id hs
 unfold Builtin.Slice.sliceApplied Builtin.Slice.sliceFields
 refine wpAny_bind (wpAny_bind (wpAny_field hos hds (x:=vl) rfl (wpAny_bind (wpAny_field hos hds (x:=vu) rfl (wpAny_bind (wpAny_field hos hds (x:=.none) rfl (wpAny_pure ?_)))))))
 refine wpAny_bind (slicePart_none ?_)
 show wpAny _ _ (if ((1:Int) == 0)=true then _ else _) _ _ s
 rw[if_neg (by decide)]
 refine wpAny_bind (slicePart_ pl (wpAny_bind (slicePart_ pu (wpAny_bind (wpAny_pure ?_)))))
 show wpAny _ _ (match Builtin.Slice.sliceAdjust lo hi 1 (n:Int) with | (lo,hi)=>pure (lo,(1:Int),Builtin.Slice.slicePlaces lo hi 1)) _ _ s
 rw[adjust_gen lo hi n]
 show wpAny _ _ (pure (((sIx n 0 lo:Nat):Int),(1:Int),Builtin.Slice.slicePlaces ((sIx n 0 lo:Nat):Int) ((sIx n n hi:Nat):Int) 1)) _ _ s
 rw[places_gen]
 exact wpAny_pure h
private theorem pick_gen(xs:Array Value)(i k:Nat):((List.range k).filterMap fun(m:Nat)=>xs[((i:Int)+(m:Int)*1).toNat]?).toArray=((xs.toList.drop i).take k).toArray:=by
 have e:(fun(m:Nat)=>xs[((i:Int)+(m:Int)*1).toNat]?)=fun m=>xs[i+m]?:=by
  funext m
  have:((i:Int)+(m:Int)*1).toNat=i+m:=by lia
  rw[this]
 rw[e]
 have:=pick_run xs i k
 rw[List.filterMap_map] at this
 have e2:((fun x=>xs[x]?)∘fun x=>i+x)=fun m=>xs[i+m]?:=rfl
 rw[e2] at this
 rw[this]
private theorem getItem_tuple_cut{t sl:Addr}{items:Array Value}{vl vu:Value}{lo hi:Option Int}{Q:Value->Shared->Prop}(ht:IsTup s.heap t items)(hs:s.heap.IsSliceOf sl vl vu .none)(pl:IsPart vl lo)(pu:IsPart vu hi)
  (hw:¬ (sIx items.size 0 lo=0/\sIx items.size items.size hi=items.size))
  (h:Q (.ref s.heap.objs.size) { s with heap:=s.heap.push { cls:=.type "tuple",data:=.seq ((items.toList.drop (sIx items.size 0 lo)).take (sIx items.size items.size hi-sIx items.size 0 lo)).toArray } })
  (hsz:items.size<=sizeLine):wpAny (model prog w) A (getItem (.ref t) (.ref sl)) Q E s:=by
 have htake:sizeOk (.seq ((items.toList.drop (sIx items.size 0 lo)).take (sIx items.size items.size hi-sIx items.size 0 lo)).toArray):=by
  show((items.toList.drop (sIx items.size 0 lo)).take (sIx items.size items.size hi-sIx items.size 0 lo)).toArray.size<=sizeLine
  rw[size_toArray,length_take,length_drop,Array.length_toList]
  lia
 have hj:sIx items.size items.size hi<=items.size:=sIx_le _ _ (Nat.le_refl _) hi
 obtain⟨os,hos,hcs,hds⟩:=id hs
 have hTs:s.TypeIs (.ref sl) "slice" := ⟨os,hos,hcs⟩
 unfold getItem
 try with_reducible refine wpAny_holding ?_
 first | refine wpAny_bind (wpAny_pure ?_) | skip
 refine wpAny_bind (wpAny_sequenceKey ht.typeIs (by decide) ?_)
 refine wpAny_bind (wpAny_callSpecial?_slot (name:=Str.ofString "__getitem__") ht.typeIs PyProof.Rows.slot_tuple_getitem
  (wpAny_call_entry PyProof.Rows.slot_tuple_getitem ht.typeIs entry_tuple_getitem ?_ (args_tuple_getitem _ _)))
 show wpAny _ _ (Builtin.Tuple.tupleItemsOf (.ref t) >>= _) _ _ s
 refine wpAny_bind (tupleItemsOf_ ht ?_)
 refine wpAny_bind (wpAny_typeOf hTs ?_)
 rw[if_pos (by decide)]
 refine wpAny_bind (sliceApplied_gen hs pl pu ?_)
 have hno:¬ ((((sIx items.size 0 lo:Nat):Int) == 0&&(1:Int) == 1&&(sIx items.size items.size hi-sIx items.size 0 lo) == items.size)=true):=by
  intro q
  rw[Bool.and_eq_true,Bool.and_eq_true] at q
  have q1:((sIx items.size 0 lo:Nat):Int)=0:=eq_of_beq q.1.1
  have q2:sIx items.size items.size hi-sIx items.size 0 lo=items.size:=eq_of_beq q.2
  exact hw ⟨by lia,by lia⟩
 show wpAny _ _ (if (((sIx items.size 0 lo:Nat):Int) == 0&&(1:Int) == 1&&(sIx items.size items.size hi-sIx items.size 0 lo) == items.size)=true then _ else _) _ _ s
 rw[if_neg hno,pick_gen]
 first
  | exact wpAny_bind (m:=Builtin.Tuple.tupleExact _) (wpAny_newObj_type (wpAny_pure ⟨_,rfl,wpAny_pure h⟩) htake)
  | exact wpAny_bind (m:=Builtin.Tuple.tupleExact _) (wpAny_newObj_type (wpAny_bind (wpAny_pure (wpAny_pure ⟨_,rfl,wpAny_pure h⟩))) htake)
  | exact wpAny_bind (wpAny_bind (m:=Builtin.Tuple.tupleExact _) (wpAny_newObj_type (wpAny_pure (wpAny_pure ⟨_,rfl,wpAny_pure h⟩)) htake))
  | exact wpAny_bind (wpAny_bind (m:=Builtin.Tuple.tupleExact _) (wpAny_newObj_type (wpAny_pure ⟨_,rfl,wpAny_pure h⟩) htake))
end
end HT
namespace L2
abbrev TO:=St->Hp->(Option Int->Hp->Prop)->Prop
def PO(X:Cx)(e:Option Expr)(t:TO):Prop :=
 ∀ (pins:List (Addr × Obj)) (s:Shared) (σ:St) (H:Hp) (Q:Option Int->Hp->Prop),Inv X pins σ H s->t σ H Q ->
  wpAny (model X.prog X.w) X.A (evalPart e X.env) (fun u s'=>∃ o H',Inv X pins σ H' s'/\IsPart u o/\Q o H') X.xe s
def tNoPart:TO:=fun _ H Q=>Q none H
def tPart(t:TE):TO:=fun σ H Q=>t σ H fun x H1=>∃ i,x=.int i/\Q (some i) H1
private theorem intsAre_of{ns:List Int}:∀ {us:List Value},Vals (ns.map V.int) us->IntsAre us ns:=by
 induction ns with
 | nil=>intro us r;rw[map_nil] at r;cases r;exact .nil
 | cons n ns ih =>
  intro us r
  rw[map_cons] at r
  cases r with
  | cons r1 r2 =>
   obtain⟨t,e⟩:=r1
   subst e
   exact .cons n t (ih r2)
section
variable {X:Cx} {e:Expr} {te:TE} {lo hi:Option Expr} {tl th:TO} {pos p2:Pos}
private theorem po_none:PO X none tNoPart:=by
 intro pins s σ H Q I h
 rw[evalPart_none]
 exact wpAny_pure ⟨none,H,I,.none,h⟩
private theorem po_some(h:PE X e te):PO X (some e) (tPart te):=by
 intro pins s σ H Q I hw
 rw[evalPart_some]
 refine thn (h pins s σ H _ I hw) fun u s1 ⟨x,H1,I1,r1,q1⟩=>?_
 obtain⟨i,rfl,q⟩:=q1
 obtain⟨t,rfl⟩:=r1
 exact⟨some i,H1,I1,.int i t,q⟩
def SlR(X:Cx)(r:V->Option Int->Option Int->Hp->VK->Prop):Prop :=
 ∀ (pins:List (Addr × Obj)) (s:Shared) (σ:St) (H:Hp) (x:V) (v vl vu:Value) (lo hi:Option Int) (sl:Addr) (Q:VK),Inv X pins σ H s->RelV x v->s.heap.IsSliceOf sl vl vu .none->IsPart vl lo->IsPart vu hi->r x lo hi H Q ->
  ∃ T id,typeLookup (.type T) "__getitem__" = pure (some (.builtin id))/\s.TypeIs v T/\wpAny (model X.prog X.w) X.A (getItem v (.ref sl)) (EP X pins σ Q) X.xe s
def tSl(r:V->Option Int->Option Int->Hp->VK->Prop)(te:TE)(tl th:TO):TE:=fun σ H Q=>te σ H fun x H1=>tl σ H1 fun l H2=>th σ H2 fun u H3=>r x l u H3 Q
private theorem pe_slice{r:V->Option Int->Option Int->Hp->VK->Prop}(hr:SlR X r)(he:PE X e te)(hl:PO X lo tl)(hu:PO X hi th):PE X (.Subscript e (.Slice lo hi none p2) pos) (tSl r te tl th):=by
 intro pins s σ H Q I h
 refine Subscript_ (thn (he pins s σ H _ I h) fun v s1 ⟨x,H1,I1,r1,q1⟩=>?_)
 refine wpAny_Slice (thn (hl pins s1 σ H1 _ I1 q1) fun vl s2 ⟨l,H2,I2,pl,q2⟩=>thn (hu pins s2 σ H2 _ I2 q2) fun vu s3 ⟨u,H3,I3,pu,q3⟩=>?_)
 rw[evalPart_none]
 refine wpAny_pure ?_
 have I4:Inv X pins σ H3 { s3 with heap:=s3.heap.push { cls:=.type "slice",data:=.fields #[vl,vu,.none] } }:=I3.kept (t':=s3.toks) fun b ob q=>Heap.get?_push_of_some _ q
 obtain⟨T,id,hT,ht,hg⟩:=hr pins { s3 with heap:=s3.heap.push { cls:=.type "slice",data:=.fields #[vl,vu,.none] } } σ H3 x v vl vu l u s3.heap.objs.size Q I4 r1 (Heap.IsSliceOf.new ..) pl pu q3
 show wpAny (model X.prog X.w) X.A (subscriptTail e (.Slice lo hi none p2) v (.ref s3.heap.objs.size)) (EP X pins σ Q) X.xe { s3 with heap:=s3.heap.push { cls:=.type "slice",data:=.fields #[vl,vu,.none] } }
 exact tail_any (ops:=[.ref s3.heap.objs.size,v]) ht hT hg (by with_unfolding_all rfl)
def cutV(xs:List V)(lo hi:Option Int):List V:=(xs.drop (HT.sIx xs.length 0 lo)).take (HT.sIx xs.length xs.length hi-HT.sIx xs.length 0 lo)
private theorem cutV_length(xs:List V)(lo hi:Option Int):(cutV xs lo hi).length<=xs.length:=by
 unfold cutV
 rw[length_take,length_drop]
 lia
def rSlT(K:W.Frag):V->Option Int->Option Int->Hp->VK->Prop:=fun x lo hi H Q=>∃ a xs,x=.ref a/\SqT K H a xs /\
 ¬ (HT.sIx xs.length 0 lo=0/\HT.sIx xs.length xs.length hi=xs.length)/\∀ p,H p=none->Q (.ref p) (upd H p (.tup (cutV xs lo hi)))
private theorem sl_tup:SlR X (rSlT X.K):=by
 intro pins s σ H x v vl vu lo hi sl Q I rx hs pl pu h
 obtain⟨a,xs,rfl,hx,hw,q⟩:=h
 cases rx
 obtain⟨its,r,ht,hz⟩:=I.tuple hx
 have hlen:its.toArray.size=xs.length:=by rw[size_toArray];exact r.length.symm
 refine⟨"tuple",_,PyProof.Rows.slot_tuple_getitem.lookup,ht.typeIs,?_⟩
 refine HT.getItem_tuple_cut ht hs pl pu (by rw[hlen];exact hw) ?_ (by rw[hlen];exact hz)
 rw[hlen]
 refine⟨.ref s.heap.objs.size,_,I.laid (t':=s.toks) (o:=.tup (cutV xs lo hi)) (fun b ob q=>Heap.get?_push_of_some _ q) (Nat.le_refl _) ?_,rfl,q _ (I.hok.fresh (Nat.le_refl _))⟩
 exact⟨Nat.le_trans (cutV_length xs lo hi) hz,_,(r.drop (HT.sIx xs.length 0 lo)).take (HT.sIx xs.length xs.length hi-HT.sIx xs.length 0 lo),IsTup.new _ _⟩
def rCatT(K:W.Frag):R2:=fun x y H Q=>∃ a b xs ys,x=.ref a/\y=.ref b/\SqT K H a xs/\SqT K H b ys/\xs≠[]/\xs.length+ys.length<=sizeLine /\
 (ys=[]->Q (.ref a) H)/\(ys≠[]->∀ p,H p=none->Q (.ref p) (upd H p (.tup (xs++ys))))
private theorem Vals.nil_iff{xs:List V}{us:List Value}(r:Vals xs us):us=[]↔xs=[]:=by
 cases r with
 | nil=>simp
 | cons _ _=>simp
private theorem op_catT:OpR X (binaryOp .Add) (rCatT X.K):=by
 intro pins s σ H x y v u Q I rx ry h
 obtain⟨a,b,xs,ys,rfl,rfl,ha,hb,hx,hz,q1,q2⟩:=h
 cases rx
 cases ry
 obtain⟨its,r1,p1,_⟩:=I.tuple ha
 obtain⟨its2,r2,p2,_⟩:=I.tuple hb
 refine HT.cat_tup p1 p2 (fun z=>hx (r1.nil_iff.mp z)) (fun z=>⟨.ref a,H,I,rfl,q1 (r2.nil_iff.mp z)⟩) (fun z=>?_) (by rw[<- r1.length,<- r2.length];exact hz)
 refine⟨.ref s.heap.objs.size,_,I.laid (t':=s.toks) (o:=.tup (xs++ys)) (fun b ob q=>Heap.get?_push_of_some _ q) (Nat.le_refl _) ?_,rfl,q2 (fun w=>z (r2.nil_iff.mpr w)) _ (I.hok.fresh (Nat.le_refl _))⟩
 exact⟨by rw[length_append];exact hz,_,r1.append r2,IsTup.new _ _⟩
end
end L2
namespace L2
def ixN(n:Nat)(i:Int):Option Nat:=if 0<=i then(if i<n then some i.toNat else none) else if -(n:Int)<=i then some (i+n).toNat else none
def atI{α:Type}(xs:List α)(i:Int):Option α:=(ixN xs.length i).bind fun j=>xs[j]?
private theorem ixN_seq{n:Nat}{i:Int}{j:Nat}(h:ixN n i=some j):seqIndex? i n=some j/\j<n/\-(n:Int)<=i/\i<n:=by
 unfold ixN at h
 by_cases h0:0<=i
 ·rw [if_pos h0] at h
  by_cases h1:i<n
  ·rw [if_pos h1] at h
   have e:i.toNat=j:=Option.some.inj h
   exact⟨by rw[seqIndex_of h0 h1,e],by lia,by lia,h1⟩
  ·rw[if_neg h1] at h;cases h
 ·rw [if_neg h0] at h
  by_cases h1:-(n:Int)<=i
  ·rw [if_pos h1] at h
   have e:(i+n).toNat=j:=Option.some.inj h
   exact⟨by rw[seqIndex_neg (by lia) h1,e],by lia,h1,by lia⟩
  ·rw[if_neg h1] at h;cases h
private theorem atI_get{α:Type}{xs:List α}{i:Int}{v:α}(h:atI xs i=some v):∃ j,seqIndex? i xs.length=some j/\xs[j]?=some v/\j<xs.length/\-(xs.length:Int)<=i/\i<xs.length:=by
 unfold atI at h
 cases e:ixN xs.length i with
 | none=>rw[e] at h;cases h
 | some j =>
  rw[e] at h
  obtain⟨h1,h2,h3,h4⟩:=ixN_seq e
  exact⟨j,h1,h,h2,h3,h4⟩
private theorem atI_nat{α:Type}{xs:List α}{j:Nat}{v:α}(h:xs[j]?=some v):atI xs (j:Int)=some v:=by
 have hj:j<xs.length:=(List.getElem?_eq_some_iff.mp h).1
 have e:ixN xs.length (j:Int)=some j:=by
  unfold ixN
  rw[if_pos (by lia),if_pos (by lia)];simp
 unfold atI;rw[e];exact h
def PlainIx(b:Expr):Prop:=∀ o i,subscripted b false o i=operate [o,i] (getItem o i)
def IxR(X:Cx)(r:R2):Prop :=
 ∀ (value slice:Expr) (pins:List (Addr × Obj)) (s:Shared) (σ:St) (H:Hp) (x y:V) (v u:Value) (Q:VK),Inv X pins σ H s->RelV x v->RelV y u->r x y H Q ->
  subscripted slice false v u=operate [v,u] (getItem v u)->wpAny (model X.prog X.w) X.A (subscriptTail value slice v u) (EP X pins σ Q) X.xe s
def MtR(X:Cx)(id:String)(r:V->List V->Hp->VK->Prop):Prop :=
 ∀ (pins:List (Addr × Obj)) (s:Shared) (σ:St) (H:Hp) (x:V) (xs:List V) (v:Value) (us:List Value) (Q:VK),Inv X pins σ H s->RelV x v->Vals xs us->r x xs H Q ->
  wpAny (model X.prog X.w) X.A (call (.builtin id) (v::us)) (EP X pins σ Q) X.xe s
section
variable {X:Cx} {a b:Expr} {ta tb:TE} {pos:Pos}
private theorem IxR.or{r r':R2}(h:IxR X r)(h':IxR X r'):IxR X (fun x y H Q=>r x y H Q\/r' x y H Q):=by
 intro value slice pins s σ H x y v u Q I rx ry q hs
 rcases q with q | q
 ·exact h value slice pins s σ H x y v u Q I rx ry q hs
 ·exact h' value slice pins s σ H x y v u Q I rx ry q hs
private theorem pe_ix{r:R2}(hr:IxR X r)(ha:PE X a ta)(hb:PE X b tb)(hs:PlainIx b):PE X (.Subscript a b pos) (tOp r ta tb):=by
 intro pins s σ H Q I h
 exact Subscript_ (binT ha hb I h fun v u s2 x y H2 I2 rx ry q=>hr a b pins s2 σ H2 x y v u Q I2 rx ry q (hs _ _))
def rIxL(K:W.Frag):R2:=fun x y H Q=>∃ p xs i v,x=.ref p/\y=.int i/\SqL K H p xs/\atI xs i=some v/\Q v H
def rIxT(K:W.Frag):R2:=fun x y H Q=>∃ p xs i v,x=.ref p/\y=.int i/\SqT K H p xs/\atI xs i=some v/\Q v H
def rIxS:R2:=fun x y H Q=>∃ z i c,x=.str z/\y=.int i/\z.length<=sizeLine/\atI z.cps.toList i=some c/\Q (.str ⟨#[c]⟩) H
private theorem ix_list:IxR X (rIxL X.K):=by
 intro value slice pins s σ H x y v u Q I rx ry h hs
 obtain⟨p,xs,i,z,rfl,rfl,hq,he,q⟩:=h
 cases rx
 obtain⟨t,rfl⟩:=ry
 obtain⟨its,r,pl,hz⟩:=I.list hq
 obtain⟨j,h1,h2,h3,h4,h5⟩:=atI_get he
 obtain⟨w,ew,rw'⟩:=r.get h2
 have hl:=r.length
 have hn:=line63
 have fin:EP X pins σ Q w s:=⟨z,H,I,rw',q⟩
 by_cases h0:0<=i
 ·have hj : i.toNat = j := by
   rw[seqIndex_of h0 h5] at h1
   exact Option.some.inj h1
  exact item_listR pl.isList h0 (by lia) (by rw[hj];simpa using ew) fin hs
 ·have hj : (i + (its.toArray.size : Int)).toNat = j := by
   rw[seqIndex_neg (by lia) h4] at h1
   rw[size_toArray,<- hl]
   exact Option.some.inj h1
  exact subscriptTail_builtinR (x:=w) pl.isList.typeIs slot_list_getitem.lookup
   (wpAny_getItem_list_neg (Q:=fun r s'=>r=w/\EP X pins σ Q r s') pl.isList (by lia) (by rw[size_toArray]<;>lia) (by lia) (by rw[hj];simpa using ew) ⟨rfl,fin⟩) hs
private theorem ix_tup:IxR X (rIxT X.K):=by
 intro value slice pins s σ H x y v u Q I rx ry h hs
 obtain⟨p,xs,i,z,rfl,rfl,hq,he,q⟩:=h
 cases rx
 obtain⟨t,rfl⟩:=ry
 obtain⟨its,r,pl,hz⟩:=I.tuple hq
 obtain⟨j,h1,h2,h3,h4,h5⟩:=atI_get he
 obtain⟨w,ew,rw'⟩:=r.get h2
 have hl:=r.length
 have hn:=line63
 have fin:EP X pins σ Q w s:=⟨z,H,I,rw',q⟩
 exact subscriptTail_builtinR (x:=w) pl.typeIs slot_tuple_getitem.lookup
  (getItem_tuple (j:=j) (Q:=fun r s'=>r=w/\EP X pins σ Q r s') pl (by lia) (by lia) (by rw[size_toArray,<- hl];exact h1) (by simpa using ew) ⟨rfl,fin⟩) hs
private theorem ix_str:IxR X rIxS:=by
 intro value slice pins s σ H x y v u Q I rx ry h hs
 obtain⟨z,i,c,rfl,rfl,hz,he,q⟩:=h
 obtain⟨t,rfl⟩:=rx
 obtain⟨t',rfl⟩:=ry
 obtain⟨j,h1,h2,h3,h4,h5⟩:=atI_get he
 have hl:z.cps.toList.length=z.length:=by simp[Str.length]
 rw[hl] at h1 h4 h5
 have hn:=line63
 exact tail_any (typeIs_str s z t) slot_str_getitem.lookup (getItem_str (c:=c) (by
  have e1:decide (i < -(2^63:Int))=false:=decide_eq_false (by lia)
  have e2:decide (i>=2^63)=false:=decide_eq_false (by lia)
  rw[e1,e2,Bool.or_false]) (by rw[h1];simpa using h2) ⟨.str ⟨#[c]⟩,H,I.tok _,⟨_,rfl⟩,q⟩) hs
def rIx(K:W.Frag):R2:=fun x y H Q=>rIxL K x y H Q\/rIxT K x y H Q\/rIxS x y H Q
private theorem ix_seq:IxR X (rIx X.K):=ix_list.or (ix_tup.or ix_str)
private theorem mapSeq_set(its:List Value)(n j:Nat)(u:Value):Obj.mapSeq (·.setIfInBounds j u) { cls:=.type "list",data:=.seq its.toArray n }={ cls:=.type "list",data:=.seq (its.set j u).toArray n }:=by
 simp[Obj.mapSeq]
private theorem Inv.lst{pins:List (Addr × Obj)}{σ:St}{H:Hp}{s:Shared}{p:Addr}{xs:List V}(I:Inv X pins σ H s)(h:H p=some (.lst xs)) :
  ∃ (its:List Value) (n:Nat),Vals xs its/\s.heap.get? p=some { cls:=.type "list",data:=.seq its.toArray n }/\xs.length<=sizeLine:=by
 obtain⟨z,its,n,r,e⟩:=I.hok p _ h
 exact⟨its,n,r,e,z⟩
private theorem Inv.lstUpd{pins:List (Addr × Obj)}{σ:St}{H:Hp}{s:Shared}{p:Addr}{xs ys:List V}{its its':List Value}{n n':Nat}{f:Obj->Obj}(I:Inv X pins σ H s)(h:H p=some (.lst xs))
  (ho:s.heap.get? p=some { cls:=.type "list",data:=.seq its.toArray n }) (hf:f { cls:=.type "list",data:=.seq its.toArray n }={ cls:=.type "list",data:=.seq its'.toArray n' }) (r:Vals ys its') (hz:ys.length<=sizeLine) (t:Nat) :
  Inv X pins σ (upd H p (.lst ys)) { s with heap:=s.heap.update p f,toks:=t }:=by
 have e:(s.heap.update p f).get? p=some { cls:=.type "list",data:=.seq its'.toArray n' }:=by
  rw[Heap.get?_update_self f ho (by rw[hf]<;>rfl),hf]
 refine I.write (x:=p) (e:=p) (by rw[h];trivial) (.inl rfl) (fun b u hb q=>(Heap.get?_update_other _ _ (Ne.symm hb)).trans q) ⟨_,e⟩ ?_
 exact⟨hz,its',n',r,e⟩
def rSetL:V->V->V->Hp->(Hp->Prop)->Prop:=fun o i v H Q=>∃ p xs k j,o=.ref p/\i=.int k/\H p=some (.lst xs)/\ixN xs.length k=some j/\Q (upd H p (.lst (xs.set j v)))
private theorem set_list:PSet X rSetL:=by
 intro pins s σ H o i v ov iv u Q I ro ri rv h
 obtain⟨p,xs,k,j,rfl,rfl,hp,hj,q⟩:=h
 cases ro
 obtain⟨t,rfl⟩:=ri
 obtain⟨its,n,r,ho,hz⟩:=I.lst hp
 obtain⟨h1,h2,h3,h4⟩:=ixN_seq hj
 have hl:=r.length
 have hn:=line63
 have I':Inv X pins σ (upd H p (.lst (xs.set j v))) { s with heap:=s.heap.update p (Obj.mapSeq (·.setIfInBounds j u)) } :=
  I.lstUpd hp ho (mapSeq_set its n j u) (r.set rv j) (by rw[List.length_set];exact hz) s.toks
 by_cases h0:0<=k
 ·have hk : k.toNat = j := by
   rw[seqIndex_of h0 h4] at h1
   exact Option.some.inj h1
  exact W.ki_setAt ho h0 (by lia) (by rw[size_toArray,<- hl];exact h4) (by rw[hk];exact⟨_,I',q⟩)
 ·have hk : (k + (its.toArray.size : Int)).toNat = j := by
   rw[seqIndex_neg (by lia) h3] at h1
   rw[size_toArray,<- hl]
   exact Option.some.inj h1
  exact W.ki_setBack ho (by lia) (by rw[size_toArray,<- hl];exact h3) (by lia) (by rw[hk];exact⟨_,I',q⟩)
private theorem slice_bounds(lo hi:Option Int)(n:Nat):(sliceBounds lo hi none n).1=((HT.sIx n 0 lo:Nat):Int)/\(sliceBounds lo hi none n).2.1=((HT.sIx n n hi:Nat):Int)/\(sliceBounds lo hi none n).2.2=1:=by
 refine⟨?_,?_,rfl⟩
 ·cases lo with
  | none=>simp[sliceBounds,HT.sIx]
  | some i =>
   simp only[sliceBounds,HT.sIx,Option.getD_none,show(1:Int) > 0 by decide,if_true]
   by_cases h:i<0
   ·simp only[h,if_true]<;>lia
   ·simp only[h,if_false]<;>lia
 ·cases hi with
  | none=>simp[sliceBounds,HT.sIx]
  | some i =>
   simp only[sliceBounds,HT.sIx,Option.getD_none,show(1:Int) > 0 by decide,if_true]
   by_cases h:i<0
   ·simp only[h,if_true]<;>lia
   ·simp only[h,if_false]<;>lia
private theorem slicePick_cut(its:List Value)(lo hi:Option Int):slicePick its.toArray lo hi none=((its.drop (HT.sIx its.length 0 lo)).take (HT.sIx its.length its.length hi-HT.sIx its.length 0 lo)).toArray:=by
 obtain⟨h1,h2,h3⟩:=slice_bounds lo hi its.toArray.size
 unfold slicePick
 rw[h1,h2,h3]
 simp only[sliceRange_one,pick_run,size_toArray]<;>rfl
def rSlL(K:W.Frag):V->Option Int->Option Int->Hp->VK->Prop:=fun x lo hi H Q=>∃ a xs,x=.ref a/\SqL K H a xs/\∀ p,H p=none->Q (.ref p) (upd H p (.lst (cutV xs lo hi)))
private theorem sl_list:SlR X (rSlL X.K):=by
 intro pins s σ H x v vl vu lo hi sl Q I rx hs pl pu h
 obtain⟨a,xs,rfl,hx,q⟩:=h
 cases rx
 obtain⟨its,r,ht,hz⟩:=I.list hx
 have hlen:=r.length
 refine⟨"list",_,slot_list_getitem.lookup,ht.isList.typeIs,?_⟩
 refine wpAny_getItem_list_slice ht.isList hs pl pu .none (by simp) ?_ (by rw[size_toArray]<;>lia)
 rw[slicePick_cut,<- hlen]
 refine⟨.ref s.heap.objs.size,_,I.laid (t':=s.toks) (o:=.lst (cutV xs lo hi)) (fun b ob q=>Heap.get?_push_of_some _ q) (Nat.le_refl _) ?_,rfl,q _ (I.hok.fresh (Nat.le_refl _))⟩
 exact⟨Nat.le_trans (cutV_length xs lo hi) hz,_,0,(r.drop (HT.sIx xs.length 0 lo)).take (HT.sIx xs.length xs.length hi-HT.sIx xs.length 0 lo),Heap.get?_push_size _ rfl⟩
def flatV:V->Bool
 | .non=>true
 | .bl _=>true
 | .int _=>true
 | .str _=>true
 | _=>false
def eqV:V->V->Bool
 | .non,.non=>true
 | .bl a,.bl b=>a == b
 | .bl a,.int b=>(if a then 1 else 0) == b
 | .int a,.bl b=>a == (if b then 1 else 0)
 | .int a,.int b=>a == b
 | .str a,.str b=>a == b
 | _,_=>false
private theorem eqAt_V{A:Around}{s:Shared}{y x:V}{u v:Value}(ry:RelV y u)(rx:RelV x v)(fy:flatV y=true)(fx:flatV x=true):SeqAt.EqAt A s u v (eqV y x):=by
 cases y with
 | non =>
  cases ry
  cases x with
  | non=>cases rx;exact SeqAt.EqAt.same _
  | bl b=>cases rx;exact SeqAt.EqAt.none_bool b
  | int b=>obtain⟨t,rfl⟩:=rx;exact SeqAt.EqAt.none_int b t
  | str b=>obtain⟨t,rfl⟩:=rx;exact SeqAt.EqAt.none_str b t
  | _=>exact absurd (show false=true from fx) Bool.false_ne_true
 | bl a =>
  cases ry
  cases x with
  | non=>cases rx;exact SeqAt.EqAt.bool_none a
  | bl b=>cases rx;exact SeqAt.EqAt.bool_bool a b
  | int b=>obtain⟨t,rfl⟩:=rx;exact SeqAt.EqAt.bool_int a b t
  | str b=>obtain⟨t,rfl⟩:=rx;exact SeqAt.EqAt.bool_str a b t
  | _=>exact absurd (show false=true from fx) Bool.false_ne_true
 | int a =>
  obtain⟨t',rfl⟩:=ry
  cases x with
  | non=>cases rx;exact SeqAt.EqAt.int_none a t'
  | bl b=>cases rx;exact SeqAt.EqAt.int_bool a t' b
  | int b=>obtain⟨t,rfl⟩:=rx;exact SeqAt.EqAt.int_int a t' b t
  | str b=>obtain⟨t,rfl⟩:=rx;exact SeqAt.EqAt.int_str a t' b t
  | _=>exact absurd (show false=true from fx) Bool.false_ne_true
 | str a =>
  obtain⟨t',rfl⟩:=ry
  cases x with
  | non=>cases rx;exact SeqAt.EqAt.str_none a t'
  | bl b=>cases rx;exact SeqAt.EqAt.str_bool a t' b
  | int b=>obtain⟨t,rfl⟩:=rx;exact SeqAt.EqAt.str_int a t' b t
  | str b=>obtain⟨t,rfl⟩:=rx;exact SeqAt.EqAt.str_str a t' b t
  | _=>exact absurd (show false=true from fx) Bool.false_ne_true
 | _=>exact absurd (show false=true from fy) Bool.false_ne_true
def eqU(x:V)(u:Value):Bool:=match u with
 | .none=>eqV .non x
 | .bool b=>eqV (.bl b) x
 | .int i _=>eqV (.int i) x
 | .str z _=>eqV (.str z) x
 | _=>false
private theorem eqU_of{x y:V}{u:Value}(r:RelV y u)(f:flatV y=true):eqU x u=eqV y x:=by
 cases y with
 | non=>cases r;rfl
 | bl b=>cases r;rfl
 | int i=>obtain⟨t,rfl⟩:=r;rfl
 | str z=>obtain⟨t,rfl⟩:=r;rfl
 | _=>exact absurd (show false=true from f) Bool.false_ne_true
private theorem any_eqU{x:V}:∀ {xs:List V} {us:List Value},Vals xs us->xs.all flatV=true->us.any (eqU x)=xs.any fun y=>eqV y x
 | _,_,.nil,_=>rfl
 | y::xs,u::us,.cons r t,f=>by
  rw[all_cons,Bool.and_eq_true] at f
  rw[any_cons,any_cons,eqU_of r f.1,any_eqU t f.2]
private theorem mem_eqAt{A:Around}{s:Shared}{x:V}{v:Value}(rx:RelV x v)(fx:flatV x=true):∀ {xs:List V} {us:List Value},Vals xs us->xs.all flatV=true->∀ u∈us,SeqAt.EqAt A s u v (eqU x u)
 | _,_,.nil,_=>fun u hu=>by cases hu
 | y::xs,u::us,.cons r t,f=>fun u' hu=>by
  rw[all_cons,Bool.and_eq_true] at f
  rcases List.mem_cons.mp hu with rfl | hu
  ·rw[eqU_of r f.1];exact eqAt_V r rx f.1 fx
  ·exact mem_eqAt rx fx t f.2 u' hu
def inV(x:V)(xs:List V):Bool:=xs.any fun y=>eqV y x
def rIn(K:W.Frag)(neg:Bool):R2:=fun x y H Q=>∃ p xs,y=.ref p/\(SqL K H p xs\/SqT K H p xs)/\flatV x=true/\xs.all flatV=true/\Q (.bl (if neg then !inV x xs else inV x xs)) H
private theorem op_in_seq:OpR X (compareOp .In) (rIn X.K false):=by
 intro pins s σ H x y v u Q I rx ry h
 obtain⟨p,xs,rfl,hq,fx,fs,q⟩:=h
 cases ry
 rcases hq with hq | hq
 ·obtain ⟨its, r, pl, hz⟩ := I.list hq
  refine SeqAt.in_listAt (eqU x) pl.isList (fun w hw=>mem_eqAt rx fx r fs w (by simpa using hw)) ⟨.bl _,H,I,rfl,?_⟩
  rw[show its.toArray.any (eqU x)=its.any (eqU x) by simp,any_eqU r fs]
  exact q
 ·obtain ⟨its, r, pl, hz⟩ := I.tuple hq
  refine SeqAt.in_tupleAt (eqU x) pl (fun w hw=>mem_eqAt rx fx r fs w (by simpa using hw)) ⟨.bl _,H,I,rfl,?_⟩
  rw[show its.toArray.any (eqU x)=its.any (eqU x) by simp,any_eqU r fs]
  exact q
private theorem call_len_seq:CallR X (.builtin "len") (fun xs H Q=>∃ p ys,xs=[.ref p]/\(SqL X.K H p ys\/SqT X.K H p ys)/\Q (.int ys.length) H):=by
 intro pins s σ H xs us Q I r h
 obtain⟨p,ys,rfl,hq,q⟩:=h
 obtain⟨u,rfl,rx⟩:=vals1 r
 cases rx
 have hn:=line63
 rcases hq with hq | hq
 ·obtain ⟨its, r', pl, hz⟩ := I.list hq
  have hlen:=r'.length
  exact Calls.call_len_list pl.isList (by simp only[size_toArray]<;>lia) ⟨.int ys.length,H,I.tok _,⟨s.toks+1,by rw[size_toArray,hlen]⟩,q⟩
 ·obtain ⟨its, r', pl, hz⟩ := I.tuple hq
  have hlen:=r'.length
  exact len_tuple pl (by simp only[size_toArray]<;>lia) ⟨.int ys.length,H,I.tok _,⟨s.toks+1,by rw[size_toArray,hlen]⟩,q⟩
private theorem call_list_of:CallR X (.type "list") (fun xs H Q=>∃ p ys,xs=[.ref p]/\(SqL X.K H p ys\/SqT X.K H p ys)/\∀ l,H l=none->Q (.ref l) (upd H l (.lst ys))):=by
 intro pins s σ H xs us Q I r h
 obtain⟨p,ys,rfl,hq,q⟩:=h
 obtain⟨u,rfl,rx⟩:=vals1 r
 cases rx
 have fin:∀ (its:List Value),Vals ys its->ys.length<=sizeLine->∀ (h':Heap) (c':Nat),(∀ b o',s.heap.get? b=some o'->h'.get? b=some o') ->
   h'.get? s.heap.objs.size=some { cls:=.type "list",dict:=none,data:=.seq its.toArray c',slots:=#[] }->EP X pins σ Q (.ref s.heap.objs.size) { s with heap:=h' }:=fun its r' hz h' c' kp e =>
  ⟨.ref s.heap.objs.size,_,I.laid (t':=s.toks) kp (Nat.le_refl _) (show ObjOk X.prog X.w _ h' _ (.lst ys) from⟨hz,its,c',r',e⟩),rfl,q _ (I.hok.fresh (Nat.le_refl _))⟩
 rcases hq with hq | hq
 ·obtain ⟨its, r', pl, hz⟩ := I.list hq
  have hlen:=r'.length
  obtain⟨o,ho,hc,n,hd⟩:=pl.isList
  exact call_list_seq p (.inl rfl) ho hc hd (fun h' c' kp e=>fin its r' hz h' c' kp e) (by simp only[size_toArray]<;>lia)
 ·obtain ⟨its, r', pl, hz⟩ := I.tuple hq
  have hlen:=r'.length
  obtain⟨o,ho,hc,n,hd⟩:=pl
  exact call_list_seq p (.inr rfl) ho hc hd (fun h' c' kp e=>fin its r' hz h' c' kp e) (by simp only[size_toArray]<;>lia)
private theorem call_tuple_of:CallR X (.type "tuple") (fun xs H Q=>∃ p ys,xs=[.ref p]/\((SqL X.K H p ys/\∀ l,H l=none->Q (.ref l) (upd H l (.tup ys)))\/(SqT X.K H p ys/\Q (.ref p) H))):=by
 intro pins s σ H xs us Q I r h
 obtain⟨p,ys,rfl,h⟩:=h
 obtain⟨u,rfl,rx⟩:=vals1 r
 cases rx
 rcases h with ⟨hq,q⟩ | ⟨hq,q⟩
 ·obtain ⟨its, r', pl, hz⟩ := I.list hq
  have hlen:=r'.length
  refine call_tuple_list pl.isList (fun h' kp=>?_) (by simp only[size_toArray]<;>lia)
  have I1:Inv X pins σ H { s with heap:=h' }:=I.kept (t':=s.toks) kp
  have I2:Inv X pins σ (upd H h'.objs.size (.tup ys)) { s with heap:=h'.push { cls:=.type "tuple",data:=.seq its.toArray } } :=
   I1.laid (t':=s.toks) (fun b o e=>Heap.get?_push_of_some _ e) (Nat.le_refl _) (show ObjOk X.prog X.w _ _ _ (.tup ys) from⟨hz,its,r',IsTup.new _ _⟩)
  exact⟨.ref h'.objs.size,_,I2,rfl,q _ (I1.hok.fresh (Nat.le_refl _))⟩
 ·obtain ⟨its, r', pl, hz⟩ := I.tuple hq
  exact call_tuple_same pl ⟨.ref p,H,I,rfl,q⟩
def tyV(K:W.Frag)(T:String)(x:V)(H:Hp):Prop:=match x with
 | .str _=>T = "str"
 | .int _=>T = "int"
 | .ref p => (T = "list" /\ ∃ xs, SqL K H p xs) \/ (T = "tuple" /\ ∃ o, K.lookup p = some o /\ o.cls = .type "tuple" /\ o.dict = none) \/
   (T = "dict" /\ ((∃ kvs,H p=some (.dK kvs))\/∃ kvs,H p=some (.dT kvs)))\/(T = "set" /\ ∃ S n,H p=some (.set S n))
 | _=>False
private theorem tyV_is{pins:List (Addr × Obj)}{σ:St}{H:Hp}{s:Shared}{T:String}{x:V}{v:Value}(I:Inv X pins σ H s)(r:RelV x v)(ty:tyV X.K T x H) :
  s.TypeIs v T/\∀ a,v=.ref a->∃ ob,s.heap.get? a=some ob/\ob.dict=none:=by
 cases x with
 | str z =>
  obtain⟨t,rfl⟩:=r
  cases(show T = "str" from ty)
  exact⟨typeIs_str s z t,fun _ e=>nomatch e⟩
 | int i =>
  obtain⟨t,rfl⟩:=r
  cases(show T = "int" from ty)
  exact⟨typeIs_int s i t,fun _ e=>nomatch e⟩
 | ref p =>
  cases r
  rcases ty with ⟨rfl,xs,hq⟩ | ⟨rfl,o,hk,hc,hd⟩ | ⟨rfl,hk⟩ | ⟨rfl,S,n,hk⟩
  ·obtain ⟨its, _, pl, _⟩ := I.list hq
   refine⟨pl.isList.typeIs,fun a e=>?_⟩
   cases e
   obtain⟨o,n,e,c,hd,_⟩:=pl
   exact⟨o,e,hd⟩
  ·refine ⟨⟨o, I.kIn p o hk, hc⟩, fun a e => ?_⟩
   cases e
   exact⟨o,I.kIn _ o hk,hd⟩
  ·have z : ∃ o, s.heap.get? p = some o /\ o.ExactDict := by
    rcases hk with ⟨kvs,hk⟩ | ⟨kvs,hk⟩
    ·obtain ⟨_, _, _, _, o, _, _, e, ex, _⟩ := I.hok p _ hk
     exact⟨o,e,ex⟩
    ·obtain ⟨_, _, _, _, o, _, _, e, ex, _⟩ := I.hok p _ hk
     exact⟨o,e,ex⟩
   obtain⟨o,e,ex⟩:=z
   refine⟨⟨o,e,ex.1⟩,fun a e2=>?_⟩
   cases e2
   exact⟨o,e,ex.2.1⟩
  ·obtain ⟨o, _, _, _, e, ex, _⟩ := I.hok p _ hk
   refine⟨⟨o,e,ex.1⟩,fun a e2=>?_⟩
   cases e2
   exact⟨o,e,ex.2.1⟩
 | _=>exact False.elim ty
def tBM0(K:W.Frag)(T:String)(r:V->List V->Hp->VK->Prop)(to:TE):TE:=fun σ H Q=>to σ H fun x H1=>tyV K T x H1/\r x [] H1 Q
def tBM(K:W.Frag)(T:String)(r:V->List V->Hp->VK->Prop)(to:TE)(t:TA):TE:=fun σ H Q=>to σ H fun x H1=>tyV K T x H1/\t σ H1 fun xs H2=>r x xs H2 Q
variable {o e:Expr} {es:List Expr} {to:TE} {t:TA} {name:Str} {apos cpos:Pos} {T id:String} {r:V->List V->Hp->VK->Prop}
private theorem pe_bm0(pa:PlainAttrs T)(slot:Slot T name id)(hty:typeOf (.builtin id)=pure (.type "method_descriptor"))(hm:MtR X id r)(ho:PE X o to)
  (hbase:attributeBase o name X.env (eval o X.env)=eval o X.env:=by rfl) (hline:(apos.endLine == cpos.line)=true:=by rfl):PE X (.Call (.Attribute o name apos) [] [] cpos) (tBM0 X.K T r to):=by
 intro pins s σ H Q I h
 refine wpAny_Call_method0_late hbase hline (thn (ho pins s σ H _ I h) fun v s1 ⟨x,H1,I1,r1,ty,q1⟩=>?_)
 obtain⟨h1,h2⟩:=tyV_is I1 r1 ty
 exact⟨T,id,pa,slot,hty,h1,h2,Calls.callWith_builtin rfl (PySem.evalArgs_none (hm pins s1 σ H1 x [] v [] Q I1 r1 .nil q1))⟩
private theorem pe_bm(pa:PlainAttrs T)(slot:Slot T name id)(hty:typeOf (.builtin id)=pure (.type "method_descriptor"))(hm:MtR X id r)(ho:PE X o to)(ha:PA X (e::es) t)
  (hbase:attributeBase o name X.env (eval o X.env)=eval o X.env:=by rfl)
  (hfew : ((backTo cpos (starEach (e :: es) X.env)).all (fun x => !x.1) && (backToKw cpos (keywordEach [] X.env)).all (fun x => x.1.isSome)
   && decide ((e::es).length+([]:List Keyword).length+(if ([]:List Keyword).isEmpty then 0 else 1)<30))=true:=by rfl)
  (hline:(apos.endLine == cpos.line)=true:=by rfl) (hs:starEach (e::es) X.env=(false,eval e X.env)::starEach es X.env:=by rfl) (hplain:(backTo cpos (starEach es X.env)).any (·.1)=false:=by rfl) :
  PE X (.Call (.Attribute o name apos) (e::es) [] cpos) (tBM X.K T r to t):=by
 intro pins s σ H Q I h
 refine wpAny_Call_method_late hbase hfew hline rfl (thn (ho pins s σ H _ I h) fun v s1 ⟨x,H1,I1,r1,ty,q1⟩=>?_)
 obtain⟨h1,h2⟩:=tyV_is I1 r1 ty
 refine⟨T,id,pa,slot,hty,h1,h2,?_⟩
 have hA:=ha cpos pins s1 σ H1 _ I1 q1
 rw[hs] at hA ⊢
 refine Calls.callWith_builtin (by show(false||(backTo cpos (starEach es X.env)).any (·.1))=false;rw[hplain]<;>rfl) (Calls.evalArgs_plain ?_)
 exact thn hA fun us s2 ⟨vs,H2,I2,r2,q2⟩=>hm pins s2 σ H2 x vs v us Q I2 r1 r2 q2
end
end L2
namespace L2
def MtM(X:Cx)(id:String)(r:V->List V->Hp->VK->Prop):Prop :=
 ∀ (pins:List (Addr × Obj)) (s:Shared) (σ:St) (H:Hp) (x:V) (xs:List V) (v:Value) (us:List Value) (Q:VK),Inv X pins σ H s->RelV x v->Vals xs us->r x xs H Q ->
  wpAny (model X.prog X.w) X.A (call (.builtin id) (v::us)) (EP X pins σ Q) X.xe s
private theorem Vals.one:∀ {x:V} {us:List Value},Vals [x] us->∃ u,us=[u]/\RelV x u
 | _,_,.cons r .nil=>⟨_,rfl,r⟩
private theorem Vals.zero:∀ {us:List Value},Vals [] us->us=[]
 | _,.nil=>rfl
private theorem Vals.dropLast{xs:List V}{us:List Value}(h:Vals xs us):Vals xs.dropLast us.dropLast:=by
 induction h with
 | nil=>exact .nil
 | cons r t ih =>
  cases t with
  | nil=>exact .nil
  | cons q t'=>exact .cons r ih
private theorem erase_last{α:Type}(l:List α):l.eraseIdx (l.length-1)=l.dropLast:=by
 induction l with
 | nil=>rfl
 | cons a r ih =>
  cases r with
  | nil=>rfl
  | cons b r =>
   have e:(a::b::r).length-1=((b::r).length-1)+1:=by
    have h1:(a::b::r).length=r.length+2:=rfl
    have h2:(b::r).length=r.length+1:=rfl
    lia
   rw[e,List.eraseIdx_cons_succ,ih]
   all_goals rfl
section
variable {X:Cx} {pins:List (Addr × Obj)} {σ:St} {H:Hp} {s:Shared} {l b:Addr} {xs ys zs:List V}
private theorem Inv.lset{its its':List Value}{n:Nat}{f:Array Value->Array Value}{t':Nat}(I:Inv X pins σ H s)(hH:H l=some (.lst xs))
  (e:s.heap.get? l=some { cls:=.type "list",data:=.seq its.toArray n }) (hf:f its.toArray=its'.toArray) (hv:Vals ys its') (hz:ys.length<=sizeLine) :
  Inv X pins σ (upd H l (.lst ys)) { s with heap:=s.heap.update l (Obj.mapSeq f),toks:=t' }:=by
 have q:=PySem.IsL.update e f
 rw[hf] at q
 refine I.write (x:=l) (e:=l) (by rw[hH];exact trivial) (.inl rfl) (fun b' u hb hu=>(Heap.get?_update_other s.heap (Obj.mapSeq f) (Ne.symm hb)).trans hu) ⟨_,q⟩ ?_
 exact⟨hz,its',_,hv,q⟩
private theorem Inv.lstM(I:Inv X pins σ H s)(hH:H l=some (.lst xs)):xs.length<=sizeLine/\∃ (its:List Value) (n:Nat),Vals xs its/\xs.length=its.length/\s.heap.get? l=some { cls:=.type "list",data:=.seq its.toArray n }:=by
 obtain⟨z,its,n,r,e⟩:=I.hok l _ hH
 exact⟨z,its,n,r,r.length,e⟩
private theorem notLongL{n:Nat}(h:n<=sizeLine):Builtin.List.listTooLong n=false:=by
 unfold Builtin.List.listTooLong
 exact decide_eq_false (by lia)
end
section
variable {X:Cx}
def rAppend:V->List V->Hp->VK->Prop:=fun x vs H Q=>∃ l xs y,x=.ref l/\vs=[y]/\H l=some (.lst xs)/\xs.length<sizeLine/\Q .non (upd H l (.lst (xs++[y])))
private theorem mt_append:MtM X "list.append" rAppend:=by
 intro pins s σ H x vs v us Q I rx rv h
 obtain⟨l,xs,y,rfl,rfl,hH,hz,q⟩:=h
 cases rx
 obtain⟨u,rfl,ru⟩:=rv.one
 obtain⟨z,its,n,r,hl,e⟩:=I.lstM hH
 refine call_meets F.slot_list_append ⟨_,e,rfl⟩ F.entry_list_append (F.args_list_append_2 _ _) (PySem.list_append l its.toArray n u (by rw[size_toArray];lia)) ⟨e,?_⟩
 refine⟨.non,_,I.lset (its':=its++[u]) hH e (by simp) (r.append (.cons ru .nil)) ?_,rfl,q⟩
 rw[length_append,List.length_singleton]
 lia
def rExtend:V->List V->Hp->VK->Prop:=fun x vs H Q=>∃ l b xs zs,x=.ref l/\vs=[.ref b]/\H l=some (.lst xs)/\H b=some (.lst zs)/\xs.length+zs.length<=sizeLine/\Q .non (upd H l (.lst (xs++zs)))
private theorem mt_extend:MtM X "list.extend" rExtend:=by
 intro pins s σ H x vs v us Q I rx rv h
 obtain⟨l,b,xs,zs,rfl,rfl,hH,hB,hz,q⟩:=h
 cases rx
 obtain⟨u,rfl,ru⟩:=rv.one
 cases ru
 obtain⟨z,its,n,r,hl,e⟩:=I.lstM hH
 obtain⟨z2,its2,n2,r2,hl2,e2⟩:=I.lstM hB
 have hsz:its.toArray.size+its2.toArray.size<=sizeLine:=by rw[size_toArray,size_toArray];lia
 have hlong:¬ (!its.toArray.isEmpty&&Builtin.List.listTooLong (its.toArray.size+its2.toArray.size))=true:=by
  rw[notLongL hsz,Bool.and_false]
  exact Bool.false_ne_true
 refine call_meets F.slot_list_extend ⟨_,e,rfl⟩ F.entry_list_extend (F.args_list_extend_2 _ _)
  (AutoSeq1.list_extend_list_list_0 l its.toArray n b its2.toArray n2 hlong (by rw[size_toArray];lia) (by lia)) ⟨e,e2,?_⟩
 refine⟨.non,_,I.lset (its':=its++its2) hH e (by simp) (r.append r2) ?_,rfl,q⟩
 rw[length_append]
 lia
def rPop:V->List V->Hp->VK->Prop:=fun x vs H Q=>∃ l xs y,x=.ref l/\vs=[]/\H l=some (.lst xs)/\xs[xs.length-1]?=some y/\Q y (upd H l (.lst xs.dropLast))
private theorem mt_pop:MtM X "list.pop" rPop:=by
 intro pins s σ H x vs v us Q I rx rv h
 obtain⟨l,xs,y,rfl,rfl,hH,hy,q⟩:=h
 cases rx
 have hus:=rv.zero
 subst hus
 obtain⟨z,its,n,r,hl,e⟩:=I.lstM hH
 obtain⟨u,hu,ru⟩:=r.get hy
 have hy':its.toArray[its.toArray.size-1]?=some u:=by
  show its.toArray[its.length-1]?=some u
  rw[<- Array.getElem?_toList,<- hl]
  exact hu
 refine call_meets F.slot_list_pop ⟨_,e,rfl⟩ F.entry_list_pop (F.args_list_pop_1 _) (MeetsSeq.list_pop_last l its.toArray n u hy' (by rw[size_toArray];lia)) ⟨e,?_⟩
 refine⟨y,_,I.lset (its':=its.dropLast) hH e ?_ r.dropLast ?_,ru,q⟩
 ·show its.toArray.eraseIdxIfInBounds (its.toArray.size - 1) = its.dropLast.toArray
  rw[size_toArray,List.eraseIdxIfInBounds_toArray,erase_last]
 ·rw [List.length_dropLast]
  lia
end
section
variable {prog:Program} {w:World} {A:Around} {E:Value->Shared->Prop} {s:Shared}
end
section
variable {X:Cx}
end
end L2
namespace Att
open PySem PySem.W PySem.Calls PyProof.Rows
private theorem ints_of_wellAll{P:Params}{h:Heap}:∀ (ns:List Int) (vs:List Value),WellAll P h vs (ns.map WData.int)->IntsAre vs ns:=by
 intro ns
 induction ns with
 | nil =>
  intro vs w
  rw[map_nil] at w
  cases w
  exact .nil
 | cons n ns ih =>
  intro vs w
  rw[map_cons] at w
  cases w with
  | cons a b =>
   cases a
   exact .cons _ _ (ih _ b)
private theorem script_of{l:OpenLaw}{n:Nat}(hn:l.most=some n){P:Params}{h:Heap}{args:List WData}{vals:List Value}
  (hpre:l.row.toRowW.claim.pre args=true) (hwl:WellAll P h vals args) :
  ∃ a vs ns,vals=[Value.ref a]/\args=[WData.list (ns.map WData.int)]/\h.get? a=some { cls:=.type "list",data:=.seq vs.toArray }/\IntsAre vs ns/\ns.length<=n:=by
 have hsh:WShape.hasAll [] args [.list .int]=true:=(pre_splitW hpre).1
 have hc:l.pre.holds [] { args:=args }=true:=(pre_splitW hpre).2
 obtain⟨d,r,rfl,h1,h2⟩:=hasAllW_cons hsh
 obtain rfl:=hasAllW_nil h2
 obtain⟨xs,rfl,h3⟩:=hasW_list h1
 obtain⟨ns,rfl⟩:=items_int h3
 have hlen:ns.length<=n:=by
  unfold OpenLaw.pre at hc
  have h4:(WTm.not (.lt (.lit (.int (n:Int))) (.len (.arg 0)))).holds [] { args:=[.list (ns.map .int)] }=true:=by
   have h4:=(holds_andW hc).1
   rw[hn] at h4
   exact h4
  have h5:=condW_of h4 (w_not (w_lt w_lit (w_len_list (w_arg rfl))))
  rw[length_map] at h5
  refine Nat.le_of_not_lt fun q=>?_
  have q':(n:Int)<((ns.length:Nat):Int):=by lia
  first
   | (rw[decide_eq_true q'] at h5;exact absurd h5 (by decide))
   | (simp at h5;lia)
 cases hwl with
 | cons w1 w2 =>
  cases w2
  cases w1 with
  | list ho hall=>exact⟨_,_,ns,rfl,rfl,ho,ints_of_wellAll ns _ hall,hlen⟩
private theorem post_true(l:OpenLaw)(args:List WData):l.row.toRowW.claim.post args (.bool true) args=true :=
 postW_of (r:=l.row.toRowW) (X:=(true == true))
  (show WShape.has [] (.bool true) .bool=true by first | rfl | decide | simp[WShape.has,WShape.arms,WShape.armsAll])
  (show(WTm.eq .res (.lit (.bool true))).value [] { args:=args,res:=some (.bool true),after:=args }=some (.bool (true == true)) from w_eq_bool (w_res rfl) w_lit) rfl
private theorem attach_call{l:OpenLaw}{n:Nat}{q:Program}{loose:List Str}{XP:(Str->Option Value)->Heap->Prop}{YP:World->Heap->Prop}{d:DefRec}
  (hn:l.most=some n) (hdf:d.params.defaults=[])
  (call : ∀ (w : World) (s₀ s₁ : Shared) (mg mb : Str -> Option Value) (fa : Addr) (o : Obj) (pm cd doc : Value) (a : Addr) (vs : List Value) (ns : List Int),
   Ground q loose [] XP w s₀ mg mb s₁.heap->YP w s₁.heap ->
   s₁.heap.get? fa=some o->o.data=.func (docDef d.name d.params d.body d.scope pm cd doc)->s₁.heap.CodeRec cd d.name->mg d.name=some (.ref fa) ->
   s₁.heap.get? a=some { cls:=.type "list",data:=.seq vs.toArray }->IntsAre vs ns->ns.length<=n->s₁.gens=#[] ->
   codeAny (model l.prog w) callerA (.call (.ref fa) ⟨[.ref a],[]⟩) (fun r s'=>r=.ok (.ret (.bool true))/\OldK s₁.heap s'.heap/\s'.os=s₁.os/\AllBare s'.gens) s₁) :
  WalkO q loose XP YP l.row.toRowW d [] (fun f vs=>PySem.call f vs):=by
 intro w s₀ s₁ mg mb G Y fa o pm cd doc dV kV ho hd hcd hD hmg hg args vals as hpre hlay hrd hwl hlo
 obtain rfl:dV=.none:=Dflts.none hD hdf
 obtain rfl:kV=.none:=Dflts.noKw hD
 obtain⟨a,vs,ns,rfl,rfl,hobj,hints,hlen⟩:=script_of hn hpre hwl
 refine enter_call (codeAny_mono (call w s₀ s₁ mg mb fa o pm cd doc a vs ns G Y ho (fd_plain hd) hcd hmg hobj hints hlen hg) fun r s' hq=>?_)
 obtain⟨rfl,h2,h3,h4⟩:=hq
 exact⟨.inl ⟨.bool true,.bool true,[],rfl,fun _=>rfl,.bool true,post_true l _,fun _=>⟨List.Pairwise.nil,fun _ hm=>(nomatch hm)⟩⟩,h2,h3,h4⟩
section
variable {prog:Program} {w:World} {A:Around} {E:Value->Shared->Prop} {s:Shared} {K:Frag}
end
end Att
namespace L2
private theorem vals_ints:∀ {vs:List Value} {ns:List Int},IntsAre vs ns->Vals (ns.map V.int) vs
 | _,_,.nil=>.nil
 | _,_,.cons n t h=>.cons ⟨t,rfl⟩ (vals_ints h)
def Only(H:Hp):Prop:=∀ b,H b=none\/∃ o xs,H b=some (.frz o (.lst xs))
end L2
namespace L2
end L2
namespace L2
def defArgs(s:Stmt):Arguments:=match s with
 | .FunctionDef _ a _ _ _ _ _ _ _ _=>a
 | _=>{ posonlyargs:=[],args:=[],vararg:=none,kwonlyargs:=[],kw_defaults:=[],kwarg:=none,defaults:=[] }
def defBody(s:Stmt):List Stmt:=match s with
 | .FunctionDef _ _ b _ _ _ _ _ _ _=>b
 | _=>[]
def defScope(s:Stmt):Scope:=match s with
 | .FunctionDef _ _ _ _ _ _ sc _ _ _=>sc
 | _=>{ kind:=.function,names:=[],isGenerator:=false,isCoroutine:=false }
abbrev CX0:CXT:=fun _ _ _ _ _ _=>False
abbrev E0:XK:=fun _ _ _=>False
private theorem pass0{X:Cx}:Passes CX0 X E0:=fun _ _ _ _ _ _ _ h=>h.elim
structure Fun(K:W.Frag)(x qual:Str)(st:Stmt)(f:Addr)(fd:FuncData):Prop where
 ex:∃ (oc:Value) (od:Option Addr) (kV doc pm:Value) (an:Option Addr) (cdv ct:Value) (osl:Array (Option Value)),
  fd=W.fnOf x qual (defArgs st) (defBody st) (defScope st) .none kV doc pm an cdv ct/\K.lookup f=some ⟨oc,od,.func fd,osl⟩/\W.codeIn K cdv qual=true
 kp:W.keepIn K (.ref f)=true
section
variable {P:Program} {w:World} {K:W.Frag} {mg:Str->Option Value} {base:Heap}
private theorem Fun.ok{x qual:Str}{st:Stmt}{f:Addr}{fd:FuncData}{N ps:List Str}{k:Nat}{sp:Sp}(F:Fun K x qual st f fd)(S:FnScope N ps (defScope st))(len:∀ vs H Q E,sp vs H Q E->vs.length=ps.length)
  (hbody : ∀ (cdv : Value) (A : Around) (outer : List Env) (s : Shared) (H : Hp) (vs : List V) (Q : VK) (E : XK), Room k (A.deeper (envOfC qual (defScope st) s.heap.objs.size f cdv)) -> sp vs H Q E ->
   ∃ t,PSs (cxOf CX0 P w K mg base N qual (defScope st) f cdv A outer s H E).nox (defBody st) t/\t { nx:=fun _ H'=>Q .non H',rt:=Q } (start N vs) H):FnOk P w K mg base CX0 (k+1) f fd ps sp:=by
 obtain⟨oc,od,kV,doc,pm,an,cdv,ct,osl,rfl,lk,hcd⟩:=F.ex
 refine fn_of lk hcd S len fun A outer s H vs Q E hr hsp=>?_
 obtain⟨t,h,q⟩:=hbody cdv A outer s H vs Q E hr hsp
 exact⟨t,h.nox,q⟩
private theorem Fun.binds{x qual:Str}{st:Stmt}{f:Addr}{fd:FuncData}{ps:List Str}(F:Fun K x qual st f fd)
  (h:∀ (kV doc pm:Value) (an:Option Addr) (cdv ct:Value) (us:List Value),us.length=ps.length->bindArgs (W.fnOf x qual (defArgs st) (defBody st) (defScope st) .none kV doc pm an cdv ct) ⟨us,[]⟩=pure (ps.zip us)):Binds K fd ps []:=by
 obtain⟨oc,od,kV,doc,pm,an,cdv,ct,osl,rfl,lk,hcd⟩:=F.ex
 exact .all (h kV doc pm an cdv ct)
private theorem fun_mk{x qual:Str}{st:Stmt}{f:Addr}{oc:Value}{od an:Option Addr}{osl:Array (Option Value)}{kV doc pm cdv ct:Value}(l:K.lookup f=some ⟨oc,od,.func (W.fnOf x qual (defArgs st) (defBody st) (defScope st) .none kV doc pm an cdv ct),osl⟩)
  (c:W.codeIn K cdv qual=true) (k:W.keepIn K (.ref f)=true):Fun K x qual st f (W.fnOf x qual (defArgs st) (defBody st) (defScope st) .none kV doc pm an cdv ct):=⟨⟨oc,od,kV,doc,pm,an,cdv,ct,osl,rfl,l,c⟩,k⟩
end
private theorem hu_of{A:Around}{k:Nat}(hr:Room k A):A.units+1<cLine:=Nat.lt_of_le_of_lt (Nat.add_le_add_left (by decide:1<=64) _) hr.units
section
variable {X:Cx}
end
def Same(H H':Hp):Prop:=∀ b o,H b=some o->H' b=some o
end L2
namespace L2
open PySem
def closL(env:Env):List (Str × NameKind)->List (Str × Addr)->List (Str × Addr)
 | [],acc=>acc
 | y::r,acc=>if y.2 == .free then closL env r ((y.1,(env.cells.lookup y.1).getD 0)::acc) else closL env r acc
private theorem closL_sub{env:Env}:∀ (l:List (Str × NameKind)) (acc:List (Str × Addr)),(∀ y∈l,y.2=.free->∃ c,env.cells.lookup y.1=some c)->(∀ x c,acc.lookup x=some c->env.cells.lookup x=some c) ->
  ∀ x c,(closL env l acc).lookup x=some c->env.cells.lookup x=some c
 | [],acc,_,ha,x,c,h=>ha x c h
 | y :: r, acc, hf, ha, x, c, h => by
  unfold closL at h
  split at h
  ·rename_i hk
   have hk':y.2=.free:=by simpa using hk
   obtain⟨d,hd⟩:=hf y mem_cons_self hk'
   refine closL_sub r _ (fun z hz=>hf z (mem_cons_of_mem _ hz)) (fun z e hz=>?_) x c h
   rw[lookup_cons] at hz
   cases hb:z == y.1 with
   | true =>
    rw[hb,hd] at hz
    have e2:z=y.1:=by simpa using hb
    have e3:d=e:=by simpa using hz
    rw[e2,hd,e3]
   | false=>rw[hb] at hz;exact ha z e hz
  ·exact closL_sub r acc (fun z hz=>hf z (mem_cons_of_mem _ hz)) ha x c h
private theorem closL_keep{env:Env}{x:Str}:∀ (l:List (Str × NameKind)) (acc:List (Str × Addr)),(∃ c,acc.lookup x=some c)->∃ c,(closL env l acc).lookup x=some c
 | [],acc,h=>h
 | y :: r, acc, h => by
  unfold closL
  split
  ·refine closL_keep r _ ?_
   rw[lookup_cons]
   cases hb:x == y.1 with
   | true=>exact⟨_,rfl⟩
   | false=>exact h
  ·exact closL_keep r acc h
private theorem closL_has{env:Env}{y:Str × NameKind}(hk:y.2=.free):∀ (l:List (Str × NameKind)) (acc:List (Str × Addr)),y∈l->∃ c,(closL env l acc).lookup y.1=some c
 | [],acc,h=>by simp at h
 | z :: r, acc, h => by
  unfold closL
  rcases List.mem_cons.mp h with rfl | h
  ·rw [if_pos (by rw [hk]; rfl)]
   exact closL_keep r _ ⟨_,lookup_cons_self⟩
  ·split
   ·exact closL_has hk r _ h
   ·exact closL_has hk r _ h
private theorem clos_forIn{env:Env}(f:Str × NameKind->List (Str × Addr)->Sem (ForInStep (List (Str × Addr))))
  (hf:∀ y acc,f y acc=if y.2 == .free then(cellOf env y.1 >>= fun c=>pure (.yield ((y.1,c)::acc))) else pure (.yield acc)) :
  ∀ (l:List (Str × NameKind)) (acc:List (Str × Addr)),(∀ y∈l,y.2=.free->∃ c,env.cells.lookup y.1=some c)->forIn l acc f=(pure (closL env l acc):Sem _)
 | [],acc,_=>by rw[forIn_nil];rfl
 | y :: r, acc, h => by
  have ih:=fun acc=>clos_forIn f hf r acc fun z hz=>h z (mem_cons_of_mem _ hz)
  rw[forIn_cons,hf]
  unfold closL
  split
  ·rename_i hk
   obtain⟨c,hc⟩:=h y mem_cons_self (by simpa using hk)
   have e:cellOf env y.1=pure c:=by unfold cellOf;rw[hc]
   rw[e,hc]
   exact ih _
  ·exact ih _
private theorem clos_for{scope:Scope}{env:Env}(h:∀ y∈scope.names,y.2=.free->∃ c,env.cells.lookup y.1=some c):closureFor scope env=pure (closL env scope.names []):=by
 have e:=clos_forIn (env:=env) (fun x cs=>match x with | (name,kind)=>if (kind == NameKind.free)=true then(do let c <- cellOf env name;pure (.yield ((name,c)::cs))) else pure (.yield cs)) (fun y acc=>rfl) scope.names [] h
 have e2:closureFor scope env=((forIn scope.names [] (fun x cs=>match x with | (name,kind)=>if (kind == NameKind.free)=true then(do let c <- cellOf env name;pure (ForInStep.yield ((name,c)::cs))) else pure (ForInStep.yield cs)):Sem (List (Str × Addr))) >>= fun cs=>pure cs):=rfl
 rw[e2,e]
 rfl
private theorem relab_lookup{env:Env}{x:Str}:∀ (l:List (Str × NameKind)),
  (l.map fun (n, k) => if (k == NameKind.free && env.scope.kind == .function && env.kindOf n == some .cell) then (n, NameKind.cell) else (n, k)).lookup x =
   (l.lookup x).map fun k=>if (k == NameKind.free&&env.scope.kind == .function&&env.kindOf x == some .cell) then NameKind.cell else k
 | []=>rfl
 | (n, k) :: r => by
  have ih:=@relab_lookup env x r
  rw[map_cons]
  by_cases e:x=n
  ·subst e
   dsimp only
   split
   ·rename_i h;rw[lookup_cons_self,lookup_cons_self,Option.map_some,if_pos h]
   ·rename_i h;rw[lookup_cons_self,lookup_cons_self,Option.map_some,if_neg h]
  ·have e' : (x == n) = false := by simpa using e
   dsimp only
   split
   ·rw[lookup_cons,e',lookup_cons,e'];exact ih
   ·rw[lookup_cons,e',lookup_cons,e'];exact ih
private theorem cf_all:∀ (l:List (Str × NameKind)) (h:Heap) (acc:List (Str × Addr)) (x:Str) (c:Addr),(cellsFrom h.objs.size l acc).lookup x=some c ->
  ((pushCells h l).IsCell c none/\h.objs.size<=c/\(x,NameKind.cell)∈l)\/acc.lookup x=some c
 | [],_,_,_,_,e=>.inr e
 | (n, k) :: r, h, acc, x, c, e => by
  unfold cellsFrom at e
  unfold pushCells
  split at e
  ·rename_i hk
   have hk':k=.cell:=by simpa using hk
   rw[if_pos hk]
   have hz:(h.push { cls:=.type "cell",data:=.cell none }).objs.size=h.objs.size+1:=Heap.size_push ..
   rw[<- hz] at e
   rcases cf_all r (h.push { cls:=.type "cell",data:=.cell none }) _ x c e with ⟨a,b,d⟩ | q
   ·exact .inl ⟨a,by rw[hz] at b;lia,mem_cons_of_mem _ d⟩
   ·rw [List.lookup_cons] at q
    cases hb:x == n with
    | false=>rw[hb] at q;exact .inr q
    | true =>
     rw[hb] at q
     have e1:h.objs.size=c:=by simpa using q
     have e2:x=n:=by simpa using hb
     subst e1 e2
     refine .inl ⟨?_,Nat.le_refl _,by rw[hk'];exact mem_cons_self⟩
     exact⟨_,pushCells_keeps _ _ _ _ (Heap.get?_push_size _ rfl),rfl⟩
  ·rename_i hk
   rw[if_neg hk]
   rcases cf_all r h acc x c e with ⟨a,b,d⟩ | q
   ·exact .inl ⟨a,b,mem_cons_of_mem _ d⟩
   ·exact .inr q
private theorem cf_inj:∀ (l:List (Str × NameKind)) (n:Nat) (acc:List (Str × Addr)),(∀ x y c,acc.lookup x=some c->acc.lookup y=some c->x=y)->(∀ x c,acc.lookup x=some c->c<n) ->
  ∀ x y c,(cellsFrom n l acc).lookup x=some c->(cellsFrom n l acc).lookup y=some c->x=y
 | [],_,_,hi,_,x,y,c,e,e'=>hi x y c e e'
 | (m, k) :: r, n, acc, hi, hl, x, y, c, e, e' => by
  unfold cellsFrom at e e'
  have one:∀ z d,((m,n)::acc).lookup z=some d->(z=m/\d=n)\/acc.lookup z=some d:=fun z d q=>by
   rw[lookup_cons] at q
   cases hb:z == m with
   | true=>rw[hb] at q;exact .inl ⟨by simpa using hb,by simpa using q.symm⟩
   | false=>rw[hb] at q;exact .inr q
  split at e
  ·rename_i hk
   rw[if_pos hk] at e'
   refine cf_inj r (n+1) ((m,n)::acc) (fun a b d q q'=>?_) (fun a d q=>?_) x y c e e'
   ·rcases one a d q with ⟨a1, a2⟩ | a1 <;> rcases one b d q' with ⟨b1, b2⟩ | b1
    ·rw[a1,b1]
    ·exact absurd (hl b d b1) (by rw[a2];exact Nat.lt_irrefl _)
    ·exact absurd (hl a d a1) (by rw[b2];exact Nat.lt_irrefl _)
    ·exact hi a b d a1 b1
   ·rcases one a d q with ⟨_, a2⟩ | a1
    ·rw[a2];exact Nat.lt_succ_self _
    ·exact Nat.lt_succ_of_lt (hl a d a1)
  ·rename_i hk
   rw[if_neg hk] at e'
   exact cf_inj r n acc hi hl x y c e e'
private theorem cf_keep{x:Str}:∀ (l:List (Str × NameKind)) (n:Nat) (acc:List (Str × Addr)),(∃ c,acc.lookup x=some c)->∃ c,(cellsFrom n l acc).lookup x=some c
 | [],_,_,h=>h
 | (m, k) :: r, n, acc, h => by
  unfold cellsFrom
  split
  ·refine cf_keep r _ _ ?_
   rw[lookup_cons]
   cases hb:x == m with
   | true=>exact⟨_,rfl⟩
   | false=>exact h
  ·exact cf_keep r _ _ h
private theorem cf_has{x:Str}:∀ (l:List (Str × NameKind)) (n:Nat) (acc:List (Str × Addr)),(x,NameKind.cell)∈l->∃ c,(cellsFrom n l acc).lookup x=some c
 | [],_,_,h=>by simp at h
 | (m, k) :: r, n, acc, h => by
  unfold cellsFrom
  rcases List.mem_cons.mp h with e | h
  ·cases e
   exact cf_keep r _ _ ⟨_,lookup_cons_self⟩
  ·split
   ·exact cf_has r _ _ h
   ·exact cf_has r _ _ h
private theorem cf_ge{x : Str} : ∀ (l : List (Str × NameKind)) (n : Nat) (acc : List (Str × Addr)) (lo : Nat), lo <= n -> ((x, NameKind.cell) ∈ l \/ ∀ c, acc.lookup x = some c -> lo <= c) -> ∀ c, (cellsFrom n l acc).lookup x = some c -> lo <= c
  | [], n, acc, lo, hn, h, c, e => by
    rcases h with h | h
    · simp at h
    · exact h c e
  | (m, k) :: r, n, acc, lo, hn, h, c, e => by
    unfold cellsFrom at e
    split at e
    · rename_i hk
      refine cf_ge r (n+1) ((m,n)::acc) lo (by lia) ?_ c e
      rcases h with h | h
      · rcases List.mem_cons.mp h with z | z
        · cases z
          refine .inr fun d q=>?_
          rw[lookup_cons_self] at q
          have:n=d:=by simpa using q
          lia
        · exact .inl z
      · refine .inr fun d q => ?_
        rw[lookup_cons] at q
        cases hb:x == m with
        | true => rw [hb] at q; have : n = d := by simpa using q;
                  lia
        | false=>rw[hb] at q;exact h d q
    · rename_i hk
      refine cf_ge r n acc lo hn ?_ c e
      rcases h with h | h
      · rcases List.mem_cons.mp h with z | z
        · cases z;exact absurd rfl hk
        · exact .inl z
      · exact .inr h
section
variable {M:Model} {A:Around} {E:Value->Shared->Prop} {s:Shared}
private theorem newEnv_comp{scope:Scope}{env:Env}{cl:List (Str × Addr)}{Q:Env->Shared->Prop}
  (h : Q (newEnv scope s.heap.objs.size env.globals (cellsFrom (s.heap.objs.size + 1) scope.names cl) env.qual none .none (some env) builtinsNs)
   { s with heap:=pushCells (s.heap.push { cls:=.type "dict",data:=.dict #[] }) scope.names }) :
  wpAny M A (newFunctionEnv scope env.globals cl [] env.qual none .none (some env)) Q E s:=by
 simp only[newFunctionEnv,Option.isSome_some,if_true]
 refine wpAny_bind (wpAny_alloc ?_)
 refine wpAny_bind (wpAny_layCells _ (fun name kind cells=>?_) _ _ _ _ ?_)
 ·cases hkc:kind == NameKind.cell<;>simp[hkc]
 ·rw [List.forIn_nil]
  refine wpAny_bind (wpAny_pure (wpAny_pure ?_))
  have hz:({ s with heap:=s.heap.push { cls:=.type "dict",data:=.dict #[] } }:Shared).heap.objs.size=s.heap.objs.size+1:=Heap.size_push ..
  rw[hz]
  exact h
end
abbrev cTests(ifs:List Expr)(env:Env):Sem Bool:=forIn ifs true fun c r=>if r=true then do let ok <- isTrue c env (eval c env);pure (ForInStep.yield ok) else pure (ForInStep.yield r)
section
variable {prog:Program} {w:World} {A:Around} {R:Result->Shared->Prop} {s:Shared}
private theorem comp_loop{elt target iter:Expr}{ifs:List Expr}{scope:Scope}{pos:Pos}{it acc:Value}{env:Env}(J:Nat->Shared->Prop)
  (turn : ∀ n s, J n s -> wpAny (model prog w) A (pyNext it) (fun r s1 => match r with
   | none=>R (.ok .next) s1
   | some v => wpAny (model prog w) A (letOwnedTupleGo target it v) (fun _ s2 => wpAny (model prog w) A (assign target env v) (fun _ s3 => wpAny (model prog w) A (cTests ifs env) (fun ok s4 =>
     if ok=true then wpAny (model prog w) A (eval elt env) (fun x s5=>wpAny (model prog w) A (call (.builtin "list.append") [acc,x]) (fun _ s6=>∃ m,m<n/\J m s6) (fun _ _=>False) s5) (fun _ _=>False) s4
     else ∃ m,m<n/\J m s4) (fun _ _=>False) s3) (fun _ _=>False) s2) (fun _ _=>False) s1) (fun _ _=>False) s)
  (n:Nat) (h:J n s):codeAny (model prog w) A (.compLoop (.ListComp elt [⟨target,iter,ifs,0⟩] scope pos) 0 it acc env) R s:=by
 refine codeAny_loop rfl J (fun n s hJ=>?_) n h
 show wpAny _ A ((compTurn (.ListComp elt [⟨target,iter,ifs,0⟩] scope pos) 0 it acc env).onRaise (fun x=>do noteFrame x env;theTreesLotGoes x)) _ _ s
 refine wpAny_noted ?_
 rw[compTurn_list]
 have up:∀ {α:Type} {t:Sem α} {Q Q':α->Shared->Prop} {E:Value->Shared->Prop} {s:Shared},wpAny (model prog w) A t Q (fun _ _=>False) s->(∀ a s,Q a s->Q' a s)->wpAny (model prog w) A t Q' E s :=
  fun h f=>wpAny_mono h f fun _ _ z=>False.elim z
 refine wpAny_bind (wpAny_standAt (wpAny_bind (up (turn n s hJ) fun r s1 h1=>?_)))
 cases r with
 | none=>exact wpAny_pure h1
 | some v =>
  refine wpAny_bind (up h1 fun _ s2 h2=>?_)
  refine wpAny_bind (up h2 fun _ s3 h3=>?_)
  refine wpAny_bind (up h3 fun ok s4 h4=>?_)
  cases ok with
  | false=>exact wpAny_pure ⟨rfl,h4⟩
  | true=>exact wpAny_bind (wpAny_bind (up h4 fun x s5 h5=>wpAny_bind (up h5 fun _ s6 h6=>wpAny_pure (wpAny_pure ⟨rfl,h6⟩))))
end
end L2
namespace L2
open PySem
def itName(b:Bool):String:=if b then "list_iterator" else "tuple_iterator"
def SeqIs(b:Bool)(h:Heap)(l:Addr)(xs:Array Value):Prop:=match b with | true=>h.IsList l xs | false=>h.IsTuple l xs
def IterIs(b:Bool)(h:Heap)(i l:Addr)(k:Nat):Prop:=match b with | true=>h.IsListIter i l k | false=>h.IsTupleIter i l k
private theorem SeqIs.at{b:Bool}{h h':Heap}{l:Addr}{xs:Array Value}(x:SeqIs b h l xs)(hk:∀ o,h.get? l=some o->h'.get? l=some o):SeqIs b h' l xs:=by
 cases b<;>(obtain⟨o,e,r⟩:=x;exact⟨o,hk o e,r⟩)
private theorem IterIs.at{b:Bool}{h h':Heap}{i l:Addr}{k:Nat}(x:IterIs b h i l k)(hk:∀ o,h.get? i=some o->h'.get? i=some o):IterIs b h' i l k:=by
 cases b<;>(obtain⟨o,e,r⟩:=x;exact⟨o,hk o e,r⟩)
private theorem IterIs.obj{b:Bool}{h:Heap}{i l:Addr}{k:Nat}(x:IterIs b h i l k):∃ o,h.get? i=some o/\o.cls=.type (itName b)/\o.data=.fields #[.ref l,.int k 0]:=by
 cases b<;>exact x
private theorem SeqIs.ne{b c:Bool}{h:Heap}{l i m:Addr}{k:Nat}{xs:Array Value}(x:SeqIs b h l xs)(y:IterIs c h i m k):l≠i:=by
 rintro rfl
 obtain⟨o,e,hc,_⟩:=y.obj
 cases b<;>(obtain⟨o',e',hc',_⟩:=x;rw[e] at e';cases e';rw[hc] at hc';cases c<;>exact absurd (Value.type.inj hc') (by decide))
section
variable {prog:Program} {w:World} {A:Around} {E:Value->Shared->Prop} {s:Shared}
private theorem pyIter_seq{b:Bool}{l:Addr}{xs:Array Value}{Q:Value->Shared->Prop}(hl:SeqIs b s.heap l xs)
  (hQ:Q (.ref s.heap.objs.size) { s with heap:=s.heap.push { cls:=.type (itName b),data:=.fields #[.ref l,.int 0 0] } }):wpAny (model prog w) A (pyIter (.ref l)) Q E s:=by
 cases b with
 | true=>exact wpAny_pyIter_list hl hQ
 | false=>exact wpAny_pyIter_tuple hl hQ
private theorem nextOf_tup{it l:Addr}{i:Nat}{items:Array Value}{x:Value}{Q:Value->Shared->Prop}(hit:s.heap.IsTupleIter it l i)(hl:s.heap.IsTuple l items)(hx:items[i]?=some x)
  (hQ:∀ h',h'.IsTupleIter it l (i+1)->Heap.SameBut it s.heap h'->Q x { s with heap:=h' }):wpAny (model prog w) A (Builtin.SmallTypes.nextOf (.ref it)) Q E s:=by
 obtain⟨o,ho,hc,hd⟩:=id hit
 obtain⟨ol,hol,_,nl,hdl⟩:=hl
 unfold Builtin.SmallTypes.nextOf
 refine wpAny_bind (wpAny_callSpecial?_slot (name:=Str.ofString "__next__") hit.typeIs F.slot_tuple_iterator_next (wpAny_call_entry F.slot_tuple_iterator_next hit.typeIs F.entry_tuple_iterator_next ?_ (F.args_tuple_iterator_next_1 _)))
 show wpAny _ A.in1 (field (.ref it) 0 >>= _) _ _ s
 refine wpAny_bind (wpAny_field (x:=.ref l) ho hd rfl ?_)
 show wpAny _ A.in1 (if (Value.ref l == Value.none)=true then _ else _) _ _ s
 have nn:¬ ((Value.ref l == Value.none)=true):=Bool.false_ne_true
 rw[if_neg nn]
 show wpAny _ A.in1 (field (.ref it) 1 >>= _) _ _ s
 refine wpAny_bind (wpAny_field (x:=.int i 0) ho hd rfl ?_)
 show wpAny _ A.in1 (seqItems? (.ref l) >>= _) _ _ s
 refine wpAny_bind (wpAny_seqItems hol hdl ?_)
 simp only[hx,Int.toNat_natCast]
 refine wpAny_bind (wpAny_setField ho hd (by simp) (wpAny_pure ⟨x,rfl,wpAny_pure (hQ _ ⟨_,Heap.get?_update_self _ ho (Obj.isFreed_of_fields (Obj.data_mapFields hd _)),(Obj.cls_mapFields ..).trans hc,?_⟩ (Heap.SameBut.update ..))⟩))
 rw[Obj.data_mapFields hd]
 simp[rawInt]
private theorem nextOf_tup_end{it l:Addr}{i:Nat}{items:Array Value}{Q:Value->Shared->Prop}(hh:A.handled=none)(hit:s.heap.IsTupleIter it l i)(hl:s.heap.IsTuple l items)(hx:items[i]?=none)
  (hE:∀ h' e,Heap.ExtBut it s.heap h'->(∃ o,h'.get? e=some o/\o.cls=.type "StopIteration")->E (.ref e) { s with heap:=h' }):wpAny (model prog w) A (Builtin.SmallTypes.nextOf (.ref it)) Q E s:=by
 obtain⟨o,ho,hc,hd⟩:=id hit
 obtain⟨ol,hol,_,nl,hdl⟩:=hl
 unfold Builtin.SmallTypes.nextOf
 refine wpAny_bind (wpAny_callSpecial?_slot (name:=Str.ofString "__next__") hit.typeIs F.slot_tuple_iterator_next (wpAny_call_entry F.slot_tuple_iterator_next hit.typeIs F.entry_tuple_iterator_next ?_ (F.args_tuple_iterator_next_1 _)))
 show wpAny _ A.in1 (field (.ref it) 0 >>= _) _ _ s
 refine wpAny_bind (wpAny_field (x:=.ref l) ho hd rfl ?_)
 show wpAny _ A.in1 (if (Value.ref l == Value.none)=true then _ else _) _ _ s
 have nn:¬ ((Value.ref l == Value.none)=true):=Bool.false_ne_true
 rw[if_neg nn]
 show wpAny _ A.in1 (field (.ref it) 1 >>= _) _ _ s
 refine wpAny_bind (wpAny_field (x:=.int i 0) ho hd rfl ?_)
 show wpAny _ A.in1 (seqItems? (.ref l) >>= _) _ _ s
 refine wpAny_bind (wpAny_seqItems hol hdl ?_)
 simp only[hx,Int.toNat_natCast]
 refine wpAny_bind (wpAny_rule (wpAny_bind (wpAny_setField ho hd (by simp) ?_)))
 show wpAny _ A.in1 (newExc (.type "StopIteration") [] >>= _) _ _ _
 refine wpAny_bind ?_
 simp only[newExc,newTuple]
 refine wpAny_bind (wpAny_newObj_type ?_ (by size_fits))
 refine wpAny_bind (m:=firstArgMember _ _) (wpAny_of_eq (a:=Value.none) (by simp only[firstArgMember];rfl) ?_)
 refine wpAny_newObj_type ?_ (by size_fits)
 simp only[raiseNew]
 refine wpAny_bind (wpAny_handled ?_)
 rw[show A.in1.handled=none from hh]
 refine wpAny_bind (wpAny_pure (wpAny_throw ?_))
 exact hE _ _ (((Heap.SameBut.update ..).extBut.push _).push _) ⟨_,Heap.get?_push_size _ rfl,rfl⟩
private theorem nextOf_seq{b:Bool}{it l:Addr}{i:Nat}{items:Array Value}{x:Value}{Q:Value->Shared->Prop}(hit:IterIs b s.heap it l i)(hl:SeqIs b s.heap l items)(hx:items[i]?=some x)
  (hQ:∀ h',IterIs b h' it l (i+1)->Heap.SameBut it s.heap h'->Q x { s with heap:=h' }):wpAny (model prog w) A (Builtin.SmallTypes.nextOf (.ref it)) Q E s:=by
 cases b with
 | true=>exact wpAny_nextOf_list_item hit hl hx hQ
 | false=>exact nextOf_tup hit hl hx hQ
private theorem nextOf_seq_end{b:Bool}{it l:Addr}{i:Nat}{items:Array Value}{Q:Value->Shared->Prop}(hh:A.handled=none)(hit:IterIs b s.heap it l i)(hl:SeqIs b s.heap l items)(hx:items[i]?=none)
  (hE:∀ h' e,Heap.ExtBut it s.heap h'->(∃ o,h'.get? e=some o/\o.cls=.type "StopIteration")->E (.ref e) { s with heap:=h' }):wpAny (model prog w) A (Builtin.SmallTypes.nextOf (.ref it)) Q E s:=by
 cases b with
 | true=>exact wpAny_nextOf_list_end hh hit hl hx hE
 | false=>exact nextOf_tup_end hh hit hl hx hE
structure ZApart(z ti to i1 i2:Addr):Prop where
 a1:ti≠z
 a2:to≠z
 a3:i1≠z
 a4:i2≠z
 a5:ti≠to
 a6:ti≠i1
 a7:ti≠i2
 a8:to≠i1
 a9:to≠i2
 a10:i1≠i2
structure ZSt(b c:Bool)(z ti to i1 i2 l1 l2:Addr)(k:Nat)(h:Heap):Prop where
 z:IsZip h z ti to .none
 ti:IsPair h ti (.ref i1) (.ref i2)
 to:∃ u v,IsPair h to u v
 i1:IterIs b h i1 l1 k
 i2:IterIs c h i2 l2 k
structure ZMid(b c:Bool)(z ti to i1 i2 l1 l2:Addr)(k:Nat)(T:Addr)(h:Heap):Prop where
 z:IsZip h z ti to (rawInt T)
 ti:IsPair h ti (.ref i1) (.ref i2)
 to:∃ u v,IsPair h to u v
 i1:IterIs b h i1 l1 (k+1)
 i2:IterIs c h i2 l2 (k+1)
private theorem ZSt.apartL{b c d:Bool}{z ti to i1 i2 l1 l2 l:Addr}{k:Nat}{h:Heap}{xs:Array Value}(x:ZSt b c z ti to i1 i2 l1 l2 k h)(hl:SeqIs d h l xs)(hto:l≠to):l≠z/\l≠i1/\l≠i2:=by
 refine⟨?_,hl.ne x.i1,hl.ne x.i2⟩
 rintro rfl
 have e:=x.z
 cases d<;>(obtain⟨o',e',hc',_⟩:=hl;rw[e] at e';cases e';exact absurd (Value.type.inj hc') (by decide))
private theorem zip_item{b c:Bool}{z ti to i1 i2 l1 l2:Addr}{k:Nat}{xs ys:Array Value}{x y:Value}{Q:Value->Shared->Prop}(D:ZApart z ti to i1 i2)(S:ZSt b c z ti to i1 i2 l1 l2 k s.heap)
  (hl1:SeqIs b s.heap l1 xs) (hl2:SeqIs c s.heap l2 ys) (n1:l1≠to) (n2:l2≠to) (hx:xs[k]?=some x) (hy:ys[k]?=some y)
  (hQ:∀ h',ZMid b c z ti to i1 i2 l1 l2 k s.heap.objs.size h'->IsPair h' s.heap.objs.size x y->(∀ d o,d≠z->d≠to->d≠i1->d≠i2->s.heap.get? d=some o->h'.get? d=some o)->Q (.ref s.heap.objs.size) { s with heap:=h' }) :
  wpAny (model prog w) A (Builtin.«zip.__next__» ⟨[.ref z],[]⟩) (fun fin s'=>∃ v,fin=.done (.ret v)/\Q v s') E s:=by
 obtain⟨m1,m2,m3⟩:=S.apartL hl1 n1
 obtain⟨m4,m5,m6⟩:=S.apartL hl2 n2
 obtain⟨hz,hTI,⟨u,v,hTO⟩,h1,h2⟩:=S
 show wpAny _ A (field (.ref z) 2 >>= _) _ _ _
 refine wpAny_bind (wpAny_field (x:=.bool false) hz rfl rfl ?_)
 show wpAny _ A (field (.ref z) 3 >>= _) _ _ _
 refine wpAny_bind (wpAny_field (x:=.ref ti) hz rfl rfl ?_)
 refine wpAny_bind (wpAny_seqItems hTI rfl ?_)
 show wpAny _ A (Builtin.SmallTypes.ownedTupleIsFree (.ref z) >>= _) _ _ _
 refine wpAny_bind ?_
 unfold Builtin.SmallTypes.ownedTupleIsFree
 refine wpAny_bind (wpAny_field (x:=.none) hz rfl rfl (wpAny_pure ?_))
 simp only[if_true]
 refine wpAny_bind (wpAny_rule ?_)
 refine wpAny_bind (wpAny_field (x:=.ref to) hz rfl rfl ?_)
 refine wpAny_bind (wpAny_setField_rec hz (by simp) fun g1 hz1 s1=>?_)
 replace hz1:IsZip g1 z ti to .ellipsis:=hz1
 refine wpAny_bind ?_
 simp only[forIn_cons,forIn_nil,zipIdx_cons,List.zipIdx_nil]
 refine wpAny_bind (wpAny_bind (wpAny_onRaise ?_))
 show wpAny _ A (Builtin.SmallTypes.nextOf (.ref i1) >>= _) _ _ _
 refine wpAny_bind (nextOf_seq (h1.at fun o e=>s1.extBut _ _ D.a3 e) (hl1.at fun o e=>s1.extBut _ _ m1 e) hx fun g2 k1 s2=>wpAny_pure ?_)
 have hTO2:IsPair g2 to u v:=s2.extBut _ _ D.a8 (s1.extBut _ _ D.a2 hTO)
 refine wpAny_bind (wpAny_seqItems hTO2 rfl ?_)
 refine wpAny_bind (wpAny_updateSeq_pair hTO2 fun g3 hTO3 s3=>?_)
 replace hTO3:IsPair g3 to x v:=hTO3
 refine wpAny_bind (wpAny_letGo (wpAny_pure ?_))
 refine wpAny_bind (wpAny_bind (wpAny_onRaise ?_))
 show wpAny _ A (Builtin.SmallTypes.nextOf (.ref i2) >>= _) _ _ _
 refine wpAny_bind (nextOf_seq (h2.at fun o e=>s3.extBut _ _ D.a9.symm (s2.extBut _ _ D.a10.symm (s1.extBut _ _ D.a4 e))) (hl2.at fun o e=>s3.extBut _ _ n2 (s2.extBut _ _ m5 (s1.extBut _ _ m4 e))) hy fun g4 k2 s4=>wpAny_pure ?_)
 have hTO4:IsPair g4 to x v:=s4.extBut _ _ D.a9 hTO3
 refine wpAny_bind (wpAny_seqItems hTO4 rfl ?_)
 refine wpAny_bind (wpAny_updateSeq_pair hTO4 fun g5 hTO5 s5=>?_)
 replace hTO5:IsPair g5 to x y:=hTO5
 refine wpAny_bind (wpAny_letGo (wpAny_pure (wpAny_pure ?_)))
 refine wpAny_bind (wpAny_seqItems hTO5 rfl ?_)
 refine wpAny_bind (wpAny_newTuple ?_)
 have sz:g5.objs.size=s.heap.objs.size:=by rw[s5.1,s4.1,s3.1,s2.1,s1.1]
 have z5:IsZip g5 z ti to .ellipsis:=s5.extBut _ _ D.a2.symm (s4.extBut _ _ D.a4.symm (s3.extBut _ _ D.a2.symm (s2.extBut _ _ D.a3.symm hz1)))
 have kp:∀ d o,d≠z->d≠to->d≠i1->d≠i2->s.heap.get? d=some o->g5.get? d=some o:=fun d o d1 d2 d3 d4 e=>s5.extBut _ _ d2 (s4.extBut _ _ d4 (s3.extBut _ _ d2 (s2.extBut _ _ d3 (s1.extBut _ _ d1 e))))
 have j1:IterIs b g5 i1 l1 (k+1):=k1.at fun o e=>s5.extBut _ _ D.a8.symm (s4.extBut _ _ D.a10 (s3.extBut _ _ D.a8.symm e))
 have j2:IterIs c g5 i2 l2 (k+1):=k2.at fun o e=>s5.extBut _ _ D.a9.symm e
 have zl:z<g5.objs.size:=Heap.lt_size z5
 show wpAny _ A (Builtin.SmallTypes.ownedTupleHandOut (.ref z) (.ref g5.objs.size) >>= _) _ _ _
 refine wpAny_bind ?_
 unfold Builtin.SmallTypes.ownedTupleHandOut
 have z6:IsZip (g5.push { cls:=.type "tuple",data:=.seq #[x,y] }) z ti to .ellipsis:=Heap.get?_push_of_some _ z5
 refine wpAny_bind (wpAny_setField_rec z6 (by simp) fun g7 z7 s7=>?_)
 replace z7:IsZip g7 z ti to (rawInt g5.objs.size):=z7
 refine wpAny_setField_rec z7 (by simp) fun g8 z8 s8=>?_
 replace z8:IsZip g8 z ti to (rawInt g5.objs.size):=z8
 have up:∀ d o,d≠z->g5.get? d=some o->g8.get? d=some o:=fun d o d1 e=>s8.extBut _ _ d1 (s7.extBut _ _ d1 (Heap.get?_push_of_some _ e))
 have T8:IsPair g8 g5.objs.size x y:=s8.extBut _ _ (Nat.ne_of_gt zl) (s7.extBut _ _ (Nat.ne_of_gt zl) (Heap.get?_push_size _ rfl))
 rw[sz] at z8 T8
 refine wpAny_pure ⟨_,rfl,?_⟩
 show Q (.ref g5.objs.size) _
 rw[sz]
 exact hQ g8 ⟨z8,up _ _ D.a1 (kp _ _ D.a1 D.a5 D.a6 D.a7 hTI),⟨_,_,up _ _ D.a2 hTO5⟩,j1.at fun o e=>up _ o D.a3 e,j2.at fun o e=>up _ o D.a4 e⟩ T8 fun d o d1 d2 d3 d4 e=>up d o d1 (kp d o d1 d2 d3 d4 e)
private theorem zip_stop{b c:Bool}{z ti to i1 i2 l1 l2:Addr}{k:Nat}{xs ys:Array Value}{Q:Fin->Shared->Prop}(hh:A.handled=none)(D:ZApart z ti to i1 i2)(S:ZSt b c z ti to i1 i2 l1 l2 k s.heap)
  (hl1:SeqIs b s.heap l1 xs) (hl2:SeqIs c s.heap l2 ys) (n1:l1≠to) (n2:l2≠to) (hend:xs[k]?=none\/ys[k]?=none)
  (hE:∀ h' e,(∀ d o,d≠z->d≠to->d≠i1->d≠i2->s.heap.get? d=some o->h'.get? d=some o)->(∃ o,h'.get? e=some o/\o.cls=.type "StopIteration")->E (.ref e) { s with heap:=h' }) :
  wpAny (model prog w) A (Builtin.«zip.__next__» ⟨[.ref z],[]⟩) Q E s:=by
 obtain⟨m1,m2,m3⟩:=S.apartL hl1 n1
 obtain⟨m4,m5,m6⟩:=S.apartL hl2 n2
 obtain⟨hz,hTI,⟨u,v,hTO⟩,h1,h2⟩:=S
 show wpAny _ A (field (.ref z) 2 >>= _) _ _ _
 refine wpAny_bind (wpAny_field (x:=.bool false) hz rfl rfl ?_)
 show wpAny _ A (field (.ref z) 3 >>= _) _ _ _
 refine wpAny_bind (wpAny_field (x:=.ref ti) hz rfl rfl ?_)
 refine wpAny_bind (wpAny_seqItems hTI rfl ?_)
 show wpAny _ A (Builtin.SmallTypes.ownedTupleIsFree (.ref z) >>= _) _ _ _
 refine wpAny_bind ?_
 unfold Builtin.SmallTypes.ownedTupleIsFree
 refine wpAny_bind (wpAny_field (x:=.none) hz rfl rfl (wpAny_pure ?_))
 simp only[if_true]
 refine wpAny_bind (wpAny_rule ?_)
 refine wpAny_bind (wpAny_field (x:=.ref to) hz rfl rfl ?_)
 refine wpAny_bind (wpAny_setField_rec hz (by simp) fun g1 hz1 s1=>?_)
 replace hz1:IsZip g1 z ti to .ellipsis:=hz1
 refine wpAny_bind ?_
 simp only[forIn_cons,forIn_nil,zipIdx_cons,List.zipIdx_nil]
 refine wpAny_bind (wpAny_bind (wpAny_onRaise ?_))
 show wpAny _ A (Builtin.SmallTypes.nextOf (.ref i1) >>= _) _ _ _
 have q1:IterIs b g1 i1 l1 k:=h1.at fun o e=>s1.extBut _ _ D.a3 e
 have q2:SeqIs b g1 l1 xs:=hl1.at fun o e=>s1.extBut _ _ m1 e
 cases hx:xs[k]? with
 | none =>
  refine wpAny_bind (nextOf_seq_end hh q1 q2 hx fun g2 e s2 he=>?_)
  obtain⟨oe,hoe,hce⟩:=he
  have z2:IsZip g2 z ti to .ellipsis:=s2 _ _ D.a3.symm hz1
  have hez:e≠z:=fun q=>by subst q;rw[z2] at hoe;cases hoe;exact absurd (Value.type.inj hce) (by decide)
  exact wpAny_setField_rec z2 (by simp) fun g3 _ s3=>hE g3 e (fun d o d1 _ d3 _ q=>s3.extBut _ _ d1 (s2 _ _ d3 (s1.extBut _ _ d1 q))) ⟨oe,s3.extBut _ _ hez hoe,hce⟩
 | some x =>
  have hy:ys[k]?=none:=by
   rcases hend with h | h
   ·rw[hx] at h;cases h
   ·exact h
  refine wpAny_bind (nextOf_seq q1 q2 hx fun g2 k1 s2=>wpAny_pure ?_)
  have hTO2:IsPair g2 to u v:=s2.extBut _ _ D.a8 (s1.extBut _ _ D.a2 hTO)
  refine wpAny_bind (wpAny_seqItems hTO2 rfl ?_)
  refine wpAny_bind (wpAny_updateSeq_pair hTO2 fun g3 hTO3 s3=>?_)
  refine wpAny_bind (wpAny_letGo (wpAny_pure ?_))
  refine wpAny_bind (wpAny_bind (wpAny_onRaise ?_))
  show wpAny _ A (Builtin.SmallTypes.nextOf (.ref i2) >>= _) _ _ _
  refine wpAny_bind (nextOf_seq_end hh (h2.at fun o e=>s3.extBut _ _ D.a9.symm (s2.extBut _ _ D.a10.symm (s1.extBut _ _ D.a4 e))) (hl2.at fun o e=>s3.extBut _ _ n2 (s2.extBut _ _ m5 (s1.extBut _ _ m4 e))) hy fun g4 e s4 he=>?_)
  obtain⟨oe,hoe,hce⟩:=he
  have z4:IsZip g4 z ti to .ellipsis:=s4 _ _ D.a4.symm (s3.extBut _ _ D.a2.symm (s2.extBut _ _ D.a3.symm hz1))
  have hez:e≠z:=fun q=>by subst q;rw[z4] at hoe;cases hoe;exact absurd (Value.type.inj hce) (by decide)
  exact wpAny_setField_rec z4 (by simp) fun g5 _ s5=>hE g5 e (fun d o d1 d2 d3 d4 q=>s5.extBut _ _ d1 (s4 _ _ d4 (s3.extBut _ _ d2 (s2.extBut _ _ d3 (s1.extBut _ _ d1 q))))) ⟨oe,s5.extBut _ _ hez hoe,hce⟩
private theorem next_zip{b c:Bool}{z ti to i1 i2 l1 l2:Addr}{k:Nat}{xs ys:Array Value}{x y:Value}{Q:Option Value->Shared->Prop}(D:ZApart z ti to i1 i2)(S:ZSt b c z ti to i1 i2 l1 l2 k s.heap)
  (hl1:SeqIs b s.heap l1 xs) (hl2:SeqIs c s.heap l2 ys) (n1:l1≠to) (n2:l2≠to) (hx:xs[k]?=some x) (hy:ys[k]?=some y)
  (hQ:∀ h',ZMid b c z ti to i1 i2 l1 l2 k s.heap.objs.size h'->IsPair h' s.heap.objs.size x y->(∀ d o,d≠z->d≠to->d≠i1->d≠i2->s.heap.get? d=some o->h'.get? d=some o)->Q (some (.ref s.heap.objs.size)) { s with heap:=h' }) :
  wpAny (model prog w) A (pyNext (.ref z)) Q E s:=by
 have hT:s.TypeIs (.ref z) "zip" := ⟨_,S.z,rfl⟩
 unfold pyNext
 exact wpAny_bind (wpAny_attempt (wpAny_callSpecial?_slot (name:=Str.ofString "__next__") hT F.slot_zip_next (wpAny_call_entry F.slot_zip_next hT F.entry_zip_next
  (zip_item D S hl1 hl2 n1 n2 hx hy fun h' a1 a2 a3=>wpAny_pure (hQ h' a1 a2 a3)) (F.args_zip_next_1 _))))
private theorem next_zip_end{b c:Bool}{z ti to i1 i2 l1 l2:Addr}{k:Nat}{xs ys:Array Value}{Q:Option Value->Shared->Prop}(hh:A.handled=none)(D:ZApart z ti to i1 i2)(S:ZSt b c z ti to i1 i2 l1 l2 k s.heap)
  (hl1:SeqIs b s.heap l1 xs) (hl2:SeqIs c s.heap l2 ys) (n1:l1≠to) (n2:l2≠to) (hend:xs[k]?=none\/ys[k]?=none)
  (hQ:∀ h',(∀ d o,d≠z->d≠to->d≠i1->d≠i2->s.heap.get? d=some o->h'.get? d=some o)->Q none { s with heap:=h' }):wpAny (model prog w) A (pyNext (.ref z)) Q E s:=by
 have hT:s.TypeIs (.ref z) "zip" := ⟨_,S.z,rfl⟩
 unfold pyNext
 refine wpAny_bind (wpAny_attempt (wpAny_callSpecial?_slot (name:=Str.ofString "__next__") hT F.slot_zip_next (wpAny_call_entry F.slot_zip_next hT F.entry_zip_next
  (zip_stop hh D S hl1 hl2 n1 n2 hend fun h' e hk he=>?_) (F.args_zip_next_1 _))))
 obtain⟨o,ho,hc⟩:=he
 refine wpAny_bind (wpAny_isInstance (T := "StopIteration") (b:=true) ⟨o,ho,hc⟩ isSubtype_stop (wpAny_pure (hQ _ hk)))
def zh1(h:Heap)(b:Bool)(l:Addr):Heap:=h.push { cls:=.type (itName b),data:=.fields #[.ref l,.int 0 0] }
def zh3(h:Heap)(b c:Bool)(l1 l2:Addr):Heap:=(zh1 (zh1 h b l1) c l2).push { cls:=.type "tuple",data:=.seq #[.ref h.objs.size,.ref (zh1 h b l1).objs.size] }
def zh4(h:Heap)(b c:Bool)(l1 l2:Addr):Heap:=(zh3 h b c l1 l2).push { cls:=.type "tuple",data:=.seq #[.none,.none] }
def zh5(h:Heap)(b c:Bool)(l1 l2:Addr):Heap:=(zh4 h b c l1 l2).push { cls:=.type "zip",data:=.fields #[.none,.bool false,.bool false,.ref (zh1 (zh1 h b l1) c l2).objs.size,.ref (zh3 h b c l1 l2).objs.size] }
end
private theorem meets_zip(b c:Bool)(l1 l2:Addr)(xs ys:Array Value) :
  Meets (Builtin.«zip.__new__» ⟨[.type "zip",.ref l1,.ref l2],[]⟩) (fun _ R s=>SeqIs b s.heap l1 xs/\SeqIs c s.heap l2 ys /\
   R (.ok (.ret (.ref (zh4 s.heap b c l1 l2).objs.size))) { s with heap:=zh5 s.heap b c l1 l2 }) :=
 .of_wp fun prog w A R s h=>by
  obtain⟨hp,g,d,tk,os⟩:=s
  obtain⟨hl1,hl2,h⟩:=h
  have hsub:=sub_zip
  have q1:SeqIs b (Shared.heap ⟨hp,g,d,tk,os⟩) l1 xs:=hl1
  have q2:SeqIs c (Shared.heap ⟨hp.push { cls:=.type (itName b),data:=.fields #[.ref l1,.int 0 0] },g,d,tk,os⟩) l2 ys:=hl2.at fun o e=>Heap.get?_push_of_some _ e
  wp_walk using pyIter_seq q1,pyIter_seq q2
  exact⟨_,rfl,h⟩
section
variable {prog:Program} {w:World} {A:Around} {E:Value->Shared->Prop} {s:Shared}
private theorem call_zip{b c:Bool}{l1 l2:Addr}{xs ys:Array Value}{Q:Value->Shared->Prop}(hl1:SeqIs b s.heap l1 xs)(hl2:SeqIs c s.heap l2 ys)
  (h:∀ h' z ti to i1 i2,ZApart z ti to i1 i2->ZSt b c z ti to i1 i2 l1 l2 0 h'->(∀ d∈[z,ti,to,i1,i2],s.heap.objs.size<=d)->(∀ d o,s.heap.get? d=some o->h'.get? d=some o)->Q (.ref z) { s with heap:=h' }) :
  wpAny (model prog w) A (call (.type "zip") [.ref l1,.ref l2]) Q E s:=by
 refine callType_new F.called_zip (by decide) (F.typeCall_zip_2 _ _) (F.newCall_zip_2 _ _) (fun obj=>F.args_object_init_3 obj _ _) F.entry_zip_new (meets_zip b c l1 l2 xs ys) ⟨hl1,hl2,?_⟩
 unfold zh5 zh4 zh3
 generalize h1:zh1 s.heap b l1=g1
 generalize h2:zh1 g1 c l2=g2
 have z1:g1.objs.size=s.heap.objs.size+1:=by rw[<- h1];exact Heap.size_push ..
 have z2:g2.objs.size=s.heap.objs.size+2:=by rw[<- h2];exact(Heap.size_push ..).trans (by rw[z1])
 generalize h3:g2.push { cls:=.type "tuple",data:=.seq #[.ref s.heap.objs.size,.ref g1.objs.size] }=g3
 have z3:g3.objs.size=s.heap.objs.size+3:=by rw[<- h3,Heap.size_push,z2]
 generalize h4:g3.push { cls:=.type "tuple",data:=.seq #[.none,.none] }=g4
 have z4:g4.objs.size=s.heap.objs.size+4:=by rw[<- h4,Heap.size_push,z3]
 have e1:g1.get? s.heap.objs.size=some { cls:=.type (itName b),data:=.fields #[.ref l1,.int 0 0] }:=by rw[<- h1];exact Heap.get?_push_size _ rfl
 have e2:g2.get? g1.objs.size=some { cls:=.type (itName c),data:=.fields #[.ref l2,.int 0 0] }:=by rw[<- h2];exact Heap.get?_push_size _ rfl
 have e3:g3.get? g2.objs.size=some { cls:=.type "tuple",data:=.seq #[.ref s.heap.objs.size,.ref g1.objs.size] }:=by rw[<- h3];exact Heap.get?_push_size _ rfl
 have e4:g4.get? g3.objs.size=some { cls:=.type "tuple",data:=.seq #[.none,.none] }:=by rw[<- h4];exact Heap.get?_push_size _ rfl
 have k1:∀ d o,s.heap.get? d=some o->g1.get? d=some o:=fun d o e=>by rw[<- h1];exact Heap.get?_push_of_some _ e
 have k2:∀ d o,g1.get? d=some o->g2.get? d=some o:=fun d o e=>by rw[<- h2];exact Heap.get?_push_of_some _ e
 have k3:∀ d o,g2.get? d=some o->g3.get? d=some o:=fun d o e=>by rw[<- h3];exact Heap.get?_push_of_some _ e
 have k4:∀ d o,g3.get? d=some o->g4.get? d=some o:=fun d o e=>by rw[<- h4];exact Heap.get?_push_of_some _ e
 show _/\_
 refine⟨⟨_,Heap.get?_push_size _ rfl,rfl⟩,?_⟩
 refine h _ g4.objs.size g2.objs.size g3.objs.size s.heap.objs.size g1.objs.size ⟨?_,?_,?_,?_,?_,?_,?_,?_,?_,?_⟩ ⟨Heap.get?_push_size _ rfl,Heap.get?_push_of_some _ (k4 _ _ e3),⟨_,_,Heap.get?_push_of_some _ e4⟩,?_,?_⟩ (fun d hd=>?_) fun d o e=>Heap.get?_push_of_some _ (k4 _ _ (k3 _ _ (k2 _ _ (k1 _ _ e))))
 ·rw[z2,z4];first | exact Nat.ne_of_lt (by lia) | exact Nat.ne_of_gt (by lia)
 ·rw[z3,z4];first | exact Nat.ne_of_lt (by lia) | exact Nat.ne_of_gt (by lia)
 ·rw[z4];first | exact Nat.ne_of_lt (by lia) | exact Nat.ne_of_gt (by lia)
 ·rw[z1,z4];first | exact Nat.ne_of_lt (by lia) | exact Nat.ne_of_gt (by lia)
 ·rw[z2,z3];first | exact Nat.ne_of_lt (by lia) | exact Nat.ne_of_gt (by lia)
 ·rw[z2];first | exact Nat.ne_of_lt (by lia) | exact Nat.ne_of_gt (by lia)
 ·rw[z2,z1];first | exact Nat.ne_of_lt (by lia) | exact Nat.ne_of_gt (by lia)
 ·rw[z3];first | exact Nat.ne_of_lt (by lia) | exact Nat.ne_of_gt (by lia)
 ·rw[z3,z1];first | exact Nat.ne_of_lt (by lia) | exact Nat.ne_of_gt (by lia)
 ·rw[z1];first | exact Nat.ne_of_lt (by lia) | exact Nat.ne_of_gt (by lia)
 ·cases b<;>exact⟨_,Heap.get?_push_of_some _ (k4 _ _ (k3 _ _ (k2 _ _ e1))),rfl,rfl⟩
 ·cases c<;>exact⟨_,Heap.get?_push_of_some _ (k4 _ _ (k3 _ _ e2)),rfl,rfl⟩
 ·simp only [List.mem_cons, List.not_mem_nil, or_false] at hd
  rcases hd with rfl | rfl | rfl | rfl | rfl
  ·rw[z4];lia
  ·rw[z2];lia
  ·rw[z3];lia
  ·exact Nat.le_refl _
  ·rw[z1];lia
end
end L2
namespace L2
private theorem Inv.track{X:Cx}{pins:List (Addr × Obj)}{σ:St}{H:Hp}{s:Shared}{a:Addr}{o:HO}(I:Inv X pins σ H s)(hn:H a=none)(hz:X.s₀.heap.objs.size<=a)(hL:a≠X.env.locals)
  (hc:∀ x c,X.env.cells.lookup x=some c->c≠a) (hp:∀ p∈X.pn++pins,p.1≠a) (new:ObjOk X.prog X.w (upd H a o) s.heap a o):Inv X pins σ (upd H a o) s:=by
 have nb:∀ b u,H b=some u->b≠a:=fun b u e=>ne_of_none e hn
 refine⟨I.ok,I.os,I.bare,⟨I.base.keep,I.base.slot,fun b u e n hx=>?_,I.base.there,fun b xs e=>?_,fun b u xs e=>?_,fun b ps e=>?_⟩,I.loc,I.cell,?_,fun x c e=>?_,fun p hq=>?_,fun b u e=>?_,I.len⟩
 ·rw[upd_ne (Nat.ne_of_lt (Nat.lt_of_lt_of_le (Heap.lt_size e) hz))];exact I.base.free b u e n hx
 ·have q:=I.base.tups b xs e;rw[upd_ne (nb b _ q)];exact q
 ·have q:=I.base.frzs b u xs e;rw[upd_ne (nb b _ q)];exact q
 ·obtain⟨m,q⟩:=I.base.tbls b ps e;exact⟨m,by rw[upd_ne (nb b _ q)];exact q⟩
 ·rw[upd_ne (Ne.symm hL)];exact I.free
 ·rw[upd_ne (hc x c e)];exact I.freeC x c e
 ·obtain ⟨q1, q2, q3⟩ := I.pin p hq
  exact⟨q1,by rw[upd_ne (hp p hq)];exact q2,q3⟩
 ·by_cases hb : b = a
  ·subst hb;rw[upd_same] at e;cases e;exact new
  ·rw [upd_ne hb] at e
   exact(I.hok b u e).stay (fun _ _ _ q=>q) (fun c q=>by rw[upd_ne (nb c _ q)];exact q) fun c xs q=>by rw[upd_ne (nb c _ q)];exact q
structure CompOk(X:Cx)(scope:Scope)(M:List Str):Prop where
 kind:scope.kind=.function
 uniq:∀ y∈scope.names,scope.names.lookup y.1=some y.2
 frees:∀ y∈scope.names,y.2=.free->(X.env.kindOf y.1=some .cell\/X.env.kindOf y.1=some .free)
 shadow:∀ x∈M,scope.names.lookup x≠some .local/\scope.names.lookup x≠some .cell
 same:∀ (i:Nat) (x:Str),M[i]?=some x->scope.names.lookup x=some .free->X.N[i]?=some x
 mlen:M.length=X.N.length
def compChk(N M:List Str)(out sc:Scope):Bool :=
 (sc.kind == .function && sc.names.all (fun y => sc.names.lookup y.1 == some y.2 && (y.2 != .free || (out.names.lookup y.1 == some .cell || out.names.lookup y.1 == some .free))) &&
  M.all (fun x=>sc.names.lookup x != some .local&&sc.names.lookup x != some .cell))&&(M.length == N.length&&(M.zip N).all (fun p=>sc.names.lookup p.1 != some .free||p.1 == p.2))
private theorem compOk{X:Cx}{sc:Scope}{M:List Str}(h:compChk X.N M X.env.scope sc=true):CompOk X sc M:=by
 unfold compChk at h
 rw[Bool.and_eq_true,Bool.and_eq_true,Bool.and_eq_true,Bool.and_eq_true,all_eq_true,all_eq_true,all_eq_true] at h
 obtain⟨⟨⟨h1,h2⟩,h3⟩,h4,h5⟩:=h
 have hl:M.length=X.N.length:=by simpa using h4
 refine⟨by simpa using h1,fun y hy=>?_,fun y hy hf=>?_,fun x hx=>?_,fun i x hi hf=>?_,hl⟩
 ·have := h2 y hy
  rw[Bool.and_eq_true] at this
  simpa using this.1
 ·have := h2 y hy
  rw[Bool.and_eq_true] at this
  have q:=this.2
  rw[hf] at q
  have q':(X.env.scope.names.lookup y.1 == some .cell||X.env.scope.names.lookup y.1 == some .free)=true:=by simpa using q
  rw[Bool.or_eq_true] at q'
  exact q'.imp (fun z=>(show X.env.scope.names.lookup y.1=some .cell by simpa using z)) fun z=>(show X.env.scope.names.lookup y.1=some .free by simpa using z)
 ·have := h3 x hx
  rw[Bool.and_eq_true] at this
  exact⟨by simpa using this.1,by simpa using this.2⟩
 ·have hlt : i < X.N.length := by rw [<- hl]; exact (List.getElem?_eq_some_iff.mp hi).1
  have hn:X.N[i]?=some X.N[i]:=getElem?_eq_getElem hlt
  have hz:(M.zip X.N)[i]?=some (x,X.N[i]):=by rw[List.getElem?_zip_eq_some];exact⟨hi,hn⟩
  have:=h5 _ (mem_of_getElem? hz)
  rw[Bool.or_eq_true] at this
  rcases this with z | z
  ·rw[hf] at z;simp at z
  ·have e : x = X.N[i] := by simpa using z
   rw[hn,<- e]
def cellsC(X:Cx)(scope:Scope)(C:Addr):List (Str × Addr):=cellsFrom (C+1) scope.names (closL X.env scope.names [])
def cxComp(X:Cx)(scope:Scope)(own M:List Str)(C:Addr)(s2:Shared)(H2:Hp)(fp:List Addr):Cx where
 prog:=X.prog
 w:=X.w
 K:=X.K
 mg:=X.mg
 base:=X.base
 A:=X.A
 N:=own++M
 s₀:=s2
 H₀:=H2
 env:=compEnvC scope (cellsC X scope C) C X.env
 outer:=X.stack
 stack:=X.stack
 ex:=fp
 fn:=fun x=>scope.names.lookup x == some .cell
 calm:=X.calm
 pn:=[]
 xe:=fun _ _=>False
def PTs(X:Cx)(ifs:List Expr)(t:TT):Prop :=
 ∀ (pins:List (Addr × Obj)) (s:Shared) (σ:St) (H:Hp) (Q:Bool->Hp->Prop),Inv X pins σ H s->t σ H Q->wpAny (model X.prog X.w) X.A (cTests ifs X.env) (TP X pins σ Q) X.xe s
def tYes:TT:=fun _ H Q=>Q true H
private theorem pts_nil{X:Cx}:PTs X [] tYes:=fun _ _ _ H _ I h=>wpAny_pure ⟨H,I,h⟩
private theorem pts_one{X:Cx}{c:Expr}{t:TT}(hc:PT X c t):PTs X [c] t:=by
 intro pins s σ H Q I h
 show wpAny _ _ (forIn [c] true _) _ _ s
 simp only[forIn_cons,forIn_nil,if_true]
 exact wpAny_bind (wpAny_bind (thn (hc pins s σ H Q I h) fun b s' hb=>wpAny_pure (wpAny_pure hb)))
def tComp(wi:TI)(own:Nat)(g:TG)(tt:TT)(te:TE):TE:=fun σ H Q=>wi σ H fun J H1=>∃ W:Nat->Nat->List V->Hp->Prop,(∃ m,W 0 m [] H1)/\∀ i m acc H,W i m acc H ->
 (J.stop i H/\acc.length<=sizeLine/\∀ D,H D=none->Q (.ref D) (upd H D (.lst acc))) \/
 (J.go i H /\ acc.length < sizeLine /\ ∀ x H', J.yld i H x H' -> g x (List.replicate own none ++ σ) H' fun σ2 H2 => σ2.drop own = σ /\ tt σ2 H2 fun c H3 =>
  if c=true then te σ2 H3 fun v H4=>∃ m',m'<m/\W (i+1) m' (acc++[v]) H4 else ∃ m',m'<m/\W (i+1) m' acc H3)
section
variable {X:Cx} {scope:Scope} {own M:List Str} {pins:List (Addr × Obj)} {σ:St} {H2:Hp} {s2:Shared} {fp:List Addr}
private theorem CompOk.cells(ok:CompOk X scope M)(I:Inv X pins σ H2 s2):∀ y∈scope.names,y.2=.free->∃ c,X.env.cells.lookup y.1=some c:=fun y hy hf=>I.ok.has y.1 (ok.frees y hy hf)
private theorem CompOk.kindIn(ok:CompOk X scope M){x:Str}{C:Addr}{k:NameKind}(h:(compEnvC scope (cellsC X scope C) C X.env).kindOf x=some k) :
  scope.names.lookup x=some k\/(k=.cell/\scope.names.lookup x=some .free):=by
 have h':(relabel scope X.env).names.lookup x=some k:=h
 unfold relabel at h'
 rw[relab_lookup] at h'
 cases e:scope.names.lookup x with
 | none=>rw[e] at h';simp at h'
 | some j =>
  rw[e,Option.map_some] at h'
  have h2:=Option.some.inj h'
  split at h2
  ·rename_i hc
   have:j=.free:=by
    rw[Bool.and_eq_true,Bool.and_eq_true] at hc
    simpa using hc.1.1
   exact .inr ⟨h2.symm,by rw[this]⟩
  ·exact .inl (by rw[h2])
private theorem CompOk.cellsFrom_old(ok:CompOk X scope M)(I:Inv X pins σ H2 s2){C:Addr}{x:Str}{c:Addr}(h:(cellsC X scope C).lookup x=some c)(hx:scope.names.lookup x≠some .cell):X.env.cells.lookup x=some c:=by
 have e0 : ∀ (l : List (Str × NameKind)) (n : Nat) (acc : List (Str × Addr)), (x, NameKind.cell) ∉ l -> (cellsFrom n l acc).lookup x = acc.lookup x := by
  intro l
  induction l with
  | nil=>intro n acc _;rfl
  | cons y r ih =>
   intro n acc hy
   obtain⟨m,k⟩:=y
   unfold cellsFrom
   split
   ·rename_i hk
    have hk':k=.cell:=by simpa using hk
    rw[ih _ _ fun z=>hy (mem_cons_of_mem _ z),lookup_cons]
    have:(x == m)=false:=by
     cases hb:x == m with
     | false=>rfl
     | true =>
      have e:x=m:=by simpa using hb
      exact absurd (by rw[hk',e];exact mem_cons_self) hy
    rw[this]
   ·exact ih _ _ fun z=>hy (mem_cons_of_mem _ z)
 unfold cellsC at h
 rw[e0 _ _ _ fun hm=>hx (ok.uniq _ hm)] at h
 exact closL_sub scope.names [] (ok.cells I) (fun _ _ z=>by simp at z) x c h
private theorem inv_comp(ok:CompOk X scope M)(hc:X.calm=true)(I:Inv X pins σ H2 s2)(hf:∀ b∈fp,FpOk X pins H2 b/\b<s2.heap.objs.size){C:Addr}(hC:C=s2.heap.objs.size+1){h4:Heap}
  (hh:h4=pushCells ((s2.heap.push { cls:=.type "list",dict:=none,data:=.seq ([]:List Value).toArray }).push { cls:=.type "dict",data:=.dict #[] }) scope.names) :
  Inv (cxComp X scope own M C s2 H2 fp) [] (replicate own.length none++σ) H2 { s2 with heap:=h4 }:=by
 have zC:(s2.heap.push { cls:=.type "list",dict:=none,data:=.seq ([]:List Value).toArray }).objs.size=C:=by rw[Heap.size_push,hC]
 have zC1:((s2.heap.push { cls:=.type "list",dict:=none,data:=.seq ([]:List Value).toArray }).push { cls:=.type "dict",data:=.dict #[] }).objs.size=C+1:=by rw[Heap.size_push,zC]
 have keep:∀ b o,s2.heap.get? b=some o->h4.get? b=some o:=fun b o e=>by
  rw[hh];exact pushCells_keeps _ _ _ _ (Heap.get?_push_of_some _ (Heap.get?_push_of_some _ e))
 have cellOld:∀ x c,X.env.cells.lookup x=some c->c<s2.heap.objs.size:=fun x c e=>by obtain⟨v,q⟩:=I.cell x c e;exact q.lt
 have cellB:∀ x c,(cellsC X scope C).lookup x=some c->(h4.IsCell c none/\C+1<=c/\scope.names.lookup x=some .cell)\/X.env.cells.lookup x=some c:=fun x c e=>by
  by_cases hx:scope.names.lookup x=some .cell
  ·have e' := e
   unfold cellsC at e'
   rw[<- zC1] at e'
   rcases cf_all _ _ _ x c e' with ⟨a,b,d⟩ | q
   ·exact .inl ⟨by rw[hh];exact a,by rw[zC1] at b;exact b,hx⟩
   ·exact .inr (closL_sub scope.names [] (ok.cells I) (fun _ _ z=>by simp at z) x c q)
  ·exact .inr (ok.cellsFrom_old I e hx)
 have hNs:∃ m,h4.Ns C m:=by
  have q:((s2.heap.push { cls:=.type "list",dict:=none,data:=.seq ([]:List Value).toArray }).push { cls:=.type "dict",data:=.dict #[] }).Ns C (fun _=>none):=by
   have:=Heap.Ns.new (s2.heap.push { cls:=.type "list",dict:=none,data:=.seq ([]:List Value).toArray }) (.type "dict")
   rw[zC] at this
   exact this
  exact⟨_,q.keeps fun b o e=>by rw[hh];exact pushCells_keeps _ _ _ _ e⟩
 have nfs:∀ b∈fp,b ∉ frs X.stack:=fun b hb hx=>by
  obtain⟨⟨_,f1,f2,_⟩,_⟩:=hf b hb
  rcases List.mem_cons.mp (I.stkSub b hx) with e | e
  ·exact f1 e
  ·exact f2 e
 obtain⟨mC,hmC⟩:=hNs
 refine⟨⟨I.ok.mod,ok.kind,I.ok.glob,I.ok.blt,?_,?_,?_,?_,I.ok.hd,I.ok.frames,.inl rfl,?_,I.bs,?_,?_,nfs,I.stack,I.stkFree⟩,rfl,I.bare,Un.kept keep,⟨mC,hmC,?_⟩,?_,I.hok.fresh (by show s2.heap.objs.size<=C;rw[hC];exact Nat.le_succ _),?_,fun p hp=>absurd (show p∈([]:List (Addr × Obj)) from hp) (by simp),I.hok.kept keep,?_⟩
 ·show s2.heap.objs.size<=C;rw[hC];exact Nat.le_succ _
 ·intro x y c h1 h2
  refine cf_inj scope.names (C+1) (closL X.env scope.names []) (fun a b d p q=>?_) (fun a d p=>?_) x y c h1 h2
  ·exact I.ok.inj a b d (closL_sub scope.names [] (ok.cells I) (fun _ _ z=>by simp at z) a d p) (closL_sub scope.names [] (ok.cells I) (fun _ _ z=>by simp at z) b d q)
  ·have := cellOld a d (closL_sub scope.names [] (ok.cells I) (fun _ _ z => by simp at z) a d p)
   rw[hC];exact Nat.lt_succ_of_lt (Nat.lt_succ_of_lt this)
 ·intro x hx
  have go:∀ k,(k=NameKind.cell\/k=NameKind.free)->(compEnvC scope (cellsC X scope C) C X.env).kindOf x=some k->∃ c,(cellsC X scope C).lookup x=some c:=fun k hk e=>by
   rcases ok.kindIn e with e | ⟨_,e⟩
   ·rcases hk with rfl | rfl
    ·exact cf_has _ _ _ (PySem.mem_of_lookup e)
    ·exact cf_keep _ _ _ (closL_has (y:=(x,.free)) rfl _ _ (PySem.mem_of_lookup e))
   ·exact cf_keep _ _ _ (closL_has (y:=(x,.free)) rfl _ _ (PySem.mem_of_lookup e))
  rcases hx with e | e
  ·exact go _ (.inl rfl) e
  ·exact go _ (.inr rfl) e
 ·intro x c hx h
  have hx':scope.names.lookup x=some .cell:=by simpa [cxComp] using hx
  have:=cf_ge (x:=x) scope.names (C+1) (closL X.env scope.names []) (C+1) (Nat.le_refl _) (.inl (PySem.mem_of_lookup hx')) c h
  show s2.heap.objs.size<=c
  exact Nat.le_trans (by rw[hC];exact Nat.le_trans (Nat.le_succ _) (Nat.le_succ _)) this
 ·intro b hb
  obtain⟨⟨_,_,_,_,f4,_⟩,f6⟩:=hf b hb
  refine⟨?_,fun x c h=>?_⟩
  ·show b ≠ C
   rw[hC];exact Nat.ne_of_lt (Nat.lt_succ_of_lt f6)
  ·rcases cellB x c h with ⟨_, q, _⟩ | q
   ·rw [hC] at q
    exact Nat.ne_of_gt (Nat.lt_of_lt_of_le f6 (Nat.le_trans (Nat.le_trans (Nat.le_succ _) (Nat.le_succ _)) q))
   ·exact f4 x c q
 ·exact Nat.le_trans I.ok.bsz I.sz
 ·intro b o e hb
  obtain⟨⟨_,_,_,f3,_⟩,_⟩:=hf b hb
  rcases f3 with z | z
  ·exact I.ok.noex b o e z
  ·exact absurd (Nat.lt_of_lt_of_le (Heap.lt_size (I.ok.bs b o e).1) z) (Nat.lt_irrefl _)
 ·intro i x v h1 h2 h3
  have h2':(replicate own.length (none:Option V)++σ)[i]?=some (some v):=h2
  have hi:own.length<=i:=by
   apply Nat.le_of_not_lt
   intro hlt
   rw[getElem?_append_left (by simpa using hlt),getElem?_replicate] at h2'
   rw[if_pos hlt] at h2'
   cases h2'
  rw[getElem?_append_right (by simpa using hi),length_replicate] at h2'
  have h1':(own++M)[i]?=some x:=h1
  rw[getElem?_append_right hi] at h1'
  obtain⟨n1,n2⟩:=ok.shadow x (mem_of_getElem? h1')
  have hfree:scope.names.lookup x=some .free/\((compEnvC scope (cellsC X scope C) C X.env).kindOf x=some .cell\/(compEnvC scope (cellsC X scope C) C X.env).kindOf x=some .free):=by
   rcases h3 with e | e | e
   ·rcases ok.kindIn (x := x) (C := C) e with q | ⟨q, _⟩
    ·exact absurd q n1
    ·cases q
   ·rcases ok.kindIn (x := x) (C := C) e with q | ⟨_, q⟩
    ·exact absurd q n2
    ·exact⟨q,.inl e⟩
   ·rcases ok.kindIn (x := x) (C := C) e with q | ⟨q, _⟩
    ·exact⟨q,.inr e⟩
    ·cases q
  obtain⟨hfr,hk⟩:=hfree
  obtain⟨m,hn,hl⟩:=I.loc
  have hkX:=ok.frees (x,.free) (PySem.mem_of_lookup hfr) rfl
  have h1':=ok.same _ _ h1' hfr
  obtain⟨u,ru,lk⟩:=hl (i-own.length) x v h1' h2' (hkX.elim (fun z=>.inr (.inl z)) fun z=>.inr (.inr z))
  refine⟨u,ru,.inr ⟨hk,?_⟩⟩
  rcases lk with ⟨k,_⟩ | ⟨_,c,ec,ic⟩
  ·rcases hkX with z | z<;>(rw[k] at z;cases z)
  ·obtain ⟨c', e'⟩ : ∃ c', (cellsC X scope C).lookup x = some c' := cf_keep _ _ _ (closL_has (y := (x, .free)) rfl _ _ (PySem.mem_of_lookup hfr))
   refine⟨c',e',?_⟩
   have:=ok.cellsFrom_old I e' (by rw[hfr];simp)
   have e2:some c=some c':=ec.symm.trans this
   cases e2
   exact ic.keeps keep
 ·intro x c h
  rcases cellB x c h with ⟨q,_⟩ | q
  ·exact⟨_,q⟩
  ·obtain ⟨v, z⟩ := I.cell x c q
   exact⟨v,z.keeps keep⟩
 ·intro x c h
  rcases cellB x c h with ⟨q,q2,_⟩ | q
  ·exact I.hok.fresh (by rw[hC] at q2;exact Nat.le_trans (Nat.le_trans (Nat.le_succ _) (Nat.le_succ _)) q2)
  ·exact I.freeC x c q
 ·show (List.replicate own.length (none : Option V) ++ σ).length = (own ++ M).length
  rw[length_append,length_append,length_replicate,I.len,ok.mlen]
end
end L2
namespace L2
section
variable {X:Cx} {scope:Scope} {own M:List Str} {pins:List (Addr × Obj)} {σ:St} {H2:Hp} {s2:Shared} {tg iter elt:Expr} {ifs:List Expr} {pos:Pos} {g:TG} {tt:TT} {te:TE}
private theorem comp_core(ok:CompOk X scope M)(hc:X.calm=true)(hg:∀ C s2 H2 fp,PG (cxComp X scope own M C s2 H2 fp) tg g)(ht:∀ C s2 H2 fp,PTs (cxComp X scope own M C s2 H2 fp) ifs tt)(he:∀ C s2 H2 fp,PE (cxComp X scope own M C s2 H2 fp) elt te)
  (I2:Inv X pins σ H2 s2) {it:Addr} {fp:List Addr} {tn:Nat->Heap->Prop} {J:It} (T:Turn X.prog X.w X.K tg J fp it tn) (st2:tn 0 s2.heap) (f2:∀ b∈fp,FpOk X pins H2 b)
  {W:Nat->Nat->List V->Hp->Prop} (w0:∃ m,W 0 m [] H2) {Qf:V->Hp->Prop}
  (turn : ∀ i m acc H, W i m acc H -> (J.stop i H /\ acc.length <= sizeLine /\ ∀ D, H D = none -> Qf (.ref D) (upd H D (.lst acc))) \/
   (J.go i H /\ acc.length < sizeLine /\ ∀ x H', J.yld i H x H' -> g x (List.replicate own.length none ++ σ) H' fun σ2 H2 => σ2.drop own.length = σ /\ tt σ2 H2 fun c H3 =>
    if c=true then te σ2 H3 fun v H4=>∃ m',m'<m/\W (i+1) m' (acc++[v]) H4 else ∃ m',m'<m/\W (i+1) m' acc H3))
  {RR:Value->Addr->Result->Shared->Prop} {E:Value->Shared->Prop}
  (fin:∀ D C H' s' m,Inv X pins σ H' s'->Qf (.ref D) H'->s'.heap.Ns C m->H' C=none->C≠X.env.locals->X.s₀.heap.objs.size<=C->(∀ x c,X.env.cells.lookup x=some c->c≠C)->(∀ p∈X.pn++pins,p.1≠C)->RR (.ref D) C (.ok .next) s') :
  wpAny (model X.prog X.w) X.A (newList []) (fun acc s3=>wpAny (model X.prog X.w) X.A (newFunctionEnv scope X.env.globals (closL X.env scope.names []) [] X.env.qual none .none (some X.env)) (fun cenv s4 =>
   codeAny (model X.prog X.w) X.A (.compStart (.ListComp elt [⟨tg,iter,ifs,0⟩] scope pos) 0 (.ref it) acc { cenv with scope:=relabel scope X.env }) (RR acc cenv.locals) s4) E s3) E s2:=by
 refine wpAny_newObj_type (newEnv_comp ?_)
 have zC:(s2.heap.push { cls:=.type "list",dict:=none,data:=.seq ([]:List Value).toArray }).objs.size=s2.heap.objs.size+1:=Heap.size_push ..
 dsimp only
 rw[zC]
 generalize hC:s2.heap.objs.size+1=C
 generalize hh:pushCells ((s2.heap.push { cls:=.type "list",dict:=none,data:=.seq ([]:List Value).toArray }).push { cls:=.type "dict",data:=.dict #[] }) scope.names=h4
 have fpl:∀ b∈fp,FpOk X pins H2 b/\b<s2.heap.objs.size:=fun b hb=>by
  obtain⟨o,e,_⟩:=T.obj 0 _ st2 b hb
  exact⟨f2 b hb,Heap.lt_size e⟩
 have I4:Inv (cxComp X scope own M C s2 H2 fp) [] (replicate own.length none++σ) H2 { s2 with heap:=h4 }:=inv_comp ok hc I2 fpl hC.symm hh.symm
 generalize hX:cxComp X scope own M C s2 H2 fp=X' at I4
 have keep4:∀ b o,s2.heap.get? b=some o->h4.get? b=some o:=fun b o e=>by
  rw[<- hh];exact pushCells_keeps _ _ _ _ (Heap.get?_push_of_some _ (Heap.get?_push_of_some _ e))
 have hD4:h4.get? s2.heap.objs.size=some { cls:=.type "list",dict:=none,data:=.seq ([]:List Value).toArray }:=by
  rw[<- hh];exact pushCells_keeps _ _ _ _ (Heap.get?_push_of_some _ (Heap.get?_push_size _ rfl))
 have st4:tn 0 h4:=T.keep _ _ _ st2 fun b hb o e=>keep4 b o e
 have gg:PG X' tg g:=by rw[<- hX];exact hg C s2 H2 fp
 have gt:PTs X' ifs tt:=by rw[<- hX];exact ht C s2 H2 fp
 have ge:PE X' elt te:=by rw[<- hX];exact he C s2 H2 fp
 have xP:X'.prog=X.prog:=by rw[<- hX];rfl
 have xw:X'.w=X.w:=by rw[<- hX];rfl
 have xK:X'.K=X.K:=by rw[<- hX];rfl
 have xA:X'.A=X.A:=by rw[<- hX];rfl
 have xc:X'.calm=true:=by rw[<- hX];exact hc
 have xpn:X'.pn=[]:=by rw[<- hX];rfl
 have xs:X'.s₀=s2:=by rw[<- hX];rfl
 have xH:X'.H₀=H2:=by rw[<- hX];rfl
 have xL:X'.env.locals=C:=by rw[<- hX];rfl
 have xfs:X'.fs=frs X.stack:=by rw[<- hX];rfl
 have xex:X'.ex=fp:=by rw[<- hX];rfl
 have xe:X'.xe=fun _ _=>False:=by rw[<- hX];rfl
 have xenv:({ newEnv scope C X.env.globals (cellsFrom (C+1) scope.names (closL X.env scope.names [])) X.env.qual none .none (some X.env) builtinsNs with scope:=relabel scope X.env }:Env)=X'.env:=by rw[<- hX];rfl
 have Dlt:s2.heap.objs.size<C:=by rw[<- hC];exact Nat.lt_succ_self _
 have fpb:∀ {pl:List (Addr × Obj)} {H:Hp},(∀ b∈fp,H b=none)->(∀ p∈pl,p.1 ∉ fp)->∀ b∈fp,FpOk X' pl H b:=fun {pl H} hn hpl b hb=>by
  refine⟨hn b hb,?_,?_,.inl (by rw[xex];exact hb),fun x c e=>(I4.ok.exf b (by rw[xex];exact hb)).2 x c e,fun p hp z=>?_⟩
  ·exact(I4.ok.exf b (by rw[xex];exact hb)).1
  ·exact I4.ok.exfs b (by rw[xex];exact hb)
  ·rw [xpn, List.nil_append] at hp
   exact hpl p hp (by rw[z];exact hb)
 have Dfp:s2.heap.objs.size ∉ fp:=fun z=>Nat.lt_irrefl _ (fpl _ z).2
 have DC:s2.heap.objs.size≠C:=Nat.ne_of_lt Dlt
 have Dcell:∀ x c,X'.env.cells.lookup x=some c->c≠s2.heap.objs.size:=fun x c e z=>by
  obtain⟨v,o,q,hd⟩:=I4.cell x c e
  rw[z] at q
  have q':h4.get? s2.heap.objs.size=some o:=q
  rw[hD4] at q'
  cases q'
  cases hd
 have Dfs:s2.heap.objs.size ∉ X'.fs:=fun z=>by
  obtain⟨_,o,ho,_⟩:=I4.ok.funs.mem (by exact z)
  rw[xs] at ho
  exact Nat.lt_irrefl _ (Heap.lt_size ho)
 rw[xenv]
 have goal:∀ s5:Shared,s5={ s2 with heap:=h4 }->codeAny (model X.prog X.w) X.A (.compLoop (.ListComp elt [⟨tg,iter,ifs,0⟩] scope pos) 0 (.ref it) (.ref s2.heap.objs.size) X'.env) (RR (.ref s2.heap.objs.size) C) s5:=by
  rintro s5 rfl
  obtain⟨m0,w0⟩:=w0
  refine comp_loop (fun n s'=>∃ i acc σ' H' its k,Inv X' [] σ' H' s'/\σ'.drop own.length=σ/\tn i s'.heap/\(∀ b∈fp,H' b=none)/\H' s2.heap.objs.size=none /\
   s'.heap.get? s2.heap.objs.size=some { cls:=.type "list",data:=.seq (List.toArray its) k }/\Vals acc its/\W i n acc H') ?_ m0
   ⟨0,[],_,H2,[],0,I4,by simp,st4,fun b hb=>(f2 b hb).1,I2.hok.fresh (Nat.le_refl _),hD4,.nil,w0⟩
  rintro n s3 ⟨i,acc,σ3,H3,its,k,I3,hσ,st3,fr3,hD,hDo,rv,w3⟩
  have pinD:∀ {H:Hp} {s:Shared} {σ:St},Inv X' [] σ H s->H s2.heap.objs.size=none->s.heap.get? s2.heap.objs.size=some { cls:=.type "list",data:=.seq (List.toArray its) k } ->
    Inv X' [(s2.heap.objs.size,{ cls:=.type "list",data:=.seq (List.toArray its) k })] σ H s:=fun {H s σ} I hn ho=>I.pins_of fun p hp=>by
   have e:p=(s2.heap.objs.size,{ cls:=.type "list",data:=.seq (List.toArray its) k }):=by simpa using hp
   subst e
   exact⟨ho,hn,by rw[xL];exact DC,Dfs,fun v z=>by cases z⟩
  have plD:∀ p∈[((s2.heap.objs.size,{ cls:=.type "list",data:=.seq (List.toArray its) k }):Addr × Obj)],p.1 ∉ fp:=fun p hp=>by
   have e:p=(s2.heap.objs.size,{ cls:=.type "list",data:=.seq (List.toArray its) k }):=by simpa using hp
   subst e
   exact Dfp
  have I3':=pinD I3 hD hDo
  rcases turn i n acc H3 w3 with ⟨stop,hsz,q⟩ | ⟨go,hsz,step⟩
  ·have := T.done X' xP xw xK xc i _ s3 σ3 H3 (fun _ _ => False) I3' (fpb fr3 plD) st3 stop
   rw[xA] at this
   refine thn this fun r s4 ⟨hr,I5⟩=>?_
   subst hr
   have hDo5:=(I5.pin (s2.heap.objs.size,{ cls:=.type "list",data:=.seq (List.toArray its) k }) (by rw[xpn];simp)).1
   have un:Un (frs X.stack) fp H2 H3 s2.heap s4.heap:=by
    have:=I5.base
    rw[xfs,xex,xH,xs] at this
    exact this
   have os:s4.os=s2.os:=by rw[I5.os,xs]
   have hok:HOk X.prog X.w H3 s4.heap:=by have:=I5.hok;rw[xP,xw] at this;exact this
   have IX:Inv X pins σ H3 s4:=I2.call' os un hok I5.bare fun b hb=>by
    obtain⟨_,f1,_,f3,f4,f5⟩:=f2 b hb
    exact⟨f3,f1,f4,f5⟩
   have old:∀ {b:Addr},s2.heap.objs.size<=b->(X.s₀.heap.objs.size<=b/\b≠X.env.locals/\(∀ x c,X.env.cells.lookup x=some c->c≠b)/\∀ p∈X.pn++pins,p.1≠b):=fun {b} hb=>by
    obtain⟨_,f1,_,f3,f4,f5⟩:=I2.fpOk (H':=fun _=>none) hb rfl
    exact⟨Nat.le_trans I2.sz hb,f1,f4,f5⟩
   obtain⟨d1,d2,d3,d4⟩:=old (Nat.le_refl s2.heap.objs.size)
   obtain⟨c1,c2,c3,c4⟩:=old (b:=C) (Nat.le_of_lt Dlt)
   have IY:Inv X pins σ (upd H3 s2.heap.objs.size (.lst acc)) s4:=IX.track hD d1 d2 d3 d4 ⟨hsz,its,k,rv,hDo5⟩
   obtain⟨m,hm,_⟩:=I5.loc
   rw[xL] at hm
   have hCn:H3 C=none:=by have:=I5.free;rw[xL] at this;exact this
   exact fin _ C _ s4 m IY (q _ hD) hm (by rw[upd_ne (Ne.symm DC)];exact hCn) c2 c1 c3 c4
  ·have := T.item X' xP xw xK xc i _ s3 σ3 H3 (fun _ _ => False) I3' (fpb fr3 plD) st3 go
   rw[xA] at this
   refine thn this fun r s4 ⟨u,hr,h4⟩=>?_
   subst hr
   refine thn h4 fun _ s5 ⟨x,H5,I5,r5,y5,st5,fr5⟩=>?_
   have hσn:∀ (j:Nat) v,(replicate own.length none++σ)[j]?=some (some v)->σ3[j]?=some (some v):=fun j v e=>by
    by_cases hlt:j<own.length
    ·rw [List.getElem?_append_left (by simpa using hlt), List.getElem?_replicate, if_pos hlt] at e
     cases e
    ·have hle := Nat.le_of_not_lt hlt
     rw[getElem?_append_right (by simpa using hle),length_replicate,<- hσ,getElem?_drop] at e
     rw[show own.length+(j-own.length)=j by lia] at e
     exact e
   have hlen:(replicate own.length none++σ).length=σ3.length:=by
    have e1:σ3.length=X'.N.length:=I5.len
    have e2:=I4.len
    exact e2.trans e1.symm
   have I5w:Inv X' _ (replicate own.length none++σ) H5 s5:=I5.weak hlen hσn
   have I5p:=I5w.pinned (fpb fr5 plD) (T.obj _ _ st5)
   have a1:=gg _ s5 _ H5 x u _ I5p r5 (step x H5 y5)
   rw[xP,xw,xA,xe] at a1
   refine thn a1 fun _ s6 ⟨σ6,H6,I6,d6,q6⟩=>?_
   have a2:=gt _ s6 σ6 H6 _ I6 q6
   rw[xP,xw,xA,xe] at a2
   refine thn a2 fun b s7 ⟨H7,I7,q7⟩=>?_
   have pin7:∀ {H:Hp} {s:Shared},Inv X' ([((s2.heap.objs.size,{ cls:=.type "list",data:=.seq (List.toArray its) k }):Addr × Obj)]++pinsAt fp s5.heap) σ6 H s ->
     (tn (i+1) s.heap/\(∀ b∈fp,H b=none)/\H s2.heap.objs.size=none/\s.heap.get? s2.heap.objs.size=some { cls:=.type "list",data:=.seq (List.toArray its) k }/\Inv X' [] σ6 H s):=fun {H s} I=>by
    refine⟨T.keep _ _ _ st5 fun b hb o e=>(I.pin (b,o) (mem_append_right _ (mem_append_right _ (mem_pinsAt hb e)))).1,fun b hb=>?_,?_,?_,I.pins_of fun p hp=>by simp at hp⟩
    ·obtain ⟨o, e, d⟩ := T.obj _ _ st5 b hb
     exact(I.pin (b,o) (mem_append_right _ (mem_append_right _ (mem_pinsAt hb e)))).2.1
    ·exact(I.pin (s2.heap.objs.size,{ cls:=.type "list",data:=.seq (List.toArray its) k }) (by rw[xpn];simp)).2.1
    ·exact(I.pin (s2.heap.objs.size,{ cls:=.type "list",data:=.seq (List.toArray its) k }) (by rw[xpn];simp)).1
   cases b with
   | false =>
    obtain⟨p1,p2,p3,p4,p5⟩:=pin7 I7
    obtain⟨m',hm,w7⟩:=q7
    exact⟨m',hm,i+1,acc,σ6,H7,its,k,p5,d6,p1,p2,p3,p4,rv,w7⟩
   | true =>
    rw[if_pos rfl] at q7 ⊢
    have a3:=ge _ s7 σ6 H7 _ I7 q7
    rw[xP,xw,xA,xe] at a3
    refine thn a3 fun y s8 ⟨v,H8,I8,r8,q8⟩=>?_
    obtain⟨p1,p2,p3,p4,p5⟩:=pin7 I8
    obtain⟨m',hm,w8⟩:=q8
    have hl:=rv.length
    refine wpAny_list_append_plain (items:=List.toArray its) ⟨k,p4⟩ (fun h' hpl hs=>?_) (by simp;lia)
    obtain⟨k',hpl⟩:=hpl
    have I9:Inv X' [] σ6 H8 { s8 with heap:=h' }:=p5.turned (t':=s8.toks) (fun b o hb e=>hs.extBut b o hb e) p3 (by rw[xL];exact DC) (.inr (by rw[xs];exact Nat.le_refl _)) Dcell (fun p hp=>by rw[xpn] at hp;simp at hp)
    refine⟨m',hm,i+1,acc++[v],σ6,H8,its++[y],k',I9,d6,T.keep _ _ _ p1 fun b hb o e=>hs.extBut b o (fun z=>Dfp (by rw[<- z];exact hb)) e,p2,p3,?_,rv.append (.cons r8 .nil),w8⟩
    rw[hpl];simp
 exact codeAny_compStart_list (goal _ rfl) (T.self _ 0 _ _ _ st4 (goal _ rfl))
private theorem pe_comp{wi:TI}(ok:CompOk X scope M)(hc:X.calm=true)(hi:PI X tg iter wi)(hg:∀ C s2 H2 fp,PG (cxComp X scope own M C s2 H2 fp) tg g)(ht:∀ C s2 H2 fp,PTs (cxComp X scope own M C s2 H2 fp) ifs tt)
  (he:∀ C s2 H2 fp,PE (cxComp X scope own M C s2 H2 fp) elt te) (hs:∀ x,foldedSetIterable iter X.env x=pure x:=by intro _;rfl) :
  PE X (.ListComp elt [⟨tg,iter,ifs,0⟩] scope pos) (tComp wi own.length g tt te):=by
 intro pins s σ H Q I h
 rw[eval_ListComp]
 refine wpAny_comprehension_free (use:=none) rfl hs (clos_for (ok.cells I)) ok.kind (fun x hx hl=>by rw[ok.uniq x hx,hl]) ?_
 refine thn (hi pins s σ H _ I h) fun v s1 h1=>thn h1 fun itv s2 h2=>?_
 obtain⟨it,fp,tn,J,H2,e,I2,T,st2,f2,W,w0,turn⟩:=h2
 subst e
 refine comp_core (Qf:=Q) ok hc hg ht he I2 T st2 f2 w0 turn fun D C H' s' m IY q hm hCn c2 c1 c3 c4=>⟨m,hm,fun h' hs'=>?_⟩
 exact⟨.ref D,H',IY.turned (t':=s'.toks) (fun b o hb e=>hs'.extBut b o hb e) hCn c2 (.inr c1) c3 c4,rfl,q⟩
end
end L2
namespace L2
section
variable {X:Cx} {pins:List (Addr × Obj)} {σ:St} {H:Hp} {s:Shared}
private theorem Inv.turnedL{t':Nat}{h':Heap}{ch:List Addr}(I:Inv X pins σ H s)(k:∀ b o,b ∉ ch->s.heap.get? b=some o->h'.get? b=some o)(hf:∀ b∈ch,FpOk X pins H b):Inv X pins σ H { s with heap:=h',toks:=t' }:=by
 have nit:∀ b u,H b=some u->b ∉ ch:=fun b u e z=>by rw[(hf b z).1] at e;cases e
 refine I.step (g':=s.gens) (d':=s.drawn) (ch:=ch) (fun b hb=>?_) (fun b o _ _ hc e _=>k b o hc e) (fun b o _ _ hc e _=>⟨o.slots,k b o hc e⟩) (fun _ _ _ _ n=>n)
  (fun b o hc e=>⟨o,k b o hc e⟩) (fun _ _ e=>e) (fun _ _ _ e=>e) (fun b ps e=>⟨#[],by rw[e];simp⟩) (fun m hm=>?_) (fun b u e=>?_) I.bare
 ·obtain ⟨_, f1, _, f3, f4, f5⟩ := hf b hb
  exact⟨f3,f1,f4,f5⟩
 ·obtain ⟨o, es, ep, ho, r⟩ := hm
  exact⟨o,es,ep,k _ o (fun z=>(hf _ z).2.1 rfl) ho,r⟩
 ·refine (I.hok b u e).stay (fun c v hc q => k c v ?_ q) (fun _ q => q) fun _ _ q => q
  rcases hc with z | z
  ·rw[z];exact nit b u e
  ·exact nit c _ z
def SqB(K:W.Frag)(b:Bool)(H:Hp)(a:Addr)(xs:List V):Prop:=match b with | true=>SqL K H a xs | false=>SqT K H a xs
private theorem Inv.seqB{b:Bool}{a:Addr}{xs:List V}(I:Inv X pins σ H s)(h:SqB X.K b H a xs):∃ its:List Value,Vals xs its/\SeqIs b s.heap a its.toArray:=by
 cases b with
 | true=>obtain⟨its,r,p,_⟩:=I.list h;exact⟨its,r,p.isList⟩
 | false=>obtain⟨its,r,p,_⟩:=I.tuple h;exact⟨its,r,p⟩
private theorem Inv.seqB_inj{b:Bool}{a:Addr}{xs ys:List V}(I:Inv X pins σ H s)(h:SqB X.K b H a xs)(h':SqB X.K b H a ys):xs=ys:=by
 cases b with
 | true=>exact I.list_inj h h'
 | false=>exact I.tuple_inj h h'
private theorem Inv.ne_fp{b:Bool}{a c:Addr}{xs:List V}(I:Inv X pins σ H s)(h:SqB X.K b H a xs)(hf:FpOk X pins H c):a≠c:=by
 have old:∀ o,X.K.lookup a=some o->a≠c:=fun o e z=>by
  have eb:=I.ok.mod.kin a o e
  rw[z] at eb
  obtain⟨_,_,_,f3,_⟩:=hf
  rcases f3 with q | q
  ·exact I.ok.noex c o eb q
  ·exact absurd (Nat.lt_of_lt_of_le (Heap.lt_size (I.ok.bs c o eb).1) q) (Nat.lt_irrefl _)
 have trk:∀ u,H a=some u->a≠c:=fun u e=>ne_of_none e hf.1
 cases b with
 | true =>
  rcases h with (h | ⟨o,h⟩) | ⟨o,_,_,hk,_⟩
  ·exact trk _ h
  ·exact trk _ h
  ·exact old o hk
 | false =>
  rcases h with (h | ⟨o,h⟩) | ⟨o,_,_,hk,_⟩
  ·exact trk _ h
  ·exact trk _ h
  ·exact old o hk
def Itz(K:W.Frag)(b c:Bool)(l1 l2:Addr):It :=
  ⟨fun i H => ∃ xs ys x y, SqB K b H l1 xs /\ SqB K c H l2 ys /\ xs[i]? = some x /\ ys[i]? = some y,
   fun i H v H'=>∃ T,H T=none/\v=.ref T/\∀ xs ys,SqB K b H l1 xs->SqB K c H l2 ys->∃ x y,xs[i]?=some x/\ys[i]?=some y/\H'=upd H T (.tup [x,y]),
   fun i H=>∃ xs ys,SqB K b H l1 xs/\SqB K c H l2 ys/\(xs.length<=i\/ys.length<=i)⟩
private theorem newTup{T:Addr}{x y:V}{u v:Value}{s1:Shared}(I:Inv X pins σ H s)(I1:Inv X pins σ H s1)(hT:s.heap.objs.size<=T)(hn:H T=none)(ho:s1.heap.get? T=some { cls:=.type "tuple",data:=.seq #[u,v] })(rx:RelV x u)(ry:RelV y v) :
  Inv X pins σ (upd H T (.tup [x,y])) s1:=by
 obtain⟨_,f1,_,f3,f4,f5⟩:=I.fpOk (H':=H) hT hn
 exact I1.track hn (Nat.le_trans I.sz hT) f1 f4 f5 ⟨(by show 2<=sizeLine;decide),[u,v],.cons rx (.cons ry .nil),⟨_,ho,rfl,_,rfl⟩⟩
private theorem turn_zip{P:Program}{w:World}{K:W.Frag}{es:List Expr}{kk:Nat}{ps:Pos}{b c:Bool}{z ti to i1 i2 l1 l2:Addr}(D:ZApart z ti to i1 i2) :
  Turn P w K (.Tuple es kk ps) (Itz K b c l1 l2) [z,ti,to,i1,i2] z (fun i h=>ZSt b c z ti to i1 i2 l1 l2 i h) where
 mem:=by simp
 obj:=fun i h st d hd=>by
  have nc:∀ {o:Obj} {vs:Array Value},o.data=.fields vs->∀ v,o.data≠.cell v:=fun e v q=>by rw[e] at q;cases q
  simp only[mem_cons,not_mem_nil,or_false] at hd
  rcases hd with rfl | rfl | rfl | rfl | rfl
  ·exact⟨_,st.z,fun v q=>by cases q⟩
  ·exact⟨_,st.ti,fun v q=>by cases q⟩
  ·obtain ⟨u, v, e⟩ := st.to
   exact⟨_,e,fun v q=>by cases q⟩
  ·obtain ⟨o, e, _, hd⟩ := st.i1.obj
   exact⟨o,e,nc hd⟩
  ·obtain ⟨o, e, _, hd⟩ := st.i2.obj
   exact⟨o,e,nc hd⟩
 keep:=fun i h h' st k=>by
  obtain⟨u,v,e⟩:=st.to
  exact⟨k z (by simp) _ st.z,k ti (by simp) _ st.ti,⟨u,v,k to (by simp) _ e⟩,st.i1.at fun o q=>k i1 (by simp) o q,st.i2.at fun o q=>k i2 (by simp) o q⟩
 item:=by
  intro X hP hw hK hc i pins s σ H E I hf st hg
  subst hP hw hK
  obtain⟨xs,ys,x,y,q1,q2,hx,hy⟩:=hg
  obtain⟨is1,r1,p1⟩:=I.seqB q1
  obtain⟨is2,r2,p2⟩:=I.seqB q2
  obtain⟨u,hu,ru⟩:=r1.get hx
  obtain⟨v,hv,rv⟩:=r2.get hy
  have hfto:=hf to (by simp)
  refine next_zip D st p1 p2 (I.ne_fp q1 hfto) (I.ne_fp q2 hfto) (x:=u) (y:=v) (by simpa using hu) (by simpa using hv) fun h' M hT kp=>?_
  have lt:∀ {d:Addr},d∈[z,ti,to,i1,i2]->s.heap.objs.size≠d:=fun {d} hd e=>by
   obtain⟨o,q⟩:∃ o,s.heap.get? d=some o:=by
    simp only[mem_cons,not_mem_nil,or_false] at hd
    rcases hd with rfl | rfl | rfl | rfl | rfl
    ·exact⟨_,st.z⟩
    ·exact⟨_,st.ti⟩
    ·obtain⟨u,v,e⟩:=st.to;exact⟨_,e⟩
    ·obtain⟨o,e,_⟩:=st.i1.obj;exact⟨o,e⟩
    ·obtain⟨o,e,_⟩:=st.i2.obj;exact⟨o,e⟩
   have:=Heap.lt_size q
   rw[<- e] at this
   exact Nat.lt_irrefl _ this
  refine⟨_,rfl,wpAny_letOwnedTupleGo_zip (s:={ s with heap:=h' }) M.z fun h'' z' sb=>?_⟩
  have kp2:∀ d o,d ∉ [z,ti,to,i1,i2]->s.heap.get? d=some o->h''.get? d=some o:=fun d o hd e=>by
   simp only[mem_cons,not_mem_nil,or_false,not_or] at hd
   exact sb.extBut _ _ hd.1 (kp d o hd.1 hd.2.2.1 hd.2.2.2.1 hd.2.2.2.2 e)
  have I1:Inv X pins σ H { s with heap:=h'' }:=I.turnedL (t':=s.toks) kp2 hf
  have hn:H s.heap.objs.size=none:=I.hok.fresh (Nat.le_refl _)
  have I2:Inv X pins σ (upd H s.heap.objs.size (.tup [x,y])) { s with heap:=h'' }:=newTup I I1 (Nat.le_refl _) hn (sb.extBut _ _ (lt (by simp)) hT) ru rv
  obtain⟨u',v',eto⟩:=M.to
  refine⟨.ref s.heap.objs.size,_,I2,rfl,⟨_,hn,rfl,fun xs' ys' e1 e2=>⟨x,y,by rw[I.seqB_inj e1 q1];exact hx,by rw[I.seqB_inj e2 q2];exact hy,rfl⟩⟩,?_,fun d hd=>?_⟩
  ·exact⟨z',sb.extBut _ _ D.a1 M.ti,⟨u',v',sb.extBut _ _ D.a2 eto⟩,M.i1.at fun o e=>sb.extBut _ _ D.a3 e,M.i2.at fun o e=>sb.extBut _ _ D.a4 e⟩
  ·rw[upd_ne (Ne.symm (lt hd))];exact(hf d hd).1
 done:=by
  intro X hP hw hK hc i pins s σ H E I hf st hg
  subst hP hw hK
  obtain⟨xs,ys,q1,q2,hx⟩:=hg
  obtain⟨is1,r1,p1⟩:=I.seqB q1
  obtain⟨is2,r2,p2⟩:=I.seqB q2
  have hfto:=hf to (by simp)
  have e1:=r1.length
  have e2:=r2.length
  refine next_zip_end (I.ok.hd hc) D st p1 p2 (I.ne_fp q1 hfto) (I.ne_fp q2 hfto) (hx.imp (fun z=>by simp;lia) fun z=>by simp;lia) fun h' kp=>⟨rfl,I.turnedL (t':=s.toks) (fun d o hd e=>?_) hf⟩
  simp only[mem_cons,not_mem_nil,or_false,not_or] at hd
  exact kp d o hd.1 hd.2.2.1 hd.2.2.2.1 hd.2.2.2.2 e
 self:=fun _ _ _ _ _ st h=>wpAny_pyIter_zip st.z h
def iZip(K:W.Frag)(ta:TA):TI:=fun σ H R=>ta σ H fun vs H1=>∃ b c l1 l2 xs ys,vs=[.ref l1,.ref l2]/\SqB K b H1 l1 xs/\SqB K c H1 l2 ys/\R (Itz K b c l1 l2) H1
private theorem pi_zip{es:List Expr}{kk:Nat}{ps:Pos}{a b:Expr}{ta:TA}{p pos:Pos}(hg:Gl X "zip")(hm:X.mg "zip" = none)(ha:PA X [a,b] ta)(hs:starEach [a,b] X.env=[(false,eval a X.env),(false,eval b X.env)]:=by rfl)(hs2:starEach [b] X.env=[(false,eval b X.env)]:=by rfl) :
  PI X (.Tuple es kk ps) (.Call (.Name "zip" p) [a,b] [] pos) (iZip X.K ta):=by
 intro pins s σ H R I h
 refine Call_ (ld_blt I hg hm boot_zip (PyProof.Rows.callWith_type1 (thn (ha pos pins s σ H _ I h) fun us s1 ⟨vs,H1,I1,r1,q1⟩=>?_) (by rw[hs,hs2]) (by rw[hs2];rfl)))
 obtain⟨bb,cc,l1,l2,xs,ys,e,q1,q2,q⟩:=q1
 subst e
 cases r1 with
 | cons r rr =>
  cases rr with
  | cons r' rr =>
   cases rr
   cases r
   cases r'
   obtain⟨is1,r1,p1⟩:=I1.seqB q1
   obtain⟨is2,r2,p2⟩:=I1.seqB q2
   refine call_zip p1 p2 fun h' z ti to i1 i2 D S new kp=>wpAny_pyIter_zip S.z ?_
   exact⟨z,[z,ti,to,i1,i2],_,_,H1,rfl,I1.kept (t':=s1.toks) kp,turn_zip D,S,fun d hd=>I1.fpOk (new d hd) (I1.hok.fresh (new d hd)),q⟩
end
end L2
namespace L2
section
variable {X:Cx} {pins:List (Addr × Obj)} {σ:St} {H:Hp} {s:Shared}
private theorem Vals.bools{us:List Value}:∀ {bs:List Bool},Vals (bs.map V.bl) us->us=bs.map Value.bool:=by
 induction us with
 | nil=>intro bs h;cases bs with | nil=>rfl | cons=>cases h
 | cons u us ih =>
  intro bs h
  cases bs with
  | nil=>cases h
  | cons b bs =>
   cases h with
   | cons r t =>
    have e:u=Value.bool b:=r
    rw[e,ih t];rfl
private theorem rng_all(bs:List Bool):((List.range bs.length).all fun i=>(bs[i]?).getD true)=bs.all id:=by
 rw[Bool.eq_iff_iff,all_eq_true,all_eq_true]
 constructor
 ·intro h b hb
  obtain⟨i,hi,e⟩:=List.mem_iff_getElem.mp hb
  have:=h i (List.mem_range.mpr hi)
  rw[getElem?_eq_getElem hi,e] at this
  exact this
 ·intro h i hi
  have hi':=List.mem_range.mp hi
  rw[getElem?_eq_getElem hi']
  exact h _ (getElem_mem hi')
private theorem rng_any(bs:List Bool):((List.range bs.length).any fun i=>(bs[i]?).getD false)=bs.any id:=by
 rw[Bool.eq_iff_iff,List.any_eq_true,List.any_eq_true]
 constructor
 ·rintro ⟨i, hi, h⟩
  have hi':=List.mem_range.mp hi
  rw[getElem?_eq_getElem hi'] at h
  exact⟨_,getElem_mem hi',h⟩
 ·rintro ⟨b, hb, h⟩
  obtain⟨i,hi,e⟩:=List.mem_iff_getElem.mp hb
  exact⟨i,List.mem_range.mpr hi,by rw[getElem?_eq_getElem hi,e];exact h⟩
private theorem old_of{h h':Heap}{o:Obj}(hk:∀ b x,b ∉ [h.objs.size]->(h.push o).get? b=some x->h'.get? b=some x):∀ b x,h.get? b=some x->h'.get? b=some x :=
 fun b x e=>hk b x (fun z=>absurd (Heap.lt_size e) (by rw[List.mem_singleton.mp z];exact Nat.lt_irrefl _)) (Heap.get?_push_of_some _ e)
private theorem call_all(hc:X.calm=true):CallR X (.builtin "all") (fun xs H Q=>∃ (p:Addr) (bs:List Bool),xs=[.ref p]/\SqL X.K H p (bs.map V.bl)/\Q (.bl (bs.all id)) H):=by
 intro pins s σ H xs us Q I r h
 obtain⟨p,bs,rfl,hq,q⟩:=h
 cases r with
 | cons r rr =>
  cases rr
  cases r
  obtain⟨its,rv,pl,_⟩:=I.list hq
  have ei:=Vals.bools rv
  subst ei
  have hl:=pl.isList
  have hlt:p<s.heap.objs.size:=by obtain⟨_,e,_⟩:=hl;exact Heap.lt_size e
  refine call_all_walk (wpAny_pyIter_list hl ⟨s.heap.objs.size,[s.heap.objs.size,p],[s.heap.objs.size],(bs.map Value.bool).toArray.size,_,_,fun i=>(bs[i]?).getD true,rfl,
   Walks.list (A:=X.A.in1) (I.ok.hd hc) _ p (Nat.ne_of_lt hlt) _,⟨⟨_,Heap.get?_push_size _ rfl,rfl,rfl⟩,hl.push _⟩,fun i v s' Q' E' hP hQ=>?_,fun h' tk hk=>?_⟩)
  ·have hP' : (bs.map Value.bool)[i]? = some v := by simpa using hP
   rw[getElem?_map] at hP'
   cases e:bs[i]? with
   | none=>rw[e] at hP';cases hP'
   | some b =>
    rw[e] at hP'
    have hQ':Q' ((bs[i]?).getD true) s':=hQ
    rw[e] at hQ'
    cases hP'
    exact wpAny_truthy_bool hQ'
  ·refine ⟨.bl (bs.all id), H, I.kept (old_of hk), ?_, q⟩
   show Value.bool _=Value.bool _
   rw[size_toArray,length_map,rng_all]
private theorem call_any(hc:X.calm=true):CallR X (.builtin "any") (fun xs H Q=>∃ (p:Addr) (bs:List Bool),xs=[.ref p]/\SqL X.K H p (bs.map V.bl)/\Q (.bl (bs.any id)) H):=by
 intro pins s σ H xs us Q I r h
 obtain⟨p,bs,rfl,hq,q⟩:=h
 cases r with
 | cons r rr =>
  cases rr
  cases r
  obtain⟨its,rv,pl,_⟩:=I.list hq
  have ei:=Vals.bools rv
  subst ei
  have hl:=pl.isList
  have hlt:p<s.heap.objs.size:=by obtain⟨_,e,_⟩:=hl;exact Heap.lt_size e
  refine call_any_walk (wpAny_pyIter_list hl ⟨s.heap.objs.size,[s.heap.objs.size,p],[s.heap.objs.size],(bs.map Value.bool).toArray.size,_,_,fun i=>(bs[i]?).getD false,rfl,
   Walks.list (A:=X.A.in1) (I.ok.hd hc) _ p (Nat.ne_of_lt hlt) _,⟨⟨_,Heap.get?_push_size _ rfl,rfl,rfl⟩,hl.push _⟩,fun i v s' Q' E' hP hQ=>?_,fun h' tk hk=>?_⟩)
  ·have hP' : (bs.map Value.bool)[i]? = some v := by simpa using hP
   rw[getElem?_map] at hP'
   cases e:bs[i]? with
   | none=>rw[e] at hP';cases hP'
   | some b =>
    rw[e] at hP'
    have hQ':Q' ((bs[i]?).getD false) s':=hQ
    rw[e] at hQ'
    cases hP'
    exact wpAny_truthy_bool hQ'
  ·refine ⟨.bl (bs.any id), H, I.kept (old_of hk), ?_, q⟩
   show Value.bool _=Value.bool _
   rw[size_toArray,length_map,rng_any]
end
end L2
namespace L2
end L2
namespace L2
section
variable (P:Program) (w:World)
end
section
variable {P:Program} {w:World} {H H':Hp} {h h':Heap} {a:Addr} {o:HO}
end
section
variable {P:Program} {w:World} {H:Hp} {h h':Heap} {x e:Addr} {o':HO}
end
section
variable {fs fs' ex ex':List Addr} {H H1 H2:Hp} {h h1 h2 h':Heap} {a x e:Addr} {o:HO}
end
end L2
namespace L2
section
variable {X:Cx} {pins:List (Addr × Obj)} {σ:List (Option V)} {H H':Hp} {s:Shared} {h':Heap}
end
end L2
namespace L2
section
variable {X:Cx}
variable {a b:Expr} {ta tb:TE} {pos:Pos}
variable {tA tB':TT} {rest:List Expr}
end
end L2
namespace L2
section
variable {X:Cx} {pins:List (Addr × Obj)} {σ:St} {H:Hp} {s:Shared} {a:Addr} {xs ys:List V}
end
section
variable {X:Cx} {pins:List (Addr × Obj)} {σ:St} {H:Hp} {s:Shared} {E:Value->Shared->Prop}
end
section
variable {X:Cx} {st:Stmt} {rest:List Stmt} {t u:TS} {e:Expr} {te:TE} {pos:Pos}
end
section
variable {X:Cx} {pos:Pos}
end
section
variable {X:Cx} {pos:Pos}
end
end L2
namespace L2
section
variable {X:Cx} {tg:Expr}
end
end L2
namespace L2
section
variable {X:Cx} {a b c:Expr} {ta tb tc:TE} {pos:Pos}
end
section
variable {X:Cx} {a b c:Expr} {ta tb tc:TE} {pos:Pos}
end
end L2
namespace L2
section
variable {prog:Program} {w:World} {A:Around} {E:Value->Shared->Prop} {s:Shared} {K:W.Frag} {x dx C f:Addr} {mA:Str->Option Value} {name:Str} {v:Value}
end
section
variable {P:Program} {w:World} {H H':Hp} {h h':Heap} {a C dx:Addr} {fs fs':List (Str × V)}
end
section
variable {X:Cx} {pins:List (Addr × Obj)} {σ:St} {H:Hp} {s:Shared} {a C dx:Addr} {fs:List (Str × V)} {f:Str} {v:V} {A:Around} {E:Value->Shared->Prop}
end
section
variable {X:Cx} {o e value:Expr} {f:Str} {pos pos' tpos:Pos} {ta tv:TE}
end
section
variable {X:Cx} {pins:List (Addr × Obj)} {σ:St} {H:Hp} {s:Shared} {A:Around} {E:Value->Shared->Prop} {Q:Value->Shared->Prop} {c:Value} {b:Bool}
end
end L2
namespace L2
section
variable {X:Cx} {e:Expr} {es:List Expr} {te:TE} {t:TA} {pos:Pos}
end
section
variable {X:Cx} {pins:List (Addr × Obj)} {σ:St} {H:Hp} {s s':Shared}
end
section
variable {X:Cx} {CX:CXT} {k:Nat} {f C:Addr} {fd:FuncData} {ps:List Str} {sp:Sp} {dvs:List V} {ds:List Value} {E:XK} {x m:Str} {p pos apos:Pos} {e o:Expr} {es:List Expr} {ta:TE} {t:TA}
end
section
variable {X:Cx} {CX:CXT} {k:Nat} {f C:Addr} {fd:FuncData} {ps ks:List Str} {sp:Sp} {E:XK} {x m:Str} {p pos apos kpos:Pos} {e o:Expr} {es:List Expr} {kws:List Keyword} {te ta:TE} {t tk:TA} {nm:Option Str}
variable {g:List Value->List Value->List Value} {gV:List V->List V->List V}
end
end L2
namespace L2
section
variable {X:Cx} {x:Str} {p pos:Pos} {e:Expr} {es:List Expr} {t:TA} {id T:String} {r:List V->Hp->VK->Prop}
end
end L2
namespace L2
section
variable {κ:Type} [DecidableEq κ]
def valV(kvs:List (κ × V))(k:κ):Option V:=(kvs.find? fun kv=>decide (kv.1=k)).map (·.2)
def putK(kvs:List (κ × V))(k:κ)(v:V):List (κ × V) :=
 if (kvs.any fun kv=>decide (kv.1=k))=true then kvs.map (fun kv=>if kv.1=k then(kv.1,v) else kv) else kvs++[(k,v)]
private theorem valV_pos{p:κ × V}{r:List (κ × V)}{k:κ}(e:p.1=k):valV (p::r) k=some p.2:=by simp[valV,find?_cons,e]
private theorem valV_neg{p:κ × V}{r:List (κ × V)}{k:κ}(e:¬ p.1=k):valV (p::r) k=valV r k:=by simp[valV,find?_cons,e]
private theorem KV.val{kvs:List (κ × V)}{vs:List (κ × Value)}(r:KV kvs vs)(k:κ):RelO (valV kvs k) (valueAt vs k):=by
 unfold KV at r
 induction r with
 | nil=>exact True.intro
 | @cons p q ps qs h t ih =>
  obtain⟨h1,h2⟩:=h
  by_cases e:p.1=k
  ·have e' : q.1 = k := h1.symm.trans e
   have b:valueAt (q::qs) k=some q.2:=by simp[valueAt,find?_cons,e']
   rw[valV_pos e,b];exact h2
  ·have e' : ¬ q.1 = k := fun z => e (h1.trans z)
   have b:valueAt (q::qs) k=valueAt qs k:=by simp[valueAt,find?_cons,e']
   rw[valV_neg e,b];exact ih
private theorem KV.any{kvs:List (κ × V)}{vs:List (κ × Value)}(r:KV kvs vs)(k:κ):(kvs.any fun kv=>decide (kv.1=k))=vs.any fun kv=>decide (kv.1=k):=by
 unfold KV at r
 induction r with
 | nil=>rfl
 | cons h t ih=>rw[any_cons,any_cons,ih,h.1]
private theorem KV.repl{kvs:List (κ × V)}{vs:List (κ × Value)}(r:KV kvs vs)(k:κ){y:V}{u:Value}(ry:RelV y u) :
  KV (kvs.map fun kv=>if kv.1=k then(kv.1,y) else kv) (vs.map fun kv=>if kv.1=k then(kv.1,u) else kv):=by
 unfold KV at r ⊢
 induction r with
 | nil=>exact .nil
 | @cons p q ps qs h t ih =>
  rw[map_cons,map_cons]
  refine .cons ?_ ih
  obtain⟨h1,h2⟩:=h
  by_cases e:p.1=k
  ·rw[if_pos e,if_pos (h1.symm.trans e)];exact⟨h1,ry⟩
  ·rw[if_neg e,if_neg (fun z=>e (h1.trans z))];exact⟨h1,h2⟩
private theorem KV.put{kvs:List (κ × V)}{vs:List (κ × Value)}(r:KV kvs vs)(k:κ){y:V}{u:Value}(ry:RelV y u):KV (putK kvs k y) (stored vs k u):=by
 unfold putK stored
 rw[r.any k]
 by_cases e:(vs.any fun kv=>decide (kv.1=k))=true
 ·rw[if_pos e,if_pos e];exact r.repl k ry
 ·rw[if_neg e,if_neg e];exact Paired.snoc r ⟨rfl,ry⟩
private theorem KV.length{kvs:List (κ × V)}{vs:List (κ × Value)}(r:KV kvs vs):kvs.length=vs.length:=Paired.length r
end
private theorem kV_is{P:Program}{w:World}{k:Key}{u:Value}(r:RelV (kV k) u):(mixKind P w).is k u=true:=by
 cases k with
 | inl i=>obtain⟨t,e⟩:=(show ∃ t,u=Value.int i t from r);subst e;exact mixKind_int P w i t
 | inr x=>obtain⟨t,e⟩:=(show ∃ t,u=Value.str x t from r);subst e;exact mixKind_str P w x t
private theorem items_are{P:Program}{w:World}:∀ {ks:List Key} {us:List Value},Vals (ks.map kV) us->ItemsAre (mixKind P w) ks us
 | [],_,r=>by rw[map_nil] at r;cases r;exact .nil
 | k::ks,_,r=>by
  rw[map_cons] at r
  cases r with
  | cons h t=>exact .cons (kV_is h) (items_are t)
abbrev KT(H:Hp):List (List Key × V)->List (List Key × Addr × Value)->Prop:=Paired fun p q=>p.1=q.1/\H q.2.1=some (.tup (p.1.map kV))/\RelV p.2 q.2.2
private theorem KT.val{H:Hp}{kvs:List (List Key × V)}{xs:List (List Key × Addr × Value)}(r:KT H kvs xs)(k:List Key):RelO (valV kvs k) ((atKey xs k).map (·.2)):=by
 induction r with
 | nil=>exact True.intro
 | @cons p q ps qs h t ih =>
  obtain⟨h1,_,h2⟩:=h
  by_cases e:p.1=k
  ·have e' : q.1 = k := h1.symm.trans e
   have b:atKey (q::qs) k=some q.2:=by simp[atKey,find?_cons,e']
   rw[valV_pos e,b];exact h2
  ·have e' : ¬ q.1 = k := fun z => e (h1.trans z)
   have b:atKey (q::qs) k=atKey qs k:=by simp[atKey,find?_cons,e']
   rw[valV_neg e,b];exact ih
section
variable {P:Program} {w:World} {H:Hp} {h:Heap} {a:Addr}
private theorem rd_of{u:HO}(ok:HOk P w H h)(e:Rd H a u):ObjOk P w H h a u:=e.ok ok
private theorem dk_rd{kvs:List (Key × V)}(ok:HOk P w H h)(e:Rd H a (.dK kvs)):kvs.length<=sizeLine/\(a == sysModules)=false/\∃ vs,KV kvs vs/\h.DictOf (mixKind P w) a vs :=
 show ObjOk P w H h a (.dK kvs) from rd_of ok e
private theorem key_of{ks:List Key}(ok:HOk P w H h)(e:H a=some (.tup (ks.map kV))):(tupleKind (mixKind P w)).is h ks a:=by
 obtain⟨_,its,r,o,h1,h2,n,h3⟩:=(show ObjOk P w H h a (.tup (ks.map kV)) from ok a _ e)
 exact⟨o,its.toArray,n,h1,h2,h3,by simpa using items_are r⟩
private theorem dt_rd{kvs:List (List Key × V)}(ok:HOk P w H h)(e:Rd H a (.dT kvs)):kvs.length<=sizeLine/\(a == sysModules)=false /\
  ∃ xs,KT H kvs xs/\h.DictOfH (tupleKind (mixKind P w)) a xs:=by
 obtain⟨z,y,xs,r,o,es,ep,h1,h2,h3,h4,h5⟩:=(show ObjOk P w H h a (.dT kvs) from rd_of ok e)
 refine⟨z,y,xs,r,o,es,ep,h1,h2,h3,h4,fun x hx=>?_,h5⟩
 have all:∀ {l:List (List Key × V)} {m:List (List Key × Addr × Value)},KT H l m->∀ x∈m,(tupleKind (mixKind P w)).is h x.1 x.2.1:=by
  intro l m q
  induction q with
  | nil=>intro x hx;exact nomatch hx
  | @cons p q ps qs hq t ih =>
   intro x hx
   rcases List.mem_cons.mp hx with e | hx
   ·subst e
    exact key_of ok (by rw[<- hq.1];exact hq.2.1)
   ·exact ih x hx
 exact all r x hx
end
def DGet(H:Hp)(a:Addr)(y:V)(r:Option V):Prop :=
 (∃ kvs k,Rd H a (.dK kvs)/\y=kV k/\r=valV kvs k)\/∃ kvs k b,Rd H a (.dT kvs)/\y=.ref b/\H b=some (.tup (k.map kV))/\r=valV kvs k
private theorem DGet.k{H:Hp}{a:Addr}{kvs:List (Key × V)}{k:Key}(e:H a=some (.dK kvs)):DGet H a (kV k) (valV kvs k):=.inl ⟨kvs,k,.inl e,rfl,rfl⟩
section
variable {X:Cx} {pins:List (Addr × Obj)} {σ:St} {H:Hp} {s:Shared} {a:Addr} {y v:V} {u r:Value} {o:Option V} {A:Around} {E:Value->Shared->Prop}
private theorem Inv.big(I:Inv X pins σ H s):sysModules<s.heap.objs.size:=by
 have h:mainGlobals<s.heap.objs.size:=(I.mod.glob.keeps I.bk).lt
 exact Nat.lt_trans (by decide) h
private theorem d_getItem{Q:Value->Shared->Prop}(hu:A.units+1<cLine)(I:Inv X pins σ H s)(g:DGet H a y (some v))(ry:RelV y u)(h:∀ w' s',Inv X pins σ H s'->RelV v w'->Q w' s') :
  wpAny (model X.prog X.w) A (getItem (.ref a) u) Q E s:=by
 rcases g with ⟨kvs,k,e,ey,l⟩ | ⟨kvs,k,b,e,ey,eb,l⟩
 ·subst ey
  obtain⟨z,hd,vs,rel,dd⟩:=dk_rd I.hok e
  obtain⟨w',hw,rw'⟩:=RelO.some_of (v:=v) (o:=valueAt vs k) (by rw[l];exact rel.val k)
  exact wpAny_getItem_of (kV_is ry) dd.mapOf hw (h w' _ (I.tok _) rw')
 ·subst ey
  cases(show u=Value.ref b from ry)
  obtain⟨z,hd,xs,rel,dd⟩:=dt_rd I.hok e
  obtain⟨w',hw,rw'⟩:=RelO.some_of (v:=v) (o:=(atKey xs k).map (·.2)) (by rw[l];exact rel.val k)
  obtain⟨p,hp,hp2⟩:=Option.map_eq_some_iff.mp hw
  refine wpAny_getItem_heap (tupleKind_room_in1 hu) (key_of I.hok eb) dd hp ?_
  rw[hp2]
  exact h w' _ (I.tok _) rw'
end
section
variable {X:Cx} {pins:List (Addr × Obj)} {σ:St} {H:Hp} {s:Shared} {a:Addr} {kvs:List (Key × V)} {k:Key} {u:Value} {A:Around} {E:Value->Shared->Prop}
end
def NoSl(i:Expr):Prop:=∀ ov iv,subscripted i false ov iv=operate [ov,iv] (getItem ov iv)
private theorem subD_of{prog:Program}{w:World}{A:Around}{E:Value->Shared->Prop}{s:Shared}{env:Env}{value slice:Expr}{pos:Pos}{T id:String}{Q:Value->Shared->Prop}
  (hl:typeLookup (.type T) "__getitem__" = pure (some (.builtin id))) (hs:NoSl slice)
  (h:wpAny (model prog w) A (eval value env) (fun o s₁=>wpAny (model prog w) A (eval slice env) (fun i s₂=>s₂.TypeIs o T/\wpAny (model prog w) A (getItem o i) Q E s₂) E s₁) E s) :
  wpAny (model prog w) A (eval (.Subscript value slice pos) env) Q E s:=by
 refine Subscript_ (wpAny_mono h (fun o s₁ h₁=>wpAny_mono h₁ (fun i s₂ h₂=>?_) fun _ _ x=>x) fun _ _ x=>x)
 obtain⟨hT,h₂⟩:=h₂
 unfold subscriptTail
 refine wpAny_bind ?_
 rw[getitemInPython_of_ne hT.not_modules]
 refine wpAny_bind (wpAny_specialOf hT hl ?_)
 have fin:wpAny (model prog w) A (subscripted slice false o i) (fun r s₃=>wpAny (model prog w) A (letTemporaryGo value o r >>= fun _=>pure r) Q E s₃) E s₂:=by
  rw[hs o i]
  exact wpAny_operating (wpAny_mono h₂ (fun r s₃ h₃=>wpAny_bind (wpAny_letTemporaryGo (wpAny_pure h₃))) fun _ _ x=>x)
 first
  | exact wpAny_pure (wpAny_bind fin)
  | exact wpAny_bind (wpAny_pure (wpAny_bind fin))
  | exact wpAny_bind fin
private theorem dict_typeIs{X:Cx}{pins:List (Addr × Obj)}{σ:St}{H:Hp}{s:Shared}{a:Addr}{y:V}{o:Option V}(I:Inv X pins σ H s)(g:DGet H a y o):s.TypeIs (.ref a) "dict" := by
 rcases g with ⟨kvs,k,e,_,_⟩ | ⟨kvs,k,b,e,_,_,_⟩
 ·obtain ⟨_, _, vs, _, dd⟩ := dk_rd I.hok e
  exact dd.typeIs
 ·obtain ⟨_, _, xs, _, dd⟩ := dt_rd I.hok e
  exact dd.typeIs
def tDGet(td ty:TE):TE:=fun σ H Q=>td σ H fun x H1=>ty σ H1 fun y H2=>∃ a v,x=.ref a/\DGet H2 a y (some v)/\Q v H2
section
variable {X:Cx} {o i e value:Expr} {pos pos' tpos:Pos} {td ty tv:TE}
private theorem pe_dget(hu:X.A.units+1<cLine)(ho:PE X o td)(hi:PE X i ty)(hs:NoSl i):PE X (.Subscript o i pos) (tDGet td ty):=by
 intro pins s σ H Q I h
 refine subD_of PySem.F.slot_dict_getitem.lookup hs (thn (ho pins s σ H _ I h) fun u s1 ⟨x,H1,I1,rx,q1⟩=>thn (hi pins s1 σ H1 _ I1 q1) fun iv s2 ⟨y,H2,I2,ry,a,v,ex,g,q2⟩=>?_)
 subst ex
 obtain rfl:u=Value.ref a:=rx
 exact⟨dict_typeIs I2 g,d_getItem hu I2 g ry fun w' s3 I3 rw'=>⟨v,H2,I3,rw',q2⟩⟩
end
private theorem dk_empty{P:Program}{w:World}{H:Hp}(h:Heap)(hb:sysModules<h.objs.size):ObjOk P w H (h.push { cls:=.type "dict",data:=.dict #[] }) h.objs.size (.dK []) :=
 ⟨Nat.zero_le _,beq_eq_false_iff_ne.mpr (Ne.symm (Nat.ne_of_lt hb)),[],.nil,Heap.DictOf.new h⟩
section
variable {X:Cx} {pos:Pos}
end
section
variable {X:Cx} {pins:List (Addr × Obj)} {σ:St} {H:Hp} {s:Shared} {a:Addr} {y d:V} {u r:Value} {o:Option V} {A:Around} {E:Value->Shared->Prop}
end
section
variable {X:Cx} {o e f:Expr} {apos cpos:Pos} {td ty tx:TE}
end
section
variable {X:Cx} {pins:List (Addr × Obj)} {σ:St} {H:Hp} {s:Shared} {a:Addr} {kvs:List (Key × V)} {A:Around} {E:Value->Shared->Prop}
end
section
variable {X:Cx} {pins:List (Addr × Obj)} {σ:St} {H:Hp} {s:Shared} {a:Addr} {y:V} {u:Value} {A:Around} {E:Value->Shared->Prop}
end
end L2
namespace Att
open PySem PySem.W PySem.Calls PyProof.Rows
section
variable {prog:Program} {w:World} {A:Around} {E:Value->Shared->Prop} {s:Shared} {K:Frag}
end
end Att
namespace L2
end L2
namespace L2
end L2
namespace L2
section
variable {P:Program} {w:World} {K:W.Frag} {mg:Str->Option Value} {base:Heap}
end
section
variable {X:Cx}
end
section
variable {κ:Type} [DecidableEq κ]
end
end L2
namespace L2
section
variable {prog:Program} {w:World} {A:Around} {R:Result->Shared->Prop} {s:Shared}
private theorem dcomp_loop{kx vx target iter:Expr}{ifs:List Expr}{scope:Scope}{pos:Pos}{it:Value}{D:Addr}{env:Env}(J:Nat->Shared->Prop)
  (turn : ∀ n s, J n s -> wpAny (model prog w) A (pyNext it) (fun r s1 => match r with
   | none=>R (.ok .next) s1
   | some v => wpAny (model prog w) A (letOwnedTupleGo target it v) (fun _ s2 => wpAny (model prog w) A (assign target env v) (fun _ s3 => wpAny (model prog w) A (cTests ifs env) (fun ok s4 =>
     if ok=true then wpAny (model prog w) A (eval kx env) (fun kv s5=>wpAny (model prog w) A (eval vx env) (fun vv s6=>wpAny (model prog w) A (dictSet D kv vv) (fun _ s7=>∃ m,m<n/\J m s7) (fun _ _=>False) s6) (fun _ _=>False) s5) (fun _ _=>False) s4
     else ∃ m,m<n/\J m s4) (fun _ _=>False) s3) (fun _ _=>False) s2) (fun _ _=>False) s1) (fun _ _=>False) s)
  (n:Nat) (h:J n s):codeAny (model prog w) A (.compLoop (.DictComp kx vx [⟨target,iter,ifs,0⟩] scope pos) 0 it (.ref D) env) R s:=by
 refine codeAny_loop rfl J (fun n s hJ=>?_) n h
 show wpAny _ A ((compTurn (.DictComp kx vx [⟨target,iter,ifs,0⟩] scope pos) 0 it (.ref D) env).onRaise (fun x=>do noteFrame x env;theTreesLotGoes x)) _ _ s
 refine wpAny_noted ?_
 rw[compTurn_dict]
 have up:∀ {α:Type} {t:Sem α} {Q Q':α->Shared->Prop} {E:Value->Shared->Prop} {s:Shared},wpAny (model prog w) A t Q (fun _ _=>False) s->(∀ a s,Q a s->Q' a s)->wpAny (model prog w) A t Q' E s :=
  fun h f=>wpAny_mono h f fun _ _ z=>False.elim z
 refine wpAny_bind (wpAny_standAt (wpAny_bind (up (turn n s hJ) fun r s1 h1=>?_)))
 cases r with
 | none=>exact wpAny_pure h1
 | some v =>
  refine wpAny_bind (up h1 fun _ s2 h2=>?_)
  refine wpAny_bind (up h2 fun _ s3 h3=>?_)
  refine wpAny_bind (up h3 fun ok s4 h4=>?_)
  cases ok with
  | false=>exact wpAny_pure ⟨rfl,h4⟩
  | true=>exact wpAny_bind (wpAny_bind (up h4 fun kv s5 h5=>wpAny_bind (wpAny_holding (up h5 fun vv s6 h6=>wpAny_bind (wpAny_standAt (wpAny_holding (up h6 fun _ s7 h7=>wpAny_pure ⟨rfl,h7⟩)))))))
end
section
variable {X:Cx} {scope:Scope} {own M:List Str} {pins:List (Addr × Obj)} {σ:St} {H2:Hp} {s2:Shared} {fp:List Addr}
private theorem inv_compD{o0:Obj}(ok:CompOk X scope M)(hc:X.calm=true)(I:Inv X pins σ H2 s2)(hf:∀ b∈fp,FpOk X pins H2 b/\b<s2.heap.objs.size){C:Addr}(hC:C=s2.heap.objs.size+1){h4:Heap}
  (hh:h4=pushCells ((s2.heap.push o0).push { cls:=.type "dict",data:=.dict #[] }) scope.names) :
  Inv (cxComp X scope own M C s2 H2 fp) [] (replicate own.length none++σ) H2 { s2 with heap:=h4 }:=by
 have zC:(s2.heap.push o0).objs.size=C:=by rw[Heap.size_push,hC]
 have zC1:((s2.heap.push o0).push { cls:=.type "dict",data:=.dict #[] }).objs.size=C+1:=by rw[Heap.size_push,zC]
 have keep:∀ b o,s2.heap.get? b=some o->h4.get? b=some o:=fun b o e=>by
  rw[hh];exact pushCells_keeps _ _ _ _ (Heap.get?_push_of_some _ (Heap.get?_push_of_some _ e))
 have cellOld:∀ x c,X.env.cells.lookup x=some c->c<s2.heap.objs.size:=fun x c e=>by obtain⟨v,q⟩:=I.cell x c e;exact q.lt
 have cellB:∀ x c,(cellsC X scope C).lookup x=some c->(h4.IsCell c none/\C+1<=c/\scope.names.lookup x=some .cell)\/X.env.cells.lookup x=some c:=fun x c e=>by
  by_cases hx:scope.names.lookup x=some .cell
  ·have e' := e
   unfold cellsC at e'
   rw[<- zC1] at e'
   rcases cf_all _ _ _ x c e' with ⟨a,b,d⟩ | q
   ·exact .inl ⟨by rw[hh];exact a,by rw[zC1] at b;exact b,hx⟩
   ·exact .inr (closL_sub scope.names [] (ok.cells I) (fun _ _ z=>by simp at z) x c q)
  ·exact .inr (ok.cellsFrom_old I e hx)
 have hNs:∃ m,h4.Ns C m:=by
  have q:((s2.heap.push o0).push { cls:=.type "dict",data:=.dict #[] }).Ns C (fun _=>none):=by
   have:=Heap.Ns.new (s2.heap.push o0) (.type "dict")
   rw[zC] at this
   exact this
  exact⟨_,q.keeps fun b o e=>by rw[hh];exact pushCells_keeps _ _ _ _ e⟩
 have nfs:∀ b∈fp,b ∉ frs X.stack:=fun b hb hx=>by
  obtain⟨⟨_,f1,f2,_⟩,_⟩:=hf b hb
  rcases List.mem_cons.mp (I.stkSub b hx) with e | e
  ·exact f1 e
  ·exact f2 e
 obtain⟨mC,hmC⟩:=hNs
 refine⟨⟨I.ok.mod,ok.kind,I.ok.glob,I.ok.blt,?_,?_,?_,?_,I.ok.hd,I.ok.frames,.inl rfl,?_,I.bs,?_,?_,nfs,I.stack,I.stkFree⟩,rfl,I.bare,Un.kept keep,⟨mC,hmC,?_⟩,?_,I.hok.fresh (by show s2.heap.objs.size<=C;rw[hC];exact Nat.le_succ _),?_,fun p hp=>absurd (show p∈([]:List (Addr × Obj)) from hp) (by simp),I.hok.kept keep,?_⟩
 ·show s2.heap.objs.size<=C;rw[hC];exact Nat.le_succ _
 ·intro x y c h1 h2
  refine cf_inj scope.names (C+1) (closL X.env scope.names []) (fun a b d p q=>?_) (fun a d p=>?_) x y c h1 h2
  ·exact I.ok.inj a b d (closL_sub scope.names [] (ok.cells I) (fun _ _ z=>by simp at z) a d p) (closL_sub scope.names [] (ok.cells I) (fun _ _ z=>by simp at z) b d q)
  ·have := cellOld a d (closL_sub scope.names [] (ok.cells I) (fun _ _ z => by simp at z) a d p)
   rw[hC];exact Nat.lt_succ_of_lt (Nat.lt_succ_of_lt this)
 ·intro x hx
  have go:∀ k,(k=NameKind.cell\/k=NameKind.free)->(compEnvC scope (cellsC X scope C) C X.env).kindOf x=some k->∃ c,(cellsC X scope C).lookup x=some c:=fun k hk e=>by
   rcases ok.kindIn e with e | ⟨_,e⟩
   ·rcases hk with rfl | rfl
    ·exact cf_has _ _ _ (PySem.mem_of_lookup e)
    ·exact cf_keep _ _ _ (closL_has (y:=(x,.free)) rfl _ _ (PySem.mem_of_lookup e))
   ·exact cf_keep _ _ _ (closL_has (y:=(x,.free)) rfl _ _ (PySem.mem_of_lookup e))
  rcases hx with e | e
  ·exact go _ (.inl rfl) e
  ·exact go _ (.inr rfl) e
 ·intro x c hx h
  have hx':scope.names.lookup x=some .cell:=by simpa [cxComp] using hx
  have:=cf_ge (x:=x) scope.names (C+1) (closL X.env scope.names []) (C+1) (Nat.le_refl _) (.inl (PySem.mem_of_lookup hx')) c h
  show s2.heap.objs.size<=c
  exact Nat.le_trans (by rw[hC];exact Nat.le_trans (Nat.le_succ _) (Nat.le_succ _)) this
 ·intro b hb
  obtain⟨⟨_,_,_,_,f4,_⟩,f6⟩:=hf b hb
  refine⟨?_,fun x c h=>?_⟩
  ·show b ≠ C
   rw[hC];exact Nat.ne_of_lt (Nat.lt_succ_of_lt f6)
  ·rcases cellB x c h with ⟨_, q, _⟩ | q
   ·rw [hC] at q
    exact Nat.ne_of_gt (Nat.lt_of_lt_of_le f6 (Nat.le_trans (Nat.le_trans (Nat.le_succ _) (Nat.le_succ _)) q))
   ·exact f4 x c q
 ·exact Nat.le_trans I.ok.bsz I.sz
 ·intro b o e hb
  obtain⟨⟨_,_,_,f3,_⟩,_⟩:=hf b hb
  rcases f3 with z | z
  ·exact I.ok.noex b o e z
  ·exact absurd (Nat.lt_of_lt_of_le (Heap.lt_size (I.ok.bs b o e).1) z) (Nat.lt_irrefl _)
 ·intro i x v h1 h2 h3
  have h2':(replicate own.length (none:Option V)++σ)[i]?=some (some v):=h2
  have hi:own.length<=i:=by
   apply Nat.le_of_not_lt
   intro hlt
   rw[getElem?_append_left (by simpa using hlt),getElem?_replicate] at h2'
   rw[if_pos hlt] at h2'
   cases h2'
  rw[getElem?_append_right (by simpa using hi),length_replicate] at h2'
  have h1':(own++M)[i]?=some x:=h1
  rw[getElem?_append_right hi] at h1'
  obtain⟨n1,n2⟩:=ok.shadow x (mem_of_getElem? h1')
  have hfree:scope.names.lookup x=some .free/\((compEnvC scope (cellsC X scope C) C X.env).kindOf x=some .cell\/(compEnvC scope (cellsC X scope C) C X.env).kindOf x=some .free):=by
   rcases h3 with e | e | e
   ·rcases ok.kindIn (x := x) (C := C) e with q | ⟨q, _⟩
    ·exact absurd q n1
    ·cases q
   ·rcases ok.kindIn (x := x) (C := C) e with q | ⟨_, q⟩
    ·exact absurd q n2
    ·exact⟨q,.inl e⟩
   ·rcases ok.kindIn (x := x) (C := C) e with q | ⟨q, _⟩
    ·exact⟨q,.inr e⟩
    ·cases q
  obtain⟨hfr,hk⟩:=hfree
  obtain⟨m,hn,hl⟩:=I.loc
  have hkX:=ok.frees (x,.free) (PySem.mem_of_lookup hfr) rfl
  have h1':=ok.same _ _ h1' hfr
  obtain⟨u,ru,lk⟩:=hl (i-own.length) x v h1' h2' (hkX.elim (fun z=>.inr (.inl z)) fun z=>.inr (.inr z))
  refine⟨u,ru,.inr ⟨hk,?_⟩⟩
  rcases lk with ⟨k,_⟩ | ⟨_,c,ec,ic⟩
  ·rcases hkX with z | z<;>(rw[k] at z;cases z)
  ·obtain ⟨c', e'⟩ : ∃ c', (cellsC X scope C).lookup x = some c' := cf_keep _ _ _ (closL_has (y := (x, .free)) rfl _ _ (PySem.mem_of_lookup hfr))
   refine⟨c',e',?_⟩
   have:=ok.cellsFrom_old I e' (by rw[hfr];simp)
   have e2:some c=some c':=ec.symm.trans this
   cases e2
   exact ic.keeps keep
 ·intro x c h
  rcases cellB x c h with ⟨q,_⟩ | q
  ·exact⟨_,q⟩
  ·obtain ⟨v, z⟩ := I.cell x c q
   exact⟨v,z.keeps keep⟩
 ·intro x c h
  rcases cellB x c h with ⟨q,q2,_⟩ | q
  ·exact I.hok.fresh (by rw[hC] at q2;exact Nat.le_trans (Nat.le_trans (Nat.le_succ _) (Nat.le_succ _)) q2)
  ·exact I.freeC x c q
 ·show (List.replicate own.length (none : Option V) ++ σ).length = (own ++ M).length
  rw[length_append,length_append,length_replicate,I.len,ok.mlen]
end
section
variable {X:Cx} {scope:Scope} {own M:List Str} {pins:List (Addr × Obj)} {σ:St} {H2:Hp} {s2:Shared} {tg iter kx vx:Expr} {ifs:List Expr} {pos:Pos} {g:TG} {tt:TT} {tk tv:TE}
private theorem dcomp_core(ok:CompOk X scope M)(hc:X.calm=true)(hg:∀ C s2 H2 fp,PG (cxComp X scope own M C s2 H2 fp) tg g)(ht:∀ C s2 H2 fp,PTs (cxComp X scope own M C s2 H2 fp) ifs tt)(hek:∀ C s2 H2 fp,PE (cxComp X scope own M C s2 H2 fp) kx tk)(he:∀ C s2 H2 fp,PE (cxComp X scope own M C s2 H2 fp) vx tv)
  (I2:Inv X pins σ H2 s2) {it:Addr} {fp:List Addr} {tn:Nat->Heap->Prop} {J:It} (T:Turn X.prog X.w X.K tg J fp it tn) (st2:tn 0 s2.heap) (f2:∀ b∈fp,FpOk X pins H2 b)
  {W:Nat->Nat->List (Key × V)->Hp->Prop} (w0:∃ m,W 0 m [] H2) {Qf:V->Hp->Prop}
  (turn : ∀ i m acc H, W i m acc H -> (J.stop i H /\ acc.length <= sizeLine /\ ∀ D, H D = none -> Qf (.ref D) (upd H D (.dK acc))) \/
   (J.go i H /\ acc.length < sizeLine /\ ∀ x H', J.yld i H x H' -> g x (List.replicate own.length none ++ σ) H' fun σ2 H2 => σ2.drop own.length = σ /\ tt σ2 H2 fun c H3 =>
    if c=true then tk σ2 H3 fun y H4=>tv σ2 H4 fun v H5=>∃ k m',y=kV k/\m'<m/\W (i+1) m' (putK acc k v) H5 else ∃ m',m'<m/\W (i+1) m' acc H3))
  {RR:Value->Addr->Result->Shared->Prop} {E:Value->Shared->Prop}
  (fin:∀ D C H' s' m,Inv X pins σ H' s'->Qf (.ref D) H'->s'.heap.Ns C m->H' C=none->C≠X.env.locals->X.s₀.heap.objs.size<=C->(∀ x c,X.env.cells.lookup x=some c->c≠C)->(∀ p∈X.pn++pins,p.1≠C)->RR (.ref D) C (.ok .next) s') :
  wpAny (model X.prog X.w) X.A newDict (fun acc s3=>wpAny (model X.prog X.w) X.A (newFunctionEnv scope X.env.globals (closL X.env scope.names []) [] X.env.qual none .none (some X.env)) (fun cenv s4 =>
   codeAny (model X.prog X.w) X.A (.compStart (.DictComp kx vx [⟨tg,iter,ifs,0⟩] scope pos) 0 (.ref it) acc { cenv with scope:=relabel scope X.env }) (RR acc cenv.locals) s4) E s3) E s2:=by
 refine wpAny_newObj_type (newEnv_comp ?_)
 have zC:(s2.heap.push { cls:=.type "dict",dict:=none,data:=.dict #[] }).objs.size=s2.heap.objs.size+1:=Heap.size_push ..
 dsimp only
 rw[zC]
 generalize hC:s2.heap.objs.size+1=C
 generalize hh:pushCells ((s2.heap.push { cls:=.type "dict",dict:=none,data:=.dict #[] }).push { cls:=.type "dict",data:=.dict #[] }) scope.names=h4
 have fpl:∀ b∈fp,FpOk X pins H2 b/\b<s2.heap.objs.size:=fun b hb=>by
  obtain⟨o,e,_⟩:=T.obj 0 _ st2 b hb
  exact⟨f2 b hb,Heap.lt_size e⟩
 have I4:Inv (cxComp X scope own M C s2 H2 fp) [] (replicate own.length none++σ) H2 { s2 with heap:=h4 }:=inv_compD (o0:={ cls:=.type "dict",dict:=none,data:=.dict #[] }) ok hc I2 fpl hC.symm hh.symm
 generalize hX:cxComp X scope own M C s2 H2 fp=X' at I4
 have keep4:∀ b o,s2.heap.get? b=some o->h4.get? b=some o:=fun b o e=>by
  rw[<- hh];exact pushCells_keeps _ _ _ _ (Heap.get?_push_of_some _ (Heap.get?_push_of_some _ e))
 have hD4:h4.get? s2.heap.objs.size=some { cls:=.type "dict",dict:=none,data:=.dict #[] }:=by
  rw[<- hh];exact pushCells_keeps _ _ _ _ (Heap.get?_push_of_some _ (Heap.get?_push_size _ rfl))
 have isD0:(({ cls:=.type "dict",dict:=none,data:=.dict #[] }:Obj)).IsDictOf (mixKind X.prog X.w) []:=by
  obtain⟨_,_,vs,r,o,es,ep,e,q⟩:=dk_empty (P:=X.prog) (w:=X.w) (H:=H2) s2.heap I2.big
  cases r
  rw[Heap.get?_push_size _ (by rfl)] at e
  cases e
  exact⟨es,ep,q⟩
 have dsys:(s2.heap.objs.size == sysModules)=false:=(dk_empty (P:=X.prog) (w:=X.w) (H:=H2) s2.heap I2.big).2.1
 have st4:tn 0 h4:=T.keep _ _ _ st2 fun b hb o e=>keep4 b o e
 have gg:PG X' tg g:=by rw[<- hX];exact hg C s2 H2 fp
 have gt:PTs X' ifs tt:=by rw[<- hX];exact ht C s2 H2 fp
 have gk:PE X' kx tk:=by rw[<- hX];exact hek C s2 H2 fp
 have ge:PE X' vx tv:=by rw[<- hX];exact he C s2 H2 fp
 have xP:X'.prog=X.prog:=by rw[<- hX];rfl
 have xw:X'.w=X.w:=by rw[<- hX];rfl
 have xK:X'.K=X.K:=by rw[<- hX];rfl
 have xA:X'.A=X.A:=by rw[<- hX];rfl
 have xc:X'.calm=true:=by rw[<- hX];exact hc
 have xpn:X'.pn=[]:=by rw[<- hX];rfl
 have xs:X'.s₀=s2:=by rw[<- hX];rfl
 have xH:X'.H₀=H2:=by rw[<- hX];rfl
 have xL:X'.env.locals=C:=by rw[<- hX];rfl
 have xfs:X'.fs=frs X.stack:=by rw[<- hX];rfl
 have xex:X'.ex=fp:=by rw[<- hX];rfl
 have xe:X'.xe=fun _ _=>False:=by rw[<- hX];rfl
 have xenv:({ newEnv scope C X.env.globals (cellsFrom (C+1) scope.names (closL X.env scope.names [])) X.env.qual none .none (some X.env) builtinsNs with scope:=relabel scope X.env }:Env)=X'.env:=by rw[<- hX];rfl
 have Dlt:s2.heap.objs.size<C:=by rw[<- hC];exact Nat.lt_succ_self _
 have fpb:∀ {pl:List (Addr × Obj)} {H:Hp},(∀ b∈fp,H b=none)->(∀ p∈pl,p.1 ∉ fp)->∀ b∈fp,FpOk X' pl H b:=fun {pl H} hn hpl b hb=>by
  refine⟨hn b hb,?_,?_,.inl (by rw[xex];exact hb),fun x c e=>(I4.ok.exf b (by rw[xex];exact hb)).2 x c e,fun p hp z=>?_⟩
  ·exact(I4.ok.exf b (by rw[xex];exact hb)).1
  ·exact I4.ok.exfs b (by rw[xex];exact hb)
  ·rw [xpn, List.nil_append] at hp
   exact hpl p hp (by rw[z];exact hb)
 have Dfp:s2.heap.objs.size ∉ fp:=fun z=>Nat.lt_irrefl _ (fpl _ z).2
 have DC:s2.heap.objs.size≠C:=Nat.ne_of_lt Dlt
 have Dcell:∀ x c,X'.env.cells.lookup x=some c->c≠s2.heap.objs.size:=fun x c e z=>by
  obtain⟨v,o,q,hd⟩:=I4.cell x c e
  rw[z] at q
  have q':h4.get? s2.heap.objs.size=some o:=q
  rw[hD4] at q'
  cases q'
  cases hd
 have Dfs:s2.heap.objs.size ∉ X'.fs:=fun z=>by
  obtain⟨_,o,ho,_⟩:=I4.ok.funs.mem (by exact z)
  rw[xs] at ho
  exact Nat.lt_irrefl _ (Heap.lt_size ho)
 rw[xenv]
 have goal:∀ s5:Shared,s5={ s2 with heap:=h4 }->codeAny (model X.prog X.w) X.A (.compLoop (.DictComp kx vx [⟨tg,iter,ifs,0⟩] scope pos) 0 (.ref it) (.ref s2.heap.objs.size) X'.env) (RR (.ref s2.heap.objs.size) C) s5:=by
  rintro s5 rfl
  obtain⟨m0,w0⟩:=w0
  refine dcomp_loop (fun n s'=>∃ i acc σ' H' ob vs,Inv X' [] σ' H' s'/\σ'.drop own.length=σ/\tn i s'.heap/\(∀ b∈fp,H' b=none)/\H' s2.heap.objs.size=none /\
   s'.heap.get? s2.heap.objs.size=some ob/\ob.IsDictOf (mixKind X.prog X.w) vs/\KV acc vs/\W i n acc H') ?_ m0
   ⟨0,[],_,H2,_,[],I4,by simp,st4,fun b hb=>(f2 b hb).1,I2.hok.fresh (Nat.le_refl _),hD4,isD0,.nil,w0⟩
  rintro n s3 ⟨i,acc,σ3,H3,ob,vs,I3,hσ,st3,fr3,hD,hDo,isD,rv,w3⟩
  have noc:∀ v,ob.data≠.cell v:=fun v z=>by
   obtain⟨es,ep,_,e,_⟩:=isD
   rw[e] at z;cases z
  have pinD:∀ {H:Hp} {s:Shared} {σ:St},Inv X' [] σ H s->H s2.heap.objs.size=none->s.heap.get? s2.heap.objs.size=some ob ->
    Inv X' [(s2.heap.objs.size,ob)] σ H s:=fun {H s σ} I hn ho=>I.pins_of fun p hp=>by
   have e:p=(s2.heap.objs.size,ob):=by simpa using hp
   subst e
   exact⟨ho,hn,by rw[xL];exact DC,Dfs,noc⟩
  have plD:∀ p∈[((s2.heap.objs.size,ob):Addr × Obj)],p.1 ∉ fp:=fun p hp=>by
   have e:p=(s2.heap.objs.size,ob):=by simpa using hp
   subst e
   exact Dfp
  have I3':=pinD I3 hD hDo
  rcases turn i n acc H3 w3 with ⟨stop,hsz,q⟩ | ⟨go,hsz,step⟩
  ·have := T.done X' xP xw xK xc i _ s3 σ3 H3 (fun _ _ => False) I3' (fpb fr3 plD) st3 stop
   rw[xA] at this
   refine thn this fun r s4 ⟨hr,I5⟩=>?_
   subst hr
   have hDo5:=(I5.pin (s2.heap.objs.size,ob) (by rw[xpn];simp)).1
   have un:Un (frs X.stack) fp H2 H3 s2.heap s4.heap:=by
    have:=I5.base
    rw[xfs,xex,xH,xs] at this
    exact this
   have os:s4.os=s2.os:=by rw[I5.os,xs]
   have hok:HOk X.prog X.w H3 s4.heap:=by have:=I5.hok;rw[xP,xw] at this;exact this
   have IX:Inv X pins σ H3 s4:=I2.call' os un hok I5.bare fun b hb=>by
    obtain⟨_,f1,_,f3,f4,f5⟩:=f2 b hb
    exact⟨f3,f1,f4,f5⟩
   have old:∀ {b:Addr},s2.heap.objs.size<=b->(X.s₀.heap.objs.size<=b/\b≠X.env.locals/\(∀ x c,X.env.cells.lookup x=some c->c≠b)/\∀ p∈X.pn++pins,p.1≠b):=fun {b} hb=>by
    obtain⟨_,f1,_,f3,f4,f5⟩:=I2.fpOk (H':=fun _=>none) hb rfl
    exact⟨Nat.le_trans I2.sz hb,f1,f4,f5⟩
   obtain⟨d1,d2,d3,d4⟩:=old (Nat.le_refl s2.heap.objs.size)
   obtain⟨c1,c2,c3,c4⟩:=old (b:=C) (Nat.le_of_lt Dlt)
   have IY:Inv X pins σ (upd H3 s2.heap.objs.size (.dK acc)) s4:=IX.track hD d1 d2 d3 d4 ⟨hsz,dsys,vs,rv,(let ⟨es,ep,r⟩:=isD;⟨ob,es,ep,hDo5,r⟩)⟩
   obtain⟨m,hm,_⟩:=I5.loc
   rw[xL] at hm
   have hCn:H3 C=none:=by have:=I5.free;rw[xL] at this;exact this
   exact fin _ C _ s4 m IY (q _ hD) hm (by rw[upd_ne (Ne.symm DC)];exact hCn) c2 c1 c3 c4
  ·have := T.item X' xP xw xK xc i _ s3 σ3 H3 (fun _ _ => False) I3' (fpb fr3 plD) st3 go
   rw[xA] at this
   refine thn this fun r s4 ⟨u,hr,h4⟩=>?_
   subst hr
   refine thn h4 fun _ s5 ⟨x,H5,I5,r5,y5,st5,fr5⟩=>?_
   have hσn:∀ (j:Nat) v,(replicate own.length none++σ)[j]?=some (some v)->σ3[j]?=some (some v):=fun j v e=>by
    by_cases hlt:j<own.length
    ·rw [List.getElem?_append_left (by simpa using hlt), List.getElem?_replicate, if_pos hlt] at e
     cases e
    ·have hle := Nat.le_of_not_lt hlt
     rw[getElem?_append_right (by simpa using hle),length_replicate,<- hσ,getElem?_drop] at e
     rw[show own.length+(j-own.length)=j by lia] at e
     exact e
   have hlen:(replicate own.length none++σ).length=σ3.length:=by
    have e1:σ3.length=X'.N.length:=I5.len
    have e2:=I4.len
    exact e2.trans e1.symm
   have I5w:Inv X' _ (replicate own.length none++σ) H5 s5:=I5.weak hlen hσn
   have I5p:=I5w.pinned (fpb fr5 plD) (T.obj _ _ st5)
   have a1:=gg _ s5 _ H5 x u _ I5p r5 (step x H5 y5)
   rw[xP,xw,xA,xe] at a1
   refine thn a1 fun _ s6 ⟨σ6,H6,I6,d6,q6⟩=>?_
   have a2:=gt _ s6 σ6 H6 _ I6 q6
   rw[xP,xw,xA,xe] at a2
   refine thn a2 fun b s7 ⟨H7,I7,q7⟩=>?_
   have pin7:∀ {H:Hp} {s:Shared},Inv X' ([((s2.heap.objs.size,ob):Addr × Obj)]++pinsAt fp s5.heap) σ6 H s ->
     (tn (i+1) s.heap/\(∀ b∈fp,H b=none)/\H s2.heap.objs.size=none/\s.heap.get? s2.heap.objs.size=some ob/\Inv X' [] σ6 H s):=fun {H s} I=>by
    refine⟨T.keep _ _ _ st5 fun b hb o e=>(I.pin (b,o) (mem_append_right _ (mem_append_right _ (mem_pinsAt hb e)))).1,fun b hb=>?_,?_,?_,I.pins_of fun p hp=>by simp at hp⟩
    ·obtain ⟨o, e, d⟩ := T.obj _ _ st5 b hb
     exact(I.pin (b,o) (mem_append_right _ (mem_append_right _ (mem_pinsAt hb e)))).2.1
    ·exact(I.pin (s2.heap.objs.size,ob) (by rw[xpn];simp)).2.1
    ·exact(I.pin (s2.heap.objs.size,ob) (by rw[xpn];simp)).1
   cases b with
   | false =>
    obtain⟨p1,p2,p3,p4,p5⟩:=pin7 I7
    obtain⟨m',hm,w7⟩:=q7
    exact⟨m',hm,i+1,acc,σ6,H7,ob,vs,p5,d6,p1,p2,p3,p4,isD,rv,w7⟩
   | true =>
    rw[if_pos rfl] at q7 ⊢
    have a3:=gk _ s7 σ6 H7 _ I7 q7
    rw[xP,xw,xA,xe] at a3
    refine thn a3 fun y s8 ⟨v,H8,I8,r8,q8⟩=>?_
    have a4:=ge _ s8 σ6 H8 _ I8 q8
    rw[xP,xw,xA,xe] at a4
    refine thn a4 fun y2 s9 ⟨v2,H9,I9,r9,q9⟩=>?_
    obtain⟨p1,p2,p3,p4,p5⟩:=pin7 I9
    obtain⟨kk,m',ek,hm,w8⟩:=q9
    subst ek
    have hl:=rv.length
    refine wpAny_dictSet_pairs (hsz:=by lia) (kV_is r8) (let ⟨es,ep,r⟩:=isD;⟨ob,es,ep,p4,r⟩) fun h' dd' hs=>?_
    obtain⟨ob',es',ep',ho',isD'⟩:=dd'
    have I10:Inv X' [] σ6 H9 { s9 with heap:=h',toks:=s9.toks+1 }:=p5.turned (t':=s9.toks+1) (fun b o hb e=>hs.extBut b o hb e) p3 (by rw[xL];exact DC) (.inr (by rw[xs];exact Nat.le_refl _)) Dcell (fun p hp=>by rw[xpn] at hp;simp at hp)
    exact⟨m',hm,i+1,putK acc kk v2,σ6,H9,ob',_,I10,d6,T.keep _ _ _ p1 fun b hb o e=>hs.extBut b o (fun z=>Dfp (by rw[<- z];exact hb)) e,p2,p3,ho',⟨es',ep',isD'⟩,rv.put kk r9,w8⟩
 exact codeAny_compStart_dict (goal _ rfl) (T.self _ 0 _ _ _ st4 (goal _ rfl))
private theorem eval_dcomp(kx vx:Expr)(gens:List Comprehension)(scope:Scope)(pos:Pos)(env:Env):eval (.DictComp kx vx gens scope pos) env=comprehension (.DictComp kx vx gens scope pos) scope env (firstIterPos gens pos) newDict (firstAsync gens) (firstIter gens env):=by
 first | rfl | (unfold eval;rfl) | (rw[eval];rfl) | rw[eval]
def tDComp(wi:TI)(own:Nat)(g:TG)(tt:TT)(tk tv:TE):TE:=fun σ H Q=>wi σ H fun J H1=>∃ W:Nat->Nat->List (Key × V)->Hp->Prop,(∃ m,W 0 m [] H1)/\∀ i m acc H,W i m acc H ->
 (J.stop i H/\acc.length<=sizeLine/\∀ D,H D=none->Q (.ref D) (upd H D (.dK acc))) \/
 (J.go i H /\ acc.length < sizeLine /\ ∀ x H', J.yld i H x H' -> g x (List.replicate own none ++ σ) H' fun σ2 H2 => σ2.drop own = σ /\ tt σ2 H2 fun c H3 =>
  if c=true then tk σ2 H3 fun y H4=>tv σ2 H4 fun v H5=>∃ k m',y=kV k/\m'<m/\W (i+1) m' (putK acc k v) H5 else ∃ m',m'<m/\W (i+1) m' acc H3)
private theorem pe_dcomp{wi:TI}(ok:CompOk X scope M)(hc:X.calm=true)(hi:PI X tg iter wi)(hg:∀ C s2 H2 fp,PG (cxComp X scope own M C s2 H2 fp) tg g)(ht:∀ C s2 H2 fp,PTs (cxComp X scope own M C s2 H2 fp) ifs tt)
  (hek:∀ C s2 H2 fp,PE (cxComp X scope own M C s2 H2 fp) kx tk) (he:∀ C s2 H2 fp,PE (cxComp X scope own M C s2 H2 fp) vx tv) (hs:∀ x,foldedSetIterable iter X.env x=pure x:=by intro _;rfl) :
  PE X (.DictComp kx vx [⟨tg,iter,ifs,0⟩] scope pos) (tDComp wi own.length g tt tk tv):=by
 intro pins s σ H Q I h
 rw[eval_dcomp]
 refine wpAny_comprehension_free (use:=none) rfl hs (clos_for (ok.cells I)) ok.kind (fun x hx hl=>by rw[ok.uniq x hx,hl]) ?_
 refine thn (hi pins s σ H _ I h) fun v s1 h1=>thn h1 fun itv s2 h2=>?_
 obtain⟨it,fp,tn,J,H2,e,I2,T,st2,f2,W,w0,turn⟩:=h2
 subst e
 refine dcomp_core (Qf:=Q) ok hc hg ht hek he I2 T st2 f2 w0 turn fun D C H' s' m IY q hm hCn c2 c1 c3 c4=>⟨m,hm,fun h' hs'=>?_⟩
 exact⟨.ref D,H',IY.turned (t':=s'.toks) (fun b o hb e=>hs'.extBut b o hb e) hCn c2 (.inr c1) c3 c4,rfl,q⟩
end
end L2
namespace L2
inductive D where
 | non | bl (b:Bool) | int (i:Int) | str (x:Str) | ty (n:String) | tup (ds:List D) | lst (ds:List D)
 /-- a list that is known and stays -/
 | fz (ds:List D)
 /-- the list that the drawing keeps -/
 | st
 /-- a list of the frame's own (in a slot alone) -/
 | own (ds:List D)
 /-- a dict, whatever it holds -/
 | dic
 /-- a dict, known, that stays -/
 | dct (ks:List Key) (ds:List D)
def kvsV(ks:List Key)(xs:List V):List (Key × V):=List.zipWith (fun k x=>(k,x)) ks xs
abbrev hNone:Hp:=fun _=>none
def SqZ(K:W.Frag)(Z:Addr->Prop)(H:Hp)(b:Bool)(a:Addr)(xs:List V):Prop :=
 match b with
 | true=>¬ Z a/\H a=some (.lst xs)
 | false=>(¬ Z a/\Rd H a (.tup xs))\/SqT K hNone a xs
def SqF(K:W.Frag)(Z:Addr->Prop)(H:Hp)(a:Addr)(xs:List V):Prop:=(¬ Z a/\∃ o,H a=some (.frz o (.lst xs)))\/SqL K hNone a xs
mutual
def Rep(K:W.Frag)(G:Option Addr)(Z:Addr->Prop)(H:Hp):D->V->Prop
 | .non,v=>v=.non
 | .bl b,v=>v=.bl b
 | .int i,v=>v=.int i
 | .str x,v=>v=.str x
 | .ty n,v=>v=.ty n
 | .tup ds,v=>∃ a xs,v=.ref a/\SqZ K Z H false a xs/\Reps K G Z H ds xs
 | .lst ds,v=>∃ a xs,v=.ref a/\SqZ K Z H true a xs/\Reps K G Z H ds xs
 | .fz ds,v=>∃ a xs,v=.ref a/\SqF K Z H a xs/\Reps K G Z H ds xs
 | .st,v=>∃ a,G=some a/\v=.ref a
 | .own _,_=>False
 | .dic,v=>∃ a kvs,v=.ref a/\¬ Z a/\H a=some (.dK kvs)
 | .dct ks ds,v=>∃ a xs,v=.ref a/\(¬ Z a/\H a=some (.dK (kvsV ks xs)))/\Reps K G Z H ds xs
def Reps(K:W.Frag)(G:Option Addr)(Z:Addr->Prop)(H:Hp):List D->List V->Prop
 | [],vs=>vs=[]
 | d::ds,vs=>∃ v r,vs=v::r/\Rep K G Z H d v/\Reps K G Z H ds r
end
section
variable {K:W.Frag} {G:Option Addr} {Z Z':Addr->Prop} {H H':Hp}
private theorem SqT.anyH{a:Addr}{xs:List V}(h:SqT K hNone a xs):SqT K H a xs:=by
 rcases h with (h | ⟨o,h⟩) | h
 ·cases h
 ·cases h
 ·exact .inr h
private theorem SqZ.sq{b:Bool}{a:Addr}{xs:List V}(h:SqZ K Z H b a xs):SqB K b H a xs:=by
 cases b with
 | true=>exact SqL.of h.2
 | false =>
  rcases h with ⟨_,h⟩ | h
  ·exact .inl h
  ·exact SqT.anyH h
private theorem SqZ.mono{b:Bool}{a:Addr}{xs:List V}(h:SqZ K Z H b a xs)(hz:∀ a,H a≠none->Z' a->Z a)(hf:∀ a o,¬ Z a->H a=some o->H' a=some o):SqZ K Z' H' b a xs:=by
 cases b with
 | true=>exact⟨fun z=>h.1 (hz a (by rw[h.2];simp) z),hf a _ h.1 h.2⟩
 | false =>
  rcases h with ⟨n,h⟩ | h
  ·refine .inl ⟨fun z => n (hz a ?_ z), ?_⟩
   ·rcases h with h | ⟨o,h⟩<;>(rw[h];simp)
   ·rcases h with h | ⟨o, h⟩
    ·exact .inl (hf a _ n h)
    ·exact .inr ⟨o,hf a _ n h⟩
  ·exact .inr h
mutual
private theorem Rep.mono(hz:∀ a,H a≠none->Z' a->Z a)(hf:∀ a o,¬ Z a->H a=some o->H' a=some o):∀ (d:D) (v:V),Rep K G Z H d v->Rep K G Z' H' d v
 | .non,v,h=>by unfold Rep at h ⊢;exact h
 | .bl b,v,h=>by unfold Rep at h ⊢;exact h
 | .int b,v,h=>by unfold Rep at h ⊢;exact h
 | .str b,v,h=>by unfold Rep at h ⊢;exact h
 | .ty b,v,h=>by unfold Rep at h ⊢;exact h
 | .st,v,h=>by unfold Rep at h ⊢;exact h
 | .own _,v,h=>by unfold Rep at h;exact h.elim
 | .dic,v,h=>by
  unfold Rep at h ⊢
  obtain⟨a,kvs,e,n,q⟩:=h
  exact⟨a,kvs,e,fun z=>n (hz a (by rw[q];simp) z),hf a _ n q⟩
 | .dct ks ds,v,h=>by
  unfold Rep at h ⊢
  obtain⟨a,xs,e,⟨n,q⟩,r⟩:=h
  exact⟨a,xs,e,⟨fun z=>n (hz a (by rw[q];simp) z),hf a _ n q⟩,Reps.mono hz hf ds xs r⟩
 | .tup ds,v,h=>by
  unfold Rep at h ⊢
  obtain⟨a,xs,e,q,r⟩:=h
  exact⟨a,xs,e,q.mono hz hf,Reps.mono hz hf ds xs r⟩
 | .lst ds,v,h=>by
  unfold Rep at h ⊢
  obtain⟨a,xs,e,q,r⟩:=h
  exact⟨a,xs,e,q.mono hz hf,Reps.mono hz hf ds xs r⟩
 | .fz ds,v,h=>by
  unfold Rep at h ⊢
  obtain⟨a,xs,e,q,r⟩:=h
  refine⟨a,xs,e,?_,Reps.mono hz hf ds xs r⟩
  rcases q with ⟨n,o,q⟩ | q
  ·exact .inl ⟨fun z=>n (hz a (by rw[q];simp) z),o,hf a _ n q⟩
  ·exact .inr q
private theorem Reps.mono(hz:∀ a,H a≠none->Z' a->Z a)(hf:∀ a o,¬ Z a->H a=some o->H' a=some o):∀ (ds:List D) (vs:List V),Reps K G Z H ds vs->Reps K G Z' H' ds vs
 | [],vs,h=>by unfold Reps at h ⊢;exact h
 | d::ds,vs,h=>by
  unfold Reps at h ⊢
  obtain⟨v,r,e,q,t⟩:=h
  exact⟨v,r,e,Rep.mono hz hf d v q,Reps.mono hz hf ds r t⟩
end
private theorem Reps.nil:Reps K G Z H [] []:=by unfold Reps;rfl
private theorem Reps.cons{d:D}{ds:List D}{v:V}{vs:List V}(h:Rep K G Z H d v)(t:Reps K G Z H ds vs):Reps K G Z H (d::ds) (v::vs):=by unfold Reps;exact⟨v,vs,rfl,h,t⟩
private theorem Reps.inv{d:D}{ds:List D}{v:V}{vs:List V}(h:Reps K G Z H (d::ds) (v::vs)):Rep K G Z H d v/\Reps K G Z H ds vs:=by
 unfold Reps at h
 obtain⟨v',r,e,q,t⟩:=h
 cases e
 exact⟨q,t⟩
private theorem Reps.split{d:D}{ds:List D}{vs:List V}(h:Reps K G Z H (d::ds) vs):∃ v r,vs=v::r/\Rep K G Z H d v/\Reps K G Z H ds r:=by unfold Reps at h;exact h
private theorem Reps.nil_inv{vs:List V}(h:Reps K G Z H [] vs):vs=[]:=by unfold Reps at h;exact h
private theorem Reps.length:∀ {ds:List D} {vs:List V},Reps K G Z H ds vs->vs.length=ds.length
 | [],vs,h=>by rw[h.nil_inv];rfl
 | d::ds,vs,h=>by
  obtain⟨v,r,rfl,_,t⟩:=h.split
  rw[length_cons,length_cons,Reps.length t]
private theorem Reps.get:∀ {ds:List D} {vs:List V} {i:Nat} {d:D},Reps K G Z H ds vs->ds[i]?=some d->∃ v,vs[i]?=some v/\Rep K G Z H d v
 | [],vs,i,d,_,e=>by simp at e
 | c::ds,vs,0,d,h,e=>by
  obtain⟨v,r,rfl,q,t⟩:=h.split
  simp at e;subst e
  exact⟨v,rfl,q⟩
 | c::ds,vs,i+1,d,h,e=>by
  obtain⟨v,r,rfl,q,t⟩:=h.split
  obtain⟨u,e1,e2⟩:=Reps.get (i:=i) t (by simpa using e)
  exact⟨u,by simpa using e1,e2⟩
private theorem Reps.append:∀ {ds es:List D} {vs ws:List V},Reps K G Z H ds vs->Reps K G Z H es ws->Reps K G Z H (ds++es) (vs++ws)
 | [],es,vs,ws,h,h'=>by rw[h.nil_inv];exact h'
 | d::ds,es,vs,ws,h,h'=>by
  obtain⟨v,r,rfl,q,t⟩:=h.split
  exact .cons q (Reps.append t h')
private theorem Reps.drop:∀ {ds:List D} {vs:List V} (n:Nat),Reps K G Z H ds vs->Reps K G Z H (ds.drop n) (vs.drop n)
 | ds,vs,0,h=>h
 | [],vs,n+1,h=>by rw[h.nil_inv];exact .nil
 | d::ds,vs,n+1,h=>by
  obtain⟨v,r,rfl,q,t⟩:=h.split
  exact Reps.drop n t
private theorem Reps.take:∀ {ds:List D} {vs:List V} (n:Nat),Reps K G Z H ds vs->Reps K G Z H (ds.take n) (vs.take n)
 | ds,vs,0,h=>.nil
 | [],vs,n+1,h=>by rw[h.nil_inv];exact .nil
 | d::ds,vs,n+1,h=>by
  obtain⟨v,r,rfl,q,t⟩:=h.split
  exact .cons q (Reps.take n t)
end
def scalD:D->Bool
 | .non=>true | .bl _=>true | .int _=>true | .str _=>true | .ty _=>true | _=>false
def ofS:D->V
 | .bl b=>.bl b | .int i=>.int i | .str x=>.str x | .ty n=>.ty n | _=>.non
private theorem Rep.ofS{K:W.Frag}{G:Option Addr}{Z:Addr->Prop}{H:Hp}:∀ {d:D},scalD d=true->Rep K G Z H d (ofS d)
 | .non,_=>by unfold Rep;rfl
 | .bl b,_=>by unfold Rep;rfl
 | .int b,_=>by unfold Rep;rfl
 | .str b,_=>by unfold Rep;rfl
 | .ty b,_=>by unfold Rep;rfl
 | .tup ds,h=>by simp[scalD] at h
 | .lst ds,h=>by simp[scalD] at h
 | .st,h=>by simp[scalD] at h
 | .fz ds,h=>by simp[scalD] at h
 | .own ds,h=>by simp[scalD] at h
private theorem Rep.toS{K:W.Frag}{G:Option Addr}{Z:Addr->Prop}{H:Hp}{v:V}:∀ {d:D},scalD d=true->Rep K G Z H d v->v=L2.ofS d
 | .non,_,h=>by unfold Rep at h;exact h
 | .bl b,_,h=>by unfold Rep at h;exact h
 | .int b,_,h=>by unfold Rep at h;exact h
 | .str b,_,h=>by unfold Rep at h;exact h
 | .ty b,_,h=>by unfold Rep at h;exact h
 | .tup ds,h,_=>by simp[scalD] at h
 | .lst ds,h,_=>by simp[scalD] at h
 | .st,h,_=>by simp[scalD] at h
 | .fz ds,h,_=>by simp[scalD] at h
 | .own ds,h,_=>by simp[scalD] at h
private theorem Rep.int_inv{K:W.Frag}{G:Option Addr}{Z:Addr->Prop}{H:Hp}{v:V}{i:Int}(h:Rep K G Z H (.int i) v):v=.int i:=by unfold Rep at h;exact h
private theorem Rep.bl_inv{K:W.Frag}{G:Option Addr}{Z:Addr->Prop}{H:Hp}{v:V}{i:Bool}(h:Rep K G Z H (.bl i) v):v=.bl i:=by unfold Rep at h;exact h
private theorem Rep.tup_inv{K:W.Frag}{G:Option Addr}{Z:Addr->Prop}{H:Hp}{v:V}{ds:List D}(h:Rep K G Z H (.tup ds) v):∃ a xs,v=.ref a/\SqZ K Z H false a xs/\Reps K G Z H ds xs:=by unfold Rep at h;exact h
private theorem Rep.lst_inv{K:W.Frag}{G:Option Addr}{Z:Addr->Prop}{H:Hp}{v:V}{ds:List D}(h:Rep K G Z H (.lst ds) v):∃ a xs,v=.ref a/\SqZ K Z H true a xs/\Reps K G Z H ds xs:=by unfold Rep at h;exact h
private theorem Rep.fz_inv{K:W.Frag}{G:Option Addr}{Z:Addr->Prop}{H:Hp}{v:V}{ds:List D}(h:Rep K G Z H (.fz ds) v):∃ a xs,v=.ref a/\SqL K H a xs/\Reps K G Z H ds xs:=by
 unfold Rep at h
 obtain⟨a,xs,e,q,r⟩:=h
 refine⟨a,xs,e,?_,r⟩
 rcases q with ⟨_,o,q⟩ | q
 ·exact .inl (.inr ⟨o,q⟩)
 ·rcases q with (q | ⟨o, q⟩) | q
  ·cases q
  ·cases q
  ·exact .inr q
private theorem Rep.tup_mk{K:W.Frag}{G:Option Addr}{Z:Addr->Prop}{H:Hp}{a:Addr}{xs:List V}{ds:List D}(q:SqZ K Z H false a xs)(r:Reps K G Z H ds xs):Rep K G Z H (.tup ds) (.ref a):=by unfold Rep;exact⟨a,xs,rfl,q,r⟩
private theorem Rep.lst_mk{K:W.Frag}{G:Option Addr}{Z:Addr->Prop}{H:Hp}{a:Addr}{xs:List V}{ds:List D}(q:SqZ K Z H true a xs)(r:Reps K G Z H ds xs):Rep K G Z H (.lst ds) (.ref a):=by unfold Rep;exact⟨a,xs,rfl,q,r⟩
def StOk(G:Option Addr)(n:Nat)(H:Hp):Prop:=∀ a,G=some a->∃ (zs:List Int) (_ _:Nat),H a=some (.lst (zs.map V.int))/\zs.length=n/\(∀ x∈zs,0<=x)/\∀ x,zs[1]?=some x->x<2147483647
structure AC where
 K:W.Frag
 G:Option Addr
 Z0:Addr->Prop
 H0:Hp
abbrev Rho:=List (Option D)
def Zof(A:AC)(os:List (Nat × Addr)):Addr->Prop:=fun a=>A.Z0 a\/∃ p∈os,p.2=a
def SlotR(A:AC)(os:List (Nat × Addr))(H:Hp)(i:Nat):D->V->Prop
 | .own ds,v=>∃ a xs,v=.ref a/\(i,a)∈os/\H a=some (.lst xs)/\Reps A.K A.G (Zof A os) H ds xs
 | d,v=>Rep A.K A.G (Zof A os) H d v
structure AmO(A:AC)(os:List (Nat × Addr))(n:Nat)(rho:Rho)(sg:St)(H:Hp)(ds:List D)(vs:List V):Prop where
 len:rho.length=sg.length
 slot:∀ i d,rho[i]?=some (some d)->∃ v,sg[i]?=some (some v)/\SlotR A os H i d v
 pend:Reps A.K A.G (Zof A os) H ds vs
 nd:os.Pairwise fun p q=>p.1≠q.1/\p.2≠q.2
 fresh:∀ p∈os,A.H0 p.2=none/\¬ A.Z0 p.2/\H p.2≠none
 st:StOk A.G n H
 gz:∀ a,A.G=some a->A.Z0 a
 fr:∀ a o,A.G≠some a->A.H0 a=some o->H a=some o
 z0:∀ a,A.Z0 a->A.H0 a≠none
def Am(A:AC)(n:Nat)(rho:Rho)(sg:St)(H:Hp)(ds:List D)(vs:List V):Prop:=∃ os,AmO A os n rho sg H ds vs
section
variable {A:AC} {os:List (Nat × Addr)} {n:Nat} {rho:Rho} {sg:St} {H:Hp} {ds:List D} {vs:List V} {d:D} {v:V}
private theorem AmO.zH(I:AmO A os n rho sg H ds vs):∀ a,Zof A os a->H a≠none:=fun a h=>by
 rcases h with h | ⟨p,hp,rfl⟩
 ·by_cases e : A.G = some a
  ·obtain ⟨x, y, z, q, _⟩ := I.st a e
   rw[q];simp
  ·cases q : A.H0 a with
   | none=>exact absurd q (I.z0 a h)
   | some o=>rw[I.fr a o e q];simp
 ·exact(I.fresh p hp).2.2
private theorem SlotR.mono{os':List (Nat × Addr)}{H':Hp}{i:Nat}(hz:∀ a,H a≠none->Zof A os' a->Zof A os a)(hf:∀ a o,¬ Zof A os a->H a=some o->H' a=some o)
  (ho:∀ a xs,(i,a)∈os->H a=some (.lst xs)->(i,a)∈os'/\H' a=some (.lst xs)):∀ (d:D) (v:V),SlotR A os H i d v->SlotR A os' H' i d v
 | .own ds,v,h=>by
  obtain⟨a,xs,e,m,q,r⟩:=h
  obtain⟨m',q'⟩:=ho a xs m q
  exact⟨a,xs,e,m',q',Reps.mono hz hf ds xs r⟩
 | .non,v,h=>Rep.mono hz hf _ _ h
 | .bl _,v,h=>Rep.mono hz hf _ _ h
 | .int _,v,h=>Rep.mono hz hf _ _ h
 | .str _,v,h=>Rep.mono hz hf _ _ h
 | .ty _,v,h=>Rep.mono hz hf _ _ h
 | .tup _,v,h=>Rep.mono hz hf _ _ h
 | .lst _,v,h=>Rep.mono hz hf _ _ h
 | .st,v,h=>Rep.mono hz hf _ _ h
 | .fz _,v,h=>Rep.mono hz hf _ _ h
 | .dic,v,h=>Rep.mono hz hf _ _ h
 | .dct _ _,v,h=>Rep.mono hz hf _ _ h
def notOwn:D->Bool
 | .own _=>false
 | _=>true
private theorem SlotR.rep{i:Nat}:∀ {d:D} {v:V},notOwn d=true->SlotR A os H i d v->Rep A.K A.G (Zof A os) H d v
 | .own _,_,h,_=>by simp[notOwn] at h
 | .non,_,_,h=>h
 | .bl _,_,_,h=>h
 | .int _,_,_,h=>h
 | .str _,_,_,h=>h
 | .ty _,_,_,h=>h
 | .tup _,_,_,h=>h
 | .lst _,_,_,h=>h
 | .st,_,_,h=>h
 | .fz _,_,_,h=>h
 | .dic,_,_,h=>h
 | .dct _ _,_,_,h=>h
private theorem SlotR.of{i:Nat}:∀ {d:D} {v:V},Rep A.K A.G (Zof A os) H d v->SlotR A os H i d v
 | .own _,_,h=>by unfold Rep at h;exact h.elim
 | .non,_,h=>h
 | .bl _,_,h=>h
 | .int _,_,h=>h
 | .str _,_,h=>h
 | .ty _,_,h=>h
 | .tup _,_,h=>h
 | .lst _,_,h=>h
 | .st,_,h=>h
 | .fz _,_,h=>h
 | .dic,_,h=>h
 | .dct _ _,_,h=>h
private theorem AmO.push(I:AmO A os n rho sg H ds vs)(h:Rep A.K A.G (Zof A os) H d v):AmO A os n rho sg H (d::ds) (v::vs) :=
 ⟨I.len,I.slot,.cons h I.pend,I.nd,I.fresh,I.st,I.gz,I.fr,I.z0⟩
private theorem AmO.pends{es:List D}{ws:List V}(I:AmO A os n rho sg H ds vs)(h:Reps A.K A.G (Zof A os) H es ws):AmO A os n rho sg H es ws :=
 ⟨I.len,I.slot,h,I.nd,I.fresh,I.st,I.gz,I.fr,I.z0⟩
private theorem AmO.pop(I:AmO A os n rho sg H (d::ds) (v::vs)):AmO A os n rho sg H ds vs/\Rep A.K A.G (Zof A os) H d v:=⟨I.pends I.pend.inv.2,I.pend.inv.1⟩
private theorem AmO.grow{p:Addr}{o:HO}(I:AmO A os n rho sg H ds vs)(hp:H p=none):AmO A os n rho sg (upd H p o) ds vs:=by
 have hf:∀ a u,H a=some u->upd H p o a=some u:=fun a u e=>by rw[upd_ne (ne_of_none e hp)];exact e
 refine⟨I.len,fun i d e=>?_,Reps.mono (fun _ _ z=>z) (fun a u _ e=>hf a u e) _ _ I.pend,I.nd,fun q hq=>?_,fun a e=>?_,I.gz,fun a u h e=>hf a u (I.fr a u h e),I.z0⟩
 ·obtain ⟨v, e1, e2⟩ := I.slot i d e
  exact⟨v,e1,SlotR.mono (fun _ _ z=>z) (fun a u _ e=>hf a u e) (fun a xs m q=>⟨m,hf a _ q⟩) _ _ e2⟩
 ·obtain ⟨f1, f2, f3⟩ := I.fresh q hq
  refine⟨f1,f2,?_⟩
  cases e:H q.2 with
  | none=>exact absurd e f3
  | some u=>rw[hf _ _ e];simp
 ·obtain ⟨x, y, z, q, r⟩ := I.st a e
  exact⟨x,y,z,hf _ _ q,r⟩
private theorem AmO.newTup{p:Addr}{es:List D}{xs:List V}(I:AmO A os n rho sg H ds vs)(r:Reps A.K A.G (Zof A os) H es xs)(hp:H p=none):AmO A os n rho sg (upd H p (.tup xs)) (.tup es::ds) (.ref p::vs):=by
 have g:=I.grow (o:=.tup xs) hp
 refine g.push (.tup_mk (.inl ⟨fun z=>I.zH p z hp,.inl upd_same⟩) ?_)
 exact Reps.mono (fun _ _ z=>z) (fun a u _ e=>by rw[upd_ne (ne_of_none e hp)];exact e) _ _ r
private theorem AmO.newLst{p:Addr}{es:List D}{xs:List V}(I:AmO A os n rho sg H ds vs)(r:Reps A.K A.G (Zof A os) H es xs)(hp:H p=none):AmO A os n rho sg (upd H p (.lst xs)) (.lst es::ds) (.ref p::vs):=by
 have g:=I.grow (o:=.lst xs) hp
 refine g.push (.lst_mk ⟨fun z=>I.zH p z hp,upd_same⟩ ?_)
 exact Reps.mono (fun _ _ z=>z) (fun a u _ e=>by rw[upd_ne (ne_of_none e hp)];exact e) _ _ r
private theorem AmO.set{i:Nat}(I:AmO A os n rho sg H (d::ds) (v::vs))(hi:i<rho.length):AmO A (os.filter fun p=>decide (p.1≠i)) n (rho.set i (some d)) (sg.set i (some v)) H ds vs:=by
 obtain⟨J,hr⟩:=I.pop
 have sub:∀ a,H a≠none->Zof A (os.filter fun p=>decide (p.1≠i)) a->Zof A os a:=fun a _ z=>by
  rcases z with z | ⟨p,hp,e⟩
  ·exact .inl z
  ·exact .inr ⟨p,(List.mem_filter.mp hp).1,e⟩
 refine⟨by simp[I.len],fun j c e=>?_,Reps.mono sub (fun _ _ _ e=>e) _ _ J.pend,I.nd.filter _,fun p hp=>I.fresh p (List.mem_filter.mp hp).1,I.st,I.gz,I.fr,I.z0⟩
 by_cases hj:j=i
 ·subst hj
  rw[getElem?_set_self hi] at e
  cases e
  exact⟨v,getElem?_set_self (by rw[<- I.len];exact hi),SlotR.of (Rep.mono sub (fun _ _ _ e=>e) _ _ hr)⟩
 ·rw [List.getElem?_set_ne (Ne.symm hj)] at e
  obtain⟨u,e1,e2⟩:=I.slot j c e
  exact⟨u,by rw[getElem?_set_ne (Ne.symm hj)];exact e1,SlotR.mono sub (fun _ _ _ e=>e) (fun a xs m q=>⟨List.mem_filter.mpr ⟨m,by simpa using hj⟩,q⟩) _ _ e2⟩
end
abbrev TD:=Rho->Nat->(D->Nat->Prop)->Prop
abbrev TBD:=Rho->Nat->(Bool->Nat->Prop)->Prop
abbrev TAD:=Rho->Nat->(List D->Nat->Prop)->Prop
def tOf(A:AC)(t:TD):TE:=fun sg H Q=>∃ rho n P ds vs,Am A n rho sg H ds vs/\t rho n P/\∀ v H' n' d,Am A n' rho sg H' (d::ds) (v::vs)->P d n'->Q v H'
def ttOf(A:AC)(t:TBD):TT:=fun sg H Q=>∃ rho n P ds vs,Am A n rho sg H ds vs/\t rho n P/\∀ b H' n',Am A n' rho sg H' ds vs->P b n'->Q b H'
def taOf(A:AC)(t:TAD):TA:=fun sg H Q=>∃ rho n P ds vs,Am A n rho sg H ds vs/\t rho n P/\∀ ws H' n' es,Am A n' rho sg H' (es++ds) (ws++vs)->ws.length=es.length->P es n'->Q ws H'
@[irreducible] def PD(A:AC)(X:Cx)(e:Expr)(t:TD):Prop:=PE X e (tOf A t)
@[irreducible] def PTD(A:AC)(X:Cx)(e:Expr)(t:TBD):Prop:=PT X e (ttOf A t)
@[irreducible] def PWD(A:AC)(X:Cx)(e:Expr)(t:TBD):Prop:=PW X e (ttOf A t)
@[irreducible] def PAD(A:AC)(X:Cx)(es:List Expr)(t:TAD):Prop:=PA X es (taOf A t)
private theorem PE.imp{X:Cx}{e:Expr}{t t':TE}(h:PE X e t)(hi:∀ sg H Q,t' sg H Q->t sg H Q):PE X e t':=fun pins s sg H Q I q=>h pins s sg H Q I (hi _ _ _ q)
private theorem PT.imp{X:Cx}{e:Expr}{t t':TT}(h:PT X e t)(hi:∀ sg H Q,t' sg H Q->t sg H Q):PT X e t':=fun pins s sg H Q I q=>h pins s sg H Q I (hi _ _ _ q)
private theorem PW.imp{X:Cx}{e:Expr}{t t':TT}(h:PW X e t)(hi:∀ sg H Q,t' sg H Q->t sg H Q):PW X e t':=fun wh pins s sg H Q I q=>h wh pins s sg H Q I (hi _ _ _ q)
private theorem PA.imp{X:Cx}{e:List Expr}{t t':TA}(h:PA X e t)(hi:∀ sg H Q,t' sg H Q->t sg H Q):PA X e t':=fun ps pins s sg H Q I q=>h ps pins s sg H Q I (hi _ _ _ q)
private theorem PS.imp{X:Cx}{e:Stmt}{t t':TS}(h:PS X e t)(hi:∀ E sg H,t' E sg H->t E sg H):PS X e t':=fun pins s sg H Q I q=>h pins s sg H Q I (hi _ _ _ q)
private theorem PSs.imp{X:Cx}{e:List Stmt}{t t':TS}(h:PSs X e t)(hi:∀ E sg H,t' E sg H->t E sg H):PSs X e t':=fun pins s sg H Q I q=>h pins s sg H Q I (hi _ _ _ q)
end L2
namespace L2
section
variable {A:AC} {X:Cx} {a b c e:Expr} {es:List Expr} {ta tb tc:TD} {pos:Pos}
def atD(d:D)(k:D->Prop):Prop:=match d with
 | .own _=>False
 | .non=>k .non
 | .bl b=>k (.bl b)
 | .int b=>k (.int b)
 | .str b=>k (.str b)
 | .ty b=>k (.ty b)
 | .tup b=>k (.tup b)
 | .lst b=>k (.lst b)
 | .fz b=>k (.fz b)
 | .st=>k .st
 | .dic=>k .dic
 | .dct a b=>k (.dct a b)
private theorem atD_inv{d:D}{k:D->Prop}(h:atD d k):notOwn d=true/\k d:=by
 cases d<;>first | exact⟨rfl,h⟩ | exact h.elim
private theorem atD_mk{d:D}{k:D->Prop}(h:notOwn d=true)(q:k d):atD d k:=by
 cases d<;>first | exact q | (simp[notOwn] at h;done)
def atV(o:Option (Option D))(k:D->Prop):Prop:=match o with | some (some d)=>atD d k | _=>False
private theorem atV_inv{o:Option (Option D)}{k:D->Prop}(h:atV o k):∃ d,o=some (some d)/\notOwn d=true/\k d:=by
 match o,h with
 | some (some d),h=>exact⟨d,rfl,atD_inv h⟩
def dVar(i:Nat):TD:=fun rho n P=>atV rho[i]? fun d=>P d n
def dC(d:D):TD:=fun _ n P=>P d n
private theorem pd_var(i:Nat){x:Str}(hN:X.N[i]?=some x:=by rfl)(hv:Vis X.env.scope x:=by first | exact Or.inl rfl | exact Or.inr (Or.inl rfl) | exact Or.inr (Or.inr rfl))(hd:(x == ("__debug__" : Str))=false:=by decide)
  (hcd:(x == ("__classdict__" : Str))=false:=by decide):PD A X (.Name x pos) (dVar i):=by
 with_unfolding_all
  exact(pe_var hN hv hd hcd).imp fun sg H Q h=>by
   obtain⟨rho,n,P,ds,vs,⟨os,I⟩,hh,hQ⟩:=h
   obtain⟨d,e,hd,q⟩:=atV_inv hh
   obtain⟨v,e1,e2⟩:=I.slot i d e
   exact⟨v,e1,hQ v H n d ⟨os,I.push (e2.rep hd)⟩ q⟩
private theorem dC_ok{d:D}(hs:scalD d=true){t:TE}(ht:∀ sg H Q,Q (ofS d) H->t sg H Q)(h:PE X e t):PD A X e (dC d):=by
 with_unfolding_all
  exact h.imp fun sg H Q q=>by
   obtain⟨rho,n,P,ds,vs,⟨os,I⟩,q,hQ⟩:=q
   exact ht _ _ _ (hQ _ H n d ⟨os,I.push (Rep.ofS hs)⟩ q)
private theorem pd_int{i:Int}{j:Nat}:PD A X (.Constant (.int i) j pos) (dC (.int i)):=by
 with_unfolding_all
  exact dC_ok rfl (fun _ _ _ q=>q) pe_int
private theorem pd_bl{i:Bool}{j:Nat}:PD A X (.Constant (.bool i) j pos) (dC (.bl i)):=by
 with_unfolding_all
  exact dC_ok rfl (fun _ _ _ q=>q) pe_bl
private theorem pd_non{j:Nat}:PD A X (.Constant .none j pos) (dC .non):=by
 with_unfolding_all
  exact dC_ok rfl (fun _ _ _ q=>q) pe_non
private theorem pd_str{x:Str}{j:Nat}:PD A X (.Constant (.str x) j pos) (dC (.str x)):=by
 with_unfolding_all
  exact dC_ok rfl (fun _ _ _ q=>q) pe_str
abbrev RD2:=D->D->(D->Prop)->Prop
def OpRel(A:AC)(r:R2)(rd:RD2):Prop :=
 ∀ os n rho sg H ds vs d1 d2 v1 v2 (k:D->Prop) (Q:VK),AmO A os n rho sg H (d2::d1::ds) (v2::v1::vs)->rd d1 d2 k->(∀ v H' d,Am A n rho sg H' (d::ds) (v::vs)->k d->Q v H')->r v1 v2 H Q
def dOp(rd:RD2)(ta tb:TD):TD:=fun rho n P=>ta rho n fun d1 n1=>tb rho n1 fun d2 n2=>rd d1 d2 fun d=>P d n2
def dTest(t:TD):TBD:=fun rho n P=>t rho n fun d n'=>∃ b,d=.bl b/\P b n'
private theorem tOp_of{r:R2}{rd:RD2}(hr:OpRel A r rd){sg:St}{H:Hp}{Q:VK}(h:tOf A (dOp rd ta tb) sg H Q):tOp r (tOf A ta) (tOf A tb) sg H Q:=by
 obtain⟨rho,n,P,ds,vs,I,ht,hQ⟩:=h
 exact⟨rho,n,_,ds,vs,I,ht,fun v1 H1 n1 d1 I1 h1=>⟨rho,n1,_,d1::ds,v1::vs,I1,h1,fun v2 H2 n2 d2 ⟨os2,I2⟩ h2=>hr _ _ _ _ _ _ _ _ _ _ _ _ Q I2 h2 fun v H' d J k=>hQ v H' n2 d J k⟩⟩
private theorem tTest_of{t:TE}{td:TD}(h:∀ sg H Q,tOf A td sg H Q->t sg H Q){sg:St}{H:Hp}{Q:Bool->Hp->Prop}(q:ttOf A (dTest td) sg H Q):tTest t sg H Q:=by
 obtain⟨rho,n,P,ds,vs,I,ht,hQ⟩:=q
 refine h _ _ _ ⟨rho,n,_,ds,vs,I,ht,fun v H' n' d ⟨os,J⟩ k=>?_⟩
 obtain⟨b,rfl,k⟩:=k
 obtain⟨J1,r⟩:=J.pop
 exact⟨b,r.bl_inv,hQ b H' n' ⟨os,J1⟩ k⟩
private theorem pd_op{op:Operator}{r:R2}{rd:RD2}(ho:OpR X (binaryOp op) r)(hr:OpRel A r rd)(ha:PD A X a ta)(hb:PD A X b tb):PD A X (.BinOp a op b pos) (dOp rd ta tb):=by
 with_unfolding_all
  exact(pe_op ho ha hb).imp fun _ _ _=>tOp_of hr
private theorem pd_cmp{op:CmpOp}{r:R2}{rd:RD2}(ho:OpR X (compareOp op) r)(hr:OpRel A r rd)(ha:PD A X a ta)(hb:PD A X b tb)(hm:behindInMarks op b=false):PD A X (.Compare a [op] [b] pos) (dOp rd ta tb):=by
 with_unfolding_all
  exact(pe_cmpR ho ha hb hm).imp fun _ _ _=>tOp_of hr
private theorem ptd_cmp{op:CmpOp}{r:R2}{rd:RD2}(ho:OpR X (compareOp op) r)(hr:OpRel A r rd)(ha:PD A X a ta)(hb:PD A X b tb)(hm:behindInMarks op b=false):PTD A X (.Compare a [op] [b] pos) (dTest (dOp rd ta tb)):=by
 with_unfolding_all
  exact
   (pt_cmpR ho ha hb hm).imp fun _ _ _=>tTest_of fun _ _ _=>tOp_of hr
private theorem pd_ix{r:R2}{rd:RD2}(hi:IxR X r)(hr:OpRel A r rd)(ha:PD A X a ta)(hb:PD A X b tb)(hs:PlainIx b):PD A X (.Subscript a b pos) (dOp rd ta tb):=by
 with_unfolding_all
  exact(pe_ix hi ha hb hs).imp fun _ _ _=>tOp_of hr
private theorem ptd_val(ha:PD A X a ta)(he:∀ whole,isTrue a X.env whole=(do let v <- whole;standAt a.pos;holding [v] (truthy v)):=by intro _;rfl):PTD A X a (dTest ta):=by
 with_unfolding_all
  exact(pt_val ha he).imp fun _ _ _=>tTest_of fun _ _ _ q=>q
def rdI(C:Int->Int->Prop)(g:Int->Int->D):RD2:=fun d1 d2 k=>match d1,d2 with | .int i,.int j=>C i j/\k (g i j) | _,_=>False
private theorem rdI_inv{C:Int->Int->Prop}{g:Int->Int->D}{d1 d2:D}{k:D->Prop}(h:rdI C g d1 d2 k):∃ i j,d1=.int i/\d2=.int j/\C i j/\k (g i j):=by
 unfold rdI at h
 split at h
 ·exact⟨_,_,rfl,rfl,h⟩
 ·exact h.elim
def rdI0(g:Int->Int->D):RD2:=fun d1 d2 k=>match d1,d2 with | .int i,.int j=>k (g i j) | _,_=>False
private theorem rdI0_inv{g:Int->Int->D}{d1 d2:D}{k:D->Prop}(h:rdI0 g d1 d2 k):∃ i j,d1=.int i/\d2=.int j/\k (g i j):=by
 unfold rdI0 at h
 split at h
 ·exact⟨_,_,rfl,rfl,h⟩
 ·exact h.elim
private theorem rel_I{C:Int->Int->Prop}{g:Int->Int->V}{gd:Int->Int->D}(hs:∀ i j,scalD (gd i j)=true)(hg:∀ i j,ofS (gd i j)=g i j):OpRel A (rI C g) (rdI C gd):=by
 rintro os n rho sg H ds vs d1 d2 v1 v2 k Q I hh hQ
 obtain⟨i,j,rfl,rfl,hc,q⟩:=rdI_inv hh
 obtain⟨I1,r2⟩:=I.pop
 obtain⟨I2,r1⟩:=I1.pop
 exact⟨i,j,r1.int_inv,r2.int_inv,hc,hQ _ H _ ⟨os,I2.push (by rw[<- hg];exact Rep.ofS (hs i j))⟩ q⟩
private theorem rel_I0{g:Int->Int->V}{gd:Int->Int->D}(hs:∀ i j,scalD (gd i j)=true)(hg:∀ i j,ofS (gd i j)=g i j):OpRel A (rI0 g) (rdI0 gd):=by
 rintro os n rho sg H ds vs d1 d2 v1 v2 k Q I hh hQ
 obtain⟨i,j,rfl,rfl,q⟩:=rdI0_inv hh
 obtain⟨I1,r2⟩:=I.pop
 obtain⟨I2,r1⟩:=I1.pop
 exact⟨i,j,r1.int_inv,r2.int_inv,hQ _ H _ ⟨os,I2.push (by rw[<- hg];exact Rep.ofS (hs i j))⟩ q⟩
abbrev dAdd:TD->TD->TD:=dOp (rdI0 fun i j=>.int (i+j))
abbrev dSub:TD->TD->TD:=dOp (rdI0 fun i j=>.int (i-j))
abbrev dMul:TD->TD->TD:=dOp (rdI CMul fun i j=>.int (i*j))
abbrev dMod:TD->TD->TD:=dOp (rdI (fun _ j=>0<j) fun i j=>.int (i%j))
abbrev dDiv:TD->TD->TD:=dOp (rdI CDiv fun i j=>.int (i/j))
abbrev dPow:TD->TD->TD:=dOp (rdI CPow fun i j=>.int (i^j.toNat))
private theorem pd_add(ha:PD A X a ta)(hb:PD A X b tb):PD A X (.BinOp a .Add b pos) (dAdd ta tb):=by
 with_unfolding_all
  exact pd_op op_add (rel_I0 (fun _ _=>rfl) fun _ _=>rfl) ha hb
private theorem pd_sub(ha:PD A X a ta)(hb:PD A X b tb):PD A X (.BinOp a .Sub b pos) (dSub ta tb):=by
 with_unfolding_all
  exact pd_op op_sub (rel_I0 (fun _ _=>rfl) fun _ _=>rfl) ha hb
private theorem pd_mul(ha:PD A X a ta)(hb:PD A X b tb):PD A X (.BinOp a .Mult b pos) (dMul ta tb):=by
 with_unfolding_all
  exact pd_op op_mul (rel_I (fun _ _=>rfl) fun _ _=>rfl) ha hb
private theorem pd_mod(ha:PD A X a ta)(hb:PD A X b tb):PD A X (.BinOp a .Mod b pos) (dMod ta tb):=by
 with_unfolding_all
  exact pd_op op_mod (rel_I (fun _ _=>rfl) fun _ _=>rfl) ha hb
private theorem pd_div(ha:PD A X a ta)(hb:PD A X b tb):PD A X (.BinOp a .FloorDiv b pos) (dDiv ta tb):=by
 with_unfolding_all
  exact pd_op op_fdiv (rel_I (fun _ _=>rfl) fun _ _=>rfl) ha hb
private theorem pd_pow(ha:PD A X a ta)(hb:PD A X b tb):PD A X (.BinOp a .Pow b pos) (dPow ta tb):=by
 with_unfolding_all
  exact pd_op op_pow (rel_I (fun _ _=>rfl) fun _ _=>rfl) ha hb
abbrev rdLt:RD2:=rdI0 fun i j=>.bl (decide (i<j))
abbrev rdLe:RD2:=rdI0 fun i j=>.bl (decide (i<=j))
abbrev rdGt:RD2:=rdI0 fun i j=>.bl (decide (j<i))
abbrev rdGe:RD2:=rdI0 fun i j=>.bl (decide (j<=i))
private theorem re_lt:OpRel A (rI0 fun i j=>.bl (decide (i<j))) rdLt:=rel_I0 (g:=fun i j=>.bl (decide (i<j))) (fun _ _=>rfl) fun _ _=>rfl
private theorem re_le:OpRel A (rI0 fun i j=>.bl (decide (i<=j))) rdLe:=rel_I0 (g:=fun i j=>.bl (decide (i<=j))) (fun _ _=>rfl) fun _ _=>rfl
private theorem re_gt:OpRel A (rI0 fun i j=>.bl (decide (j<i))) rdGt:=rel_I0 (g:=fun i j=>.bl (decide (j<i))) (fun _ _=>rfl) fun _ _=>rfl
private theorem re_ge:OpRel A (rI0 fun i j=>.bl (decide (j<=i))) rdGe:=rel_I0 (g:=fun i j=>.bl (decide (j<=i))) (fun _ _=>rfl) fun _ _=>rfl
def rdEq:RD2:=fun d1 d2 k=>scalD d1=true/\scalD d2=true/\scal (ofS d1) (ofS d2)=true/\k (.bl (decide (ofS d1=ofS d2)))
def rdNe:RD2:=fun d1 d2 k=>scalD d1=true/\scalD d2=true/\scal (ofS d1) (ofS d2)=true/\k (.bl (!decide (ofS d1=ofS d2)))
private theorem re_eq:OpRel A rEq rdEq:=by
 rintro os n rho sg H ds vs d1 d2 v1 v2 k Q I ⟨h1,h2,h3,q⟩ hQ
 obtain⟨I1,r2⟩:=I.pop
 obtain⟨I2,r1⟩:=I1.pop
 rw[r1.toS h1,r2.toS h2]
 exact⟨h3,hQ _ H _ ⟨os,I2.push (Rep.ofS rfl)⟩ q⟩
def isNon:D->Bool
 | .non=>true
 | _=>false
private theorem Rep.non_iff{K:W.Frag}{G:Option Addr}{Z:Addr->Prop}{H:Hp}{v:V}:∀ {d:D},Rep K G Z H d v->decide (v=.non)=isNon d
 | .non,h=>by unfold Rep at h;rw[h];rfl
 | .bl b,h=>by unfold Rep at h;rw[h];rfl
 | .int b,h=>by unfold Rep at h;rw[h];rfl
 | .str b,h=>by unfold Rep at h;rw[h];rfl
 | .ty b,h=>by unfold Rep at h;rw[h];rfl
 | .st,h=>by unfold Rep at h;obtain⟨a,_,h⟩:=h;rw[h];rfl
 | .tup ds,h=>by obtain⟨a,xs,h,_⟩:=h.tup_inv;rw[h];rfl
 | .lst ds,h=>by obtain⟨a,xs,h,_⟩:=h.lst_inv;rw[h];rfl
 | .own ds,h=>by unfold Rep at h;exact h.elim
 | .fz ds,h=>by obtain⟨a,xs,h,_⟩:=h.fz_inv;rw[h];rfl
 | .dic,h=>by unfold Rep at h;obtain⟨a,kvs,h,_⟩:=h;rw[h];rfl
 | .dct _ _,h=>by unfold Rep at h;obtain⟨a,xs,h,_⟩:=h;rw[h];rfl
def rdIsN:RD2:=fun d1 d2 k=>d2=.non/\k (.bl (isNon d1))
def rdNotN:RD2:=fun d1 d2 k=>d2=.non/\k (.bl (!isNon d1))
private theorem re_isN:OpRel A (fun x y H Q=>y=.non/\Q (.bl (decide (x=.non))) H) rdIsN:=by
 rintro os n rho sg H ds vs d1 d2 v1 v2 k Q I ⟨rfl,q⟩ hQ
 obtain⟨I1,r2⟩:=I.pop
 obtain⟨I2,r1⟩:=I1.pop
 have e:v2=.non:=r2.toS rfl
 exact⟨e,by rw[r1.non_iff];exact hQ _ H _ ⟨os,I2.push (Rep.ofS (d:=.bl (isNon d1)) rfl)⟩ q⟩
private theorem re_notN:OpRel A (fun x y H Q=>y=.non/\Q (.bl (!decide (x=.non))) H) rdNotN:=by
 rintro os n rho sg H ds vs d1 d2 v1 v2 k Q I ⟨rfl,q⟩ hQ
 obtain⟨I1,r2⟩:=I.pop
 obtain⟨I2,r1⟩:=I1.pop
 have e:v2=.non:=r2.toS rfl
 exact⟨e,by rw[r1.non_iff];exact hQ _ H _ ⟨os,I2.push (Rep.ofS (d:=.bl (!isNon d1)) rfl)⟩ q⟩
def rdB(f:Bool->Bool->Bool):RD2:=fun d1 d2 k=>match d1,d2 with | .bl c,.bl d=>k (.bl (f c d)) | _,_=>False
def rdIx:RD2:=fun d1 d2 k=>∃ es i d,(d1=.lst es\/d1=.tup es\/d1=.fz es)/\d2=.int i/\atI es i=some d/\k d
private theorem atI_rep{K:W.Frag}{G:Option Addr}{Z:Addr->Prop}{H:Hp}{es:List D}{xs:List V}{i:Int}{d:D}(h:Reps K G Z H es xs)(e:atI es i=some d):∃ v,atI xs i=some v/\Rep K G Z H d v:=by
 unfold atI at e ⊢
 rw[h.length]
 cases q:ixN es.length i with
 | none=>rw[q] at e;cases e
 | some j =>
  rw[q] at e
  exact h.get (i:=j) e
private theorem re_ix:OpRel A (rIx A.K) rdIx:=by
 rintro os n rho sg H ds vs d1 d2 v1 v2 k Q I ⟨es,i,d,h1,rfl,h2,q⟩ hQ
 obtain⟨I1,r2⟩:=I.pop
 obtain⟨I2,r1⟩:=I1.pop
 rcases h1 with rfl | rfl | rfl
 ·obtain ⟨a, xs, e, sq, rs⟩ := r1.lst_inv
  obtain⟨v,e1,rv⟩:=atI_rep rs h2
  exact .inl ⟨a,xs,i,v,e,r2.int_inv,sq.sq,e1,hQ v H d ⟨os,I2.push rv⟩ q⟩
 ·obtain ⟨a, xs, e, sq, rs⟩ := r1.tup_inv
  obtain⟨v,e1,rv⟩:=atI_rep rs h2
  exact .inr (.inl ⟨a,xs,i,v,e,r2.int_inv,sq.sq,e1,hQ v H d ⟨os,I2.push rv⟩ q⟩)
 ·obtain ⟨a, xs, e, sq, rs⟩ := r1.fz_inv
  obtain⟨v,e1,rv⟩:=atI_rep rs h2
  exact .inl ⟨a,xs,i,v,e,r2.int_inv,sq,e1,hQ v H d ⟨os,I2.push rv⟩ q⟩
def rdCat:RD2:=fun d1 d2 k=>∃ es fs,d1=.lst es/\d2=.lst fs/\es.length+fs.length<=sizeLine/\k (.lst (es++fs))
def rdRepT:RD2:=fun d1 d2 k=>∃ es i,d1=.tup es/\d2=.int i/\es≠[]/\1<=i/\es.length*i.toNat<=sizeLine/\k (.tup (replicate i.toNat es).flatten)
private theorem pd_neg(ha:PD A X a ta):PD A X (.UnaryOp .USub a pos) (fun rho n P=>ta rho n fun d n'=>∃ i,d=.int i/\P (.int (-i)) n'):=by
 with_unfolding_all
  exact(pe_un un_neg ha).imp fun sg H Q h=>by
   obtain⟨rho,n,P,ds,vs,I,ht,hQ⟩:=h
   refine⟨rho,n,_,ds,vs,I,ht,fun v H' n' d ⟨os,J⟩ k=>?_⟩
   obtain⟨i,rfl,k⟩:=k
   obtain⟨J1,r⟩:=J.pop
   exact⟨i,r.int_inv,hQ _ H' n' _ ⟨os,J1.push (Rep.ofS (d:=.int (-i)) rfl)⟩ k⟩
variable {t u:TBD} {rest:List Expr}
def bAnd(t u:TBD):TBD:=fun rho n P=>t rho n fun c n1=>if c=true then u rho n1 P else P false n1
def bOr(t u:TBD):TBD:=fun rho n P=>t rho n fun c n1=>if c=true then P true n1 else u rho n1 P
def bNot(t:TBD):TBD:=fun rho n P=>t rho n fun c n1=>P (!c) n1
private theorem pwd_and1(ha:PTD A X a t):PWD A X (.BoolOp .And [a] pos) t:=by
 with_unfolding_all
  exact pw_and1 ha
private theorem pwd_or1(ha:PTD A X a t):PWD A X (.BoolOp .Or [a] pos) t:=by
 with_unfolding_all
  exact pw_or1 ha
private theorem pwd_and(ha:PTD A X a t)(hb:PWD A X (.BoolOp .And (b::rest) pos) u):PWD A X (.BoolOp .And (a::b::rest) pos) (bAnd t u):=by
 with_unfolding_all
  exact(pw_and ha hb).imp fun sg H Q h=>by
   obtain⟨rho,n,P,ds,vs,I,ht,hQ⟩:=h
   refine⟨rho,n,_,ds,vs,I,ht,fun c H' n' J k=>?_⟩
   cases c with
   | true=>exact⟨rho,n',P,ds,vs,J,k,hQ⟩
   | false=>exact hQ _ _ _ J k
private theorem pwd_or(ha:PTD A X a t)(hb:PWD A X (.BoolOp .Or (b::rest) pos) u):PWD A X (.BoolOp .Or (a::b::rest) pos) (bOr t u):=by
 with_unfolding_all
  exact(pw_or ha hb).imp fun sg H Q h=>by
   obtain⟨rho,n,P,ds,vs,I,ht,hQ⟩:=h
   refine⟨rho,n,_,ds,vs,I,ht,fun c H' n' J k=>?_⟩
   cases c with
   | false=>exact⟨rho,n',P,ds,vs,J,k,hQ⟩
   | true=>exact hQ _ _ _ J k
private theorem PWD.pt(h:PWD A X e t):PTD A X e t:=by
 with_unfolding_all
  exact PW.pt h
private theorem ptd_not(ha:PTD A X a t):PTD A X (.UnaryOp .Not a pos) (bNot t):=by
 with_unfolding_all
  exact(pt_not ha).imp fun sg H Q h=>by
   obtain⟨rho,n,P,ds,vs,I,ht,hQ⟩:=h
   exact⟨rho,n,_,ds,vs,I,ht,fun c H' n' J k=>hQ _ _ _ J k⟩
def dAnd(ta tb:TD):TD:=fun rho n P=>ta rho n fun d n1=>∃ c,d=.bl c/\if c=true then tb rho n1 P else P (.bl false) n1
def dOr(ta tb:TD):TD:=fun rho n P=>ta rho n fun d n1=>∃ c,d=.bl c/\if c=true then P (.bl true) n1 else tb rho n1 P
def dNot(ta:TD):TD:=fun rho n P=>ta rho n fun d n1=>∃ c,d=.bl c/\P (.bl (!c)) n1
private theorem pd_one{op:BoolOp}(h:PD A X a ta):PD A X (.BoolOp op [a] pos) ta:=by
 with_unfolding_all
  exact pe_one h
private theorem pd_and(ha:PD A X a ta)(hb:PD A X (.BoolOp .And (b::rest) pos) tb):PD A X (.BoolOp .And (a::b::rest) pos) (dAnd ta tb):=by
 with_unfolding_all
  exact(pe_and ha hb).imp fun sg H Q h=>by
   obtain⟨rho,n,P,ds,vs,I,ht,hQ⟩:=h
   refine⟨rho,n,_,ds,vs,I,ht,fun v H' n' d ⟨os,J⟩ k=>?_⟩
   obtain⟨c,rfl,k⟩:=k
   obtain⟨J1,r⟩:=J.pop
   refine⟨c,r.bl_inv,?_⟩
   cases c with
   | true=>exact⟨rho,n',P,ds,vs,⟨os,J1⟩,k,hQ⟩
   | false=>exact hQ _ _ _ _ ⟨os,J1.push (Rep.ofS (d:=.bl false) rfl)⟩ k
private theorem pd_or(ha:PD A X a ta)(hb:PD A X (.BoolOp .Or (b::rest) pos) tb):PD A X (.BoolOp .Or (a::b::rest) pos) (dOr ta tb):=by
 with_unfolding_all
  exact(pe_or ha hb).imp fun sg H Q h=>by
   obtain⟨rho,n,P,ds,vs,I,ht,hQ⟩:=h
   refine⟨rho,n,_,ds,vs,I,ht,fun v H' n' d ⟨os,J⟩ k=>?_⟩
   obtain⟨c,rfl,k⟩:=k
   obtain⟨J1,r⟩:=J.pop
   refine⟨c,r.bl_inv,?_⟩
   cases c with
   | false=>exact⟨rho,n',P,ds,vs,⟨os,J1⟩,k,hQ⟩
   | true=>exact hQ _ _ _ _ ⟨os,J1.push (Rep.ofS (d:=.bl true) rfl)⟩ k
def dIf(t:TBD)(ta tb:TD):TD:=fun rho n P=>t rho n fun c n1=>if c=true then ta rho n1 P else tb rho n1 P
private theorem pd_if(hc:PTD A X c t)(ha:PD A X a ta)(hb:PD A X b tb):PD A X (.IfExp c a b pos) (dIf t ta tb):=by
 with_unfolding_all
  exact(pe_ifExp hc ha hb).imp fun sg H Q h=>by
   obtain⟨rho,n,P,ds,vs,I,ht,hQ⟩:=h
   refine⟨rho,n,_,ds,vs,I,ht,fun c H' n' J k=>?_⟩
   cases c with
   | true=>exact⟨rho,n',P,ds,vs,J,k,hQ⟩
   | false=>exact⟨rho,n',P,ds,vs,J,k,hQ⟩
variable {t1:TAD}
def aNil:TAD:=fun _ n P=>P [] n
def aCons(t:TD)(r:TAD):TAD:=fun rho n P=>t rho n fun d n1=>r rho n1 fun ds n2=>P (d::ds) n2
private theorem pad_nil:PAD A X [] aNil:=by
 with_unfolding_all
  exact pa_nil.imp fun sg H Q h=>by
   obtain⟨rho,n,P,ds,vs,I,ht,hQ⟩:=h
   exact hQ [] H n [] I rfl ht
private theorem reps_rot{K:W.Frag}{G:Option Addr}{Z:Addr->Prop}{H:Hp}{es ds:List D}{ws vs:List V}{d:D}{v:V}(h:Reps K G Z H (es++d::ds) (ws++v::vs))(hl:ws.length=es.length):Reps K G Z H (d::es++ds) (v::ws++vs):=by
 have h1:=h.take es.length
 have h2:=h.drop es.length
 rw[take_left' rfl,take_left' hl] at h1
 rw[drop_left' rfl,drop_left' hl] at h2
 obtain⟨r,t⟩:=h2.inv
 exact .cons r (h1.append t)
def starred:Expr->Bool
 | .Starred ..=>true
 | _=>false
private theorem sE{e:Expr}{es:List Expr}{env:Env}(h:starred e=false):starEach (e::es) env=(false,eval e env)::starEach es env:=by
 cases e<;>first | (simp[starEach];done) | (simp[starred] at h;done)
private theorem pad_cons(ha:PD A X a ta)(hr:PAD A X es t1)(hs:starred a=false:=by rfl):PAD A X (a::es) (aCons ta t1):=by
 with_unfolding_all
  exact(pa_cons ha hr (sE hs)).imp fun sg H Q h=>by
   obtain⟨rho,n,P,ds,vs,I,ht,hQ⟩:=h
   refine⟨rho,n,_,ds,vs,I,ht,fun v H' n' d J k=>⟨rho,n',_,d::ds,v::vs,J,k,fun ws H2 n2 es' ⟨os,J2⟩ hl k2=>?_⟩⟩
   exact hQ (v::ws) H2 n2 (d::es') ⟨os,J2.pends (reps_rot J2.pend hl)⟩ (by rw[length_cons,length_cons,hl]) k2
private theorem reps_pre{K:W.Frag}{G:Option Addr}{Z:Addr->Prop}{H:Hp}{es ds:List D}{ws vs:List V}(h:Reps K G Z H (es++ds) (ws++vs))(hl:ws.length=es.length):Reps K G Z H es ws/\Reps K G Z H ds vs:=by
 have h1:=h.take es.length
 have h2:=h.drop es.length
 rw[take_left' rfl,take_left' hl] at h1
 rw[drop_left' rfl,drop_left' hl] at h2
 exact⟨h1,h2⟩
def dTup(t:TAD):TD:=fun rho n P=>t rho n fun ds n1=>ds.length<=sizeLine/\P (.tup ds) n1
def dLst(t:TAD):TD:=fun rho n P=>t rho n fun ds n1=>ds.length<=sizeLine/\P (.lst ds) n1
private theorem pd_tup{x1}(h:PAD A X es t1):PD A X (.Tuple es x1 pos) (dTup t1):=by
 with_unfolding_all
  exact(pe_tup h).imp fun sg H Q h=>by
   obtain⟨rho,n,P,ds,vs,I,ht,hQ⟩:=h
   refine⟨rho,n,_,ds,vs,I,ht,fun ws H' n' es' ⟨os,J⟩ hl k=>⟨by rw[hl];exact k.1,fun p hp=>?_⟩⟩
   obtain⟨q1,q2⟩:=reps_pre J.pend hl
   exact hQ _ _ n' _ ⟨os,(J.pends q2).newTup q1 hp⟩ k.2
private theorem pd_lst(h:PAD A X es t1):PD A X (.List es pos) (dLst t1):=by
 with_unfolding_all
  exact(pe_lst h).imp fun sg H Q h=>by
   obtain⟨rho,n,P,ds,vs,I,ht,hQ⟩:=h
   refine⟨rho,n,_,ds,vs,I,ht,fun ws H' n' es' ⟨os,J⟩ hl k=>⟨by rw[hl];exact k.1,fun p hp=>?_⟩⟩
   obtain⟨q1,q2⟩:=reps_pre J.pend hl
   exact hQ _ _ n' _ ⟨os,(J.pends q2).newLst q1 hp⟩ k.2
def CallRel(A:AC)(r:List V->Hp->VK->Prop)(rd:List D->(D->Prop)->Prop):Prop :=
 ∀ os n rho sg H ds vs es ws (k:D->Prop) (Q:VK),AmO A os n rho sg H ds vs->Reps A.K A.G (Zof A os) H es ws->rd es k->(∀ v H' d,Am A n rho sg H' (d::ds) (v::vs)->k d->Q v H')->r ws H Q
def dCall(rd:List D->(D->Prop)->Prop)(t:TAD):TD:=fun rho n P=>t rho n fun es n1=>rd es fun d=>P d n1
private theorem tCB_of{r:List V->Hp->VK->Prop}{rd:List D->(D->Prop)->Prop}(hr:CallRel A r rd){sg:St}{H:Hp}{Q:VK}(h:tOf A (dCall rd t1) sg H Q):tCB r (taOf A t1) sg H Q:=by
 obtain⟨rho,n,P,ds,vs,I,ht,hQ⟩:=h
 refine⟨rho,n,_,ds,vs,I,ht,fun ws H' n' es' ⟨os,J⟩ hl k=>?_⟩
 obtain⟨q1,q2⟩:=reps_pre J.pend hl
 exact hr _ _ _ _ _ _ _ _ _ _ Q (J.pends q2) q1 k fun v H2 d J2 k2=>hQ v H2 n' d J2 k2
private theorem pd_callB{x:Str}{p:Pos}{id:String}{r:List V->Hp->VK->Prop}{rd:List D->(D->Prop)->Prop}(hc:CallR X (.builtin id) r)(hr:CallRel A r rd)(hm:X.mg x=none)(hv:bootBuiltins x=some (.builtin id))(ha:PAD A X (e::es) t1)(hg:Gl X x:=by rfl)(hn:x ≠ "__name__" := by decide)(hdb:(x == ("__debug__" : Str))=false:=by decide)
  (he:starEach (e::es) X.env=(false,eval e X.env)::starEach es X.env:=by rfl) (hpl:(backTo pos (starEach es X.env)).any (·.1)=false:=by rfl):PD A X (.Call (.Name x p) (e::es) [] pos) (dCall rd t1):=by
 with_unfolding_all
  exact
   (pe_callB hc hg hm hv ha hn hdb he hpl).imp fun _ _ _=>tCB_of hr
private theorem pd_callTy{x:Str}{p:Pos}{T:String}{r:List V->Hp->VK->Prop}{rd:List D->(D->Prop)->Prop}(hc:CallR X (.type T) r)(hr:CallRel A r rd)(hm:X.mg x=none)(hv:bootBuiltins x=some (.type T))(ha:PAD A X (e::es) t1)(hg:Gl X x:=by rfl)(hn:x ≠ "__name__" := by decide)(hdb:(x == ("__debug__" : Str))=false:=by decide)
  (he:starEach (e::es) X.env=(false,eval e X.env)::starEach es X.env:=by rfl) (hpl:(backTo pos (starEach es X.env)).any (·.1)=false:=by rfl):PD A X (.Call (.Name x p) (e::es) [] pos) (dCall rd t1):=by
 with_unfolding_all
  exact
   (pe_callTy hc hg hm hv ha hn hdb he hpl).imp fun _ _ _=>tCB_of hr
private theorem reps1{K:W.Frag}{G:Option Addr}{Z:Addr->Prop}{H:Hp}{d:D}{ws:List V}(h:Reps K G Z H [d] ws):∃ v,ws=[v]/\Rep K G Z H d v:=by
 obtain⟨v,r,rfl,q,t⟩:=h.split
 rw[t.nil_inv]
 exact⟨v,rfl,q⟩
private theorem reps2{K:W.Frag}{G:Option Addr}{Z:Addr->Prop}{H:Hp}{d d':D}{ws:List V}(h:Reps K G Z H [d,d'] ws):∃ v v',ws=[v,v']/\Rep K G Z H d v/\Rep K G Z H d' v':=by
 obtain⟨v,r,rfl,q,t⟩:=h.split
 obtain⟨v',rfl,q'⟩:=reps1 t
 exact⟨v,v',rfl,q,q'⟩
def kLen:List D->(D->Prop)->Prop:=fun es k=>∃ fs,(es=[.lst fs]\/es=[.tup fs]\/es=[.fz fs])/\k (.int fs.length)
def kAbs:List D->(D->Prop)->Prop:=fun es k=>∃ i,es=[.int i]/\k (.int (if i<0 then -i else i))
def kIntB:List D->(D->Prop)->Prop:=fun es k=>∃ c,es=[.bl c]/\k (.int (if c then 1 else 0))
def kAll:List D->(D->Prop)->Prop:=fun es k=>∃ bs:List Bool,es=[.lst (bs.map D.bl)]/\k (.bl (bs.all id))
def kAny:List D->(D->Prop)->Prop:=fun es k=>∃ bs:List Bool,es=[.lst (bs.map D.bl)]/\k (.bl (bs.any id))
def kTuple:List D->(D->Prop)->Prop:=fun es k=>∃ fs,(es=[.lst fs]\/es=[.tup fs])/\k (.tup fs)
def kList:List D->(D->Prop)->Prop:=fun es k=>∃ fs,(es=[.lst fs]\/es=[.tup fs])/\k (.lst fs)
private theorem cr_len:CallRel A (fun xs H Q=>∃ p ys,xs=[.ref p]/\(SqL A.K H p ys\/SqT A.K H p ys)/\Q (.int ys.length) H) kLen:=by
 rintro os n rho sg H ds vs es ws k Q I rs ⟨fs,h,q⟩ hQ
 rcases h with rfl | rfl | rfl
 ·obtain ⟨v, rfl, r⟩ := reps1 rs
  obtain⟨a,xs,rfl,sq,rr⟩:=r.lst_inv
  exact⟨a,xs,rfl,.inl sq.sq,by rw[rr.length];exact hQ _ H _ ⟨os,I.push (Rep.ofS rfl)⟩ q⟩
 ·obtain ⟨v, rfl, r⟩ := reps1 rs
  obtain⟨a,xs,rfl,sq,rr⟩:=r.tup_inv
  exact⟨a,xs,rfl,.inr sq.sq,by rw[rr.length];exact hQ _ H _ ⟨os,I.push (Rep.ofS rfl)⟩ q⟩
 ·obtain ⟨v, rfl, r⟩ := reps1 rs
  obtain⟨a,xs,rfl,sq,rr⟩:=r.fz_inv
  exact⟨a,xs,rfl,.inl sq,by rw[rr.length];exact hQ _ H _ ⟨os,I.push (Rep.ofS rfl)⟩ q⟩
private theorem cr_abs:CallRel A (fun xs H Q=>∃ i,xs=[.int i]/\Q (.int (if i<0 then -i else i)) H) kAbs:=by
 rintro os n rho sg H ds vs es ws k Q I rs ⟨i,rfl,q⟩ hQ
 obtain⟨v,rfl,r⟩:=reps1 rs
 exact⟨i,by rw[r.int_inv],hQ _ H _ ⟨os,I.push (Rep.ofS rfl)⟩ q⟩
private theorem cr_intB:CallRel A (fun xs H Q=>(∃ i,xs=[.int i]/\Q (.int i) H)\/∃ k,xs=[.bl k]/\Q (.int (if k then 1 else 0)) H) kIntB:=by
 rintro os n rho sg H ds vs es ws k Q I rs ⟨i,rfl,q⟩ hQ
 obtain⟨v,rfl,r⟩:=reps1 rs
 exact .inr ⟨i,by rw[r.bl_inv],hQ _ H _ ⟨os,I.push (Rep.ofS rfl)⟩ q⟩
private theorem reps_bools{K:W.Frag}{G:Option Addr}{Z:Addr->Prop}{H:Hp}:∀ {bs:List Bool} {ws:List V},Reps K G Z H (bs.map D.bl) ws->ws=bs.map V.bl
 | [],ws,h=>h.nil_inv
 | b::bs,ws,h=>by
  obtain⟨v,r,rfl,q,t⟩:=h.split
  rw[q.bl_inv,reps_bools t];rfl
private theorem cr_all:CallRel A (fun xs H Q=>∃ (p:Addr) (bs:List Bool),xs=[.ref p]/\SqL A.K H p (bs.map V.bl)/\Q (.bl (bs.all id)) H) kAll:=by
 rintro os n rho sg H ds vs es ws k Q I rs ⟨bs,rfl,q⟩ hQ
 obtain⟨v,rfl,r⟩:=reps1 rs
 obtain⟨a,xs,rfl,sq,rr⟩:=r.lst_inv
 have e:=reps_bools rr
 subst e
 exact⟨a,bs,rfl,sq.sq,hQ _ H _ ⟨os,I.push (Rep.ofS rfl)⟩ q⟩
private theorem cr_any:CallRel A (fun xs H Q=>∃ (p:Addr) (bs:List Bool),xs=[.ref p]/\SqL A.K H p (bs.map V.bl)/\Q (.bl (bs.any id)) H) kAny:=by
 rintro os n rho sg H ds vs es ws k Q I rs ⟨bs,rfl,q⟩ hQ
 obtain⟨v,rfl,r⟩:=reps1 rs
 obtain⟨a,xs,rfl,sq,rr⟩:=r.lst_inv
 have e:=reps_bools rr
 subst e
 exact⟨a,bs,rfl,sq.sq,hQ _ H _ ⟨os,I.push (Rep.ofS rfl)⟩ q⟩
private theorem cr_tuple:CallRel A (fun xs H Q=>∃ p ys,xs=[.ref p]/\((SqL A.K H p ys/\∀ l,H l=none->Q (.ref l) (upd H l (.tup ys)))\/(SqT A.K H p ys/\Q (.ref p) H))) kTuple:=by
 rintro os n rho sg H ds vs es ws k Q I rs ⟨fs,h,q⟩ hQ
 rcases h with rfl | rfl
 ·obtain ⟨v, rfl, r⟩ := reps1 rs
  obtain⟨a,xs,rfl,sq,rr⟩:=r.lst_inv
  exact⟨a,xs,rfl,.inl ⟨sq.sq,fun l hl=>hQ _ _ _ ⟨os,I.newTup rr hl⟩ q⟩⟩
 ·obtain ⟨v, rfl, r⟩ := reps1 rs
  have r':=r
  obtain⟨a,xs,rfl,sq,rr⟩:=r.tup_inv
  exact⟨a,xs,rfl,.inr ⟨sq.sq,hQ _ _ _ ⟨os,I.push r'⟩ q⟩⟩
private theorem cr_list:CallRel A (fun xs H Q=>∃ p ys,xs=[.ref p]/\(SqL A.K H p ys\/SqT A.K H p ys)/\∀ l,H l=none->Q (.ref l) (upd H l (.lst ys))) kList:=by
 rintro os n rho sg H ds vs es ws k Q I rs ⟨fs,h,q⟩ hQ
 rcases h with rfl | rfl
 ·obtain ⟨v, rfl, r⟩ := reps1 rs
  obtain⟨a,xs,rfl,sq,rr⟩:=r.lst_inv
  exact⟨a,xs,rfl,.inl sq.sq,fun l hl=>hQ _ _ _ ⟨os,I.newLst rr hl⟩ q⟩
 ·obtain ⟨v, rfl, r⟩ := reps1 rs
  obtain⟨a,xs,rfl,sq,rr⟩:=r.tup_inv
  exact⟨a,xs,rfl,.inr sq.sq,fun l hl=>hQ _ _ _ ⟨os,I.newLst rr hl⟩ q⟩
def isiD(T:String):D->Bool
 | .bl _=>T == "bool" || T == "int"
 | .int _=>T == "int"
 | .str _=>T == "str"
 | .tup _=>T == "tuple"
 | .lst _=>T == "list"
 | _=>false
def isiOk:D->Bool
 | .non=>true | .bl _=>true | .int _=>true | .str _=>true | .tup _=>true | .lst _=>true | .dic=>true | _=>false
def kIsi:List D->(D->Prop)->Prop:=fun es k=>∃ d T,es=[d,.ty T]/\(T = "bool" \/ T = "int" \/ T = "str" \/ T = "tuple" \/ T = "list")/\isiOk d=true/\k (.bl (isiD T d))
end
end L2
namespace L2
section
variable {A:AC} {os:List (Nat × Addr)} {n:Nat} {rho:Rho} {sg:St} {H:Hp} {ds es:List D} {vs ws:List V} {d:D} {v:V}
private theorem AmO.split(I:AmO A os n rho sg H (es++ds) (ws++vs))(hl:ws.length=es.length):AmO A os n rho sg H ds vs/\Reps A.K A.G (Zof A os) H es ws :=
 let ⟨q1,q2⟩:=reps_pre I.pend hl
 ⟨I.pends q2,q1⟩
private theorem AmO.join(I:AmO A os n rho sg H ds vs)(h:Reps A.K A.G (Zof A os) H es ws):AmO A os n rho sg H (es++ds) (ws++vs):=I.pends (h.append I.pend)
private theorem AmO.under(I:AmO A os n rho sg H (d::(es++ds)) (v::(ws++vs)))(hl:ws.length=es.length):AmO A os n rho sg H (d::ds) (v::vs):=by
 obtain⟨J,r⟩:=I.pop
 exact(J.split hl).1.push r
private theorem AmO.front(m:Nat)(I:AmO A os n rho sg H ds vs):AmO A (os.map fun p=>(p.1+m,p.2)) n (replicate m none++rho) (replicate m none++sg) H ds vs:=by
 have zz:∀ a,Zof A (os.map fun p=>(p.1+m,p.2)) a->Zof A os a:=fun a z=>by
  rcases z with z | ⟨p,hp,e⟩
  ·exact .inl z
  ·obtain ⟨q, hq, rfl⟩ := List.mem_map.mp hp
   exact .inr ⟨q,hq,e⟩
 refine⟨by simp[I.len],fun i c e=>?_,Reps.mono (fun a _ z=>zz a z) (fun _ _ _ e=>e) _ _ I.pend,?_,fun p hp=>?_,I.st,I.gz,I.fr,I.z0⟩
 ·have hi : m <= i := by
   apply Nat.le_of_not_lt
   intro hlt
   rw[getElem?_append_left (by simpa using hlt),getElem?_replicate,if_pos hlt] at e
   cases e
  rw[getElem?_append_right (by simpa using hi),length_replicate] at e
  obtain⟨u,e1,e2⟩:=I.slot _ c e
  refine⟨u,by rw[getElem?_append_right (by simpa using hi),length_replicate];exact e1,?_⟩
  have key:∀ j,j+m=i->SlotR A os H j c u->SlotR A (os.map fun p=>(p.1+m,p.2)) H i c u:=fun j hj h=>by
   subst hj
   cases c with
   | own fs =>
    obtain⟨a,xs,q1,q2,q3,q4⟩:=h
    exact⟨a,xs,q1,List.mem_map.mpr ⟨_,q2,rfl⟩,q3,Reps.mono (fun a _ z=>zz a z) (fun _ _ _ e=>e) _ _ q4⟩
   | non=>exact Rep.mono (fun a _ z=>zz a z) (fun _ _ _ e=>e) _ _ h
   | bl _=>exact Rep.mono (fun a _ z=>zz a z) (fun _ _ _ e=>e) _ _ h
   | int _=>exact Rep.mono (fun a _ z=>zz a z) (fun _ _ _ e=>e) _ _ h
   | str _=>exact Rep.mono (fun a _ z=>zz a z) (fun _ _ _ e=>e) _ _ h
   | ty _=>exact Rep.mono (fun a _ z=>zz a z) (fun _ _ _ e=>e) _ _ h
   | tup _=>exact Rep.mono (fun a _ z=>zz a z) (fun _ _ _ e=>e) _ _ h
   | lst _=>exact Rep.mono (fun a _ z=>zz a z) (fun _ _ _ e=>e) _ _ h
   | st=>exact Rep.mono (fun a _ z=>zz a z) (fun _ _ _ e=>e) _ _ h
   | fz _=>exact Rep.mono (fun a _ z=>zz a z) (fun _ _ _ e=>e) _ _ h
   | dic=>exact Rep.mono (fun a _ z=>zz a z) (fun _ _ _ e=>e) _ _ h
   | dct _ _=>exact Rep.mono (fun a _ z=>zz a z) (fun _ _ _ e=>e) _ _ h
  exact key (i-m) (by lia) e2
 ·rw [List.pairwise_map]
  exact I.nd.imp fun {p q} h=>⟨fun z=>h.1 (by simpa using z),h.2⟩
 ·obtain ⟨q, hq, rfl⟩ := List.mem_map.mp hp
  exact I.fresh q hq
private theorem AmO.back{m:Nat}{rho':Rho}{sg':St}(I:AmO A os n rho' sg' H ds vs)(h1:rho'.drop m=rho)(h2:sg'.drop m=sg):∃ os',AmO A os' n rho sg H ds vs:=by
 refine⟨(os.filter fun p=>decide (m<=p.1)).map fun p=>(p.1-m,p.2),?_⟩
 have zz:∀ a,Zof A ((os.filter fun p=>decide (m<=p.1)).map fun p=>(p.1-m,p.2)) a->Zof A os a:=fun a z=>by
  rcases z with z | ⟨p,hp,e⟩
  ·exact .inl z
  ·obtain ⟨q, hq, rfl⟩ := List.mem_map.mp hp
   exact .inr ⟨q,(List.mem_filter.mp hq).1,e⟩
 subst h1 h2
 refine⟨by simp[I.len],fun i c e=>?_,Reps.mono (fun a _ z=>zz a z) (fun _ _ _ e=>e) _ _ I.pend,?_,fun p hp=>?_,I.st,I.gz,I.fr,I.z0⟩
 ·rw [List.getElem?_drop] at e
  obtain⟨u,e1,e2⟩:=I.slot _ c e
  refine⟨u,by rw[getElem?_drop];exact e1,?_⟩
  cases c with
  | own fs =>
   obtain⟨a,xs,q1,q2,q3,q4⟩:=e2
   exact⟨a,xs,q1,List.mem_map.mpr ⟨_,List.mem_filter.mpr ⟨q2,by simp⟩,by simp⟩,q3,Reps.mono (fun a _ z=>zz a z) (fun _ _ _ e=>e) _ _ q4⟩
  | non=>exact Rep.mono (fun a _ z=>zz a z) (fun _ _ _ e=>e) _ _ e2
  | bl _=>exact Rep.mono (fun a _ z=>zz a z) (fun _ _ _ e=>e) _ _ e2
  | int _=>exact Rep.mono (fun a _ z=>zz a z) (fun _ _ _ e=>e) _ _ e2
  | str _=>exact Rep.mono (fun a _ z=>zz a z) (fun _ _ _ e=>e) _ _ e2
  | ty _=>exact Rep.mono (fun a _ z=>zz a z) (fun _ _ _ e=>e) _ _ e2
  | tup _=>exact Rep.mono (fun a _ z=>zz a z) (fun _ _ _ e=>e) _ _ e2
  | lst _=>exact Rep.mono (fun a _ z=>zz a z) (fun _ _ _ e=>e) _ _ e2
  | st=>exact Rep.mono (fun a _ z=>zz a z) (fun _ _ _ e=>e) _ _ e2
  | fz _=>exact Rep.mono (fun a _ z=>zz a z) (fun _ _ _ e=>e) _ _ e2
  | dic=>exact Rep.mono (fun a _ z=>zz a z) (fun _ _ _ e=>e) _ _ e2
  | dct _ _=>exact Rep.mono (fun a _ z=>zz a z) (fun _ _ _ e=>e) _ _ e2
 ·rw [List.pairwise_map, List.pairwise_filter]
  refine I.nd.imp fun {p q} h hp hq=>⟨fun z=>h.1 ?_,h.2⟩
  have a1:m<=p.1:=by simpa using hp
  have a2:m<=q.1:=by simpa using hq
  have z':p.1-m=q.1-m:=z
  lia
 ·obtain ⟨q, hq, rfl⟩ := List.mem_map.mp hp
  exact I.fresh q (List.mem_filter.mp hq).1
end
abbrev TGD:=D->Rho->(Rho->Prop)->Prop
abbrev TGsD:=List D->Rho->(Rho->Prop)->Prop
def gOf(A:AC)(m:Nat)(g:TGD):TG:=fun v sg H Q=>∃ rho n P d ds vs,Am A n rho sg H (d::ds) (v::vs)/\g d rho P/\∀ rho' sg',Am A n rho' sg' H ds vs->sg'.drop m=sg.drop m->P rho'->Q sg' H
def gsOf(A:AC)(m:Nat)(g:TGsD):TGs:=fun us sg H Q=>∃ rho n P es ds vs,Am A n rho sg H (es++ds) (us++vs)/\us.length=es.length/\g es rho P/\∀ rho' sg',Am A n rho' sg' H ds vs->sg'.drop m=sg.drop m->P rho'->Q sg' H
@[irreducible] def PGD(A:AC)(X:Cx)(m:Nat)(tg:Expr)(g:TGD):Prop:=PG X tg (gOf A m g)
@[irreducible] def PGsD(A:AC)(X:Cx)(m:Nat)(tg:List Expr)(g:TGsD):Prop:=PGs X tg (gsOf A m g)
private theorem PG.imp{X:Cx}{tg:Expr}{g g':TG}(h:PG X tg g)(hi:∀ v sg H Q,g' v sg H Q->g v sg H Q):PG X tg g':=fun pins s sg H v u Q I r q=>h pins s sg H v u Q I r (hi _ _ _ _ q)
private theorem PGs.imp{X:Cx}{tg:List Expr}{g g':TGs}(h:PGs X tg g)(hi:∀ v sg H Q,g' v sg H Q->g v sg H Q):PGs X tg g':=fun pins s sg H v u Q I r q=>h pins s sg H v u Q I r (hi _ _ _ _ q)
section
variable {A:AC} {X:Cx} {m:Nat} {pos:Pos}
def gdName(i:Nat):TGD:=fun d rho P=>i<rho.length/\P (rho.set i (some d))
private theorem pgd_name{i:Nat}{x:Str}(hN:X.N.Nodup)(hi:X.N[i]?=some x)(hx:Loc X.env.scope x)(hm:i<m)(hf:X.fn x=true\/X.env.scope.names.lookup x=some .local:=by first | exact .inl rfl | exact .inr rfl | assumption):PGD A X m (.Name x pos) (gdName i):=by
 with_unfolding_all
  exact
   (pg_name hN hi hx hf).imp fun v sg H Q h => by
    obtain⟨rho,n,P,d,ds,vs,⟨os,I⟩,⟨hl,k⟩,hQ⟩:=h
    refine hQ (rho.set i (some d)) (sg.set i (some v)) ⟨_,I.set hl⟩ ?_ k
    rw[List.drop_set_of_lt hm]
def gdNil:TGsD:=fun es rho P=>es=[]/\P rho
def gdCons(g:TGD)(gs:TGsD):TGsD:=fun es rho P=>∃ d r,es=d::r/\g d rho fun rho'=>gs r rho' P
private theorem pgsd_nil:PGsD A X m [] gdNil:=by
 with_unfolding_all
  exact pgs_nil.imp fun us sg H Q h=>by
   obtain⟨rho,n,P,es,ds,vs,I,hl,⟨rfl,k⟩,hQ⟩:=h
   have e:us=[]:=List.length_eq_zero_iff.mp hl
   subst e
   exact⟨rfl,hQ rho sg I rfl k⟩
private theorem pgsd_cons{e:Expr}{es:List Expr}{g:TGD}{gs:TGsD}(h1:PGD A X m e g)(h2:PGsD A X m es gs)(hs:(assignEach (e::es) X.env).map (·.2)=assign e X.env::(assignEach es X.env).map (·.2):=by rfl):PGsD A X m (e::es) (gdCons g gs):=by
 with_unfolding_all
  exact
   (pgs_cons h1 h2 hs).imp fun us sg H Q h => by
    obtain⟨rho,n,P,es',ds,vs,I,hl,⟨d,r,rfl,k⟩,hQ⟩:=h
    cases us with
    | nil=>simp at hl
    | cons u us =>
     refine⟨u,us,rfl,⟨rho,n,_,d,r++ds,us++vs,I,k,fun rho' sg' I' e1 k'=>⟨rho',n,P,r,ds,vs,I',by simpa using hl,k',fun rho2 sg2 I2 e2 k2=>hQ rho2 sg2 I2 (e2.trans e1) k2⟩⟩⟩
def gdTup(k:Nat)(gs:TGsD):TGD:=fun d rho P=>∃ es,d=.tup es/\es.length=k/\gs es rho P
private theorem pgd_tup{es:List Expr}{k:Nat}{gs:TGsD}{kt:Nat}(hK:X.K=A.K)(hc:X.calm=true)(h:PGsD A X m es gs)(hn:(assignEach es X.env).length=k:=by rfl)(hst:(assignEach es X.env).findIdx? (·.1)=none:=by rfl):PGD A X m (.Tuple es kt pos) (gdTup k gs):=by
 with_unfolding_all
  exact
   (pg_tup (n := k) hc h hn hst).imp fun v sg H Q h => by
    obtain⟨rho,n,P,d,ds,vs,⟨os,I⟩,⟨fs,rfl,hl,q⟩,hQ⟩:=h
    obtain⟨J,r⟩:=I.pop
    obtain⟨a,xs,rfl,sq,rs⟩:=r.tup_inv
    have hx:=rs.length
    rw[hK]
    exact⟨a,xs,rfl,sq.sq,by rw[hx];exact hl,rho,n,P,fs,ds,vs,⟨os,J.join rs⟩,hx,q,hQ⟩
end
abbrev TID:=Rho->Nat->(List D->Nat->Prop)->Prop
def JIs(A:AC)(J:It)(es:List D)(ws:List V)(items:List D):Prop:=∀ n rho sg H ds vs i,Am A n rho sg H (es++ds) (ws++vs) ->
 (∀ d,items[i]?=some d->J.go i H/\∀ x H',J.yld i H x H'->Am A n rho sg H' (d::(es++ds)) (x::(ws++vs)))/\(items.length<=i->J.stop i H)
def iOf(A:AC)(it:TID):TI:=fun sg H R=>∃ rho n P ds vs,Am A n rho sg H ds vs/\it rho n P/\∀ J H' n' items es ws,Am A n' rho sg H' (es++ds) (ws++vs)->ws.length=es.length->JIs A J es ws items->P items n'->R J H'
@[irreducible] def PID(A:AC)(X:Cx)(tg iter:Expr)(it:TID):Prop:=PI X tg iter (iOf A it)
private theorem PI.imp{X:Cx}{tg e:Expr}{t t':TI}(h:PI X tg e t)(hi:∀ sg H Q,t' sg H Q->t sg H Q):PI X tg e t':=fun pins s sg H Q I q=>h pins s sg H Q I (hi _ _ _ q)
section
variable {A:AC} {X:Cx} {tg a b:Expr} {ta tb:TD} {pos p:Pos} {t1:TAD}
def rngD(lo:Int)(k:Nat):List D:=(List.range k).map fun(i:Nat)=>D.int (lo+(i:Int))
def iRngD(t:TAD):TID:=fun rho n P=>t rho n fun es n1=>∃ j:Int,es=[.int j]/\-(2^62)<=j/\j<2^62/\P (rngD 0 j.toNat) n1
private theorem jis_rng{lo:Int}{k:Nat}:JIs A (Itr lo k) [] [] (rngD lo k):=fun n2 rho2 sg2 H2 ds2 vs2 i ⟨os2,I2⟩=>by
 refine⟨fun d e=>?_,fun hi=>?_⟩
 ·unfold rngD at e
  rw[getElem?_map] at e
  cases q:(List.range k)[i]? with
  | none=>rw[q] at e;cases e
  | some j =>
   rw[q] at e
   cases e
   have hj:=List.getElem?_eq_some_iff.mp q
   obtain⟨hlt,ej⟩:=hj
   rw[List.getElem_range] at ej
   subst ej
   refine⟨(show i<k by simpa using hlt),fun x H3 y=>?_⟩
   obtain⟨e3,e4⟩:=y
   subst e3 e4
   exact⟨os2,I2.push (Rep.ofS (d:=.int (lo+i)) rfl)⟩
 ·unfold rngD at hi
  exact(show k<=i by simpa using hi)
private theorem pid_rng(hm:X.mg "range" = none)(ha:PAD A X [a] t1)(hg:Gl X "range" := by rfl)(hs:starEach [a] X.env=[(false,eval a X.env)]:=by rfl):PID A X tg (.Call (.Name "range" p) [a] [] pos) (iRngD t1):=by
 with_unfolding_all
  exact
   (pi_range1 hg hm ha hs).imp fun sg H R h => by
    obtain⟨rho,n,P,ds,vs,I,ht,hQ⟩:=h
    refine⟨rho,n,_,ds,vs,I,ht,fun ws H' n' es' ⟨os,J⟩ hl k=>?_⟩
    obtain⟨j,rfl,h1,h2,k⟩:=k
    obtain⟨J1,rs⟩:=J.split hl
    obtain⟨v,rfl,r⟩:=reps1 rs
    exact⟨j,by rw[r.int_inv],h1,h2,hQ _ H' n' _ [] [] ⟨os,J1⟩ rfl jis_rng k⟩
def seqOf:D->Option (Bool × List D)
 | .lst es=>some (true,es)
 | .tup es=>some (false,es)
 | _=>none
private theorem Rep.seq{K:W.Frag}{G:Option Addr}{Z:Addr->Prop}{H:Hp}{v:V}{b:Bool}{es:List D}:∀ {d:D},seqOf d=some (b,es)->Rep K G Z H d v->∃ a xs,v=.ref a/\SqZ K Z H b a xs/\Reps K G Z H es xs
 | .lst fs,h,r=>by cases h;exact r.lst_inv
 | .tup fs,h,r=>by cases h;exact r.tup_inv
 | .non,h,_=>by cases h
 | .bl _,h,_=>by cases h
 | .int _,h,_=>by cases h
 | .str _,h,_=>by cases h
 | .ty _,h,_=>by cases h
 | .st,h,_=>by cases h
 | .own _,h,_=>by cases h
 | .fz _,h,_=>by cases h
def zipD(xs ys:List D):List D:=List.zipWith (fun x y=>D.tup [x,y]) xs ys
def iZipD(t:TAD):TID:=fun rho n P=>t rho n fun es n1=>∃ d1 d2 b1 xs b2 ys,es=[d1,d2]/\seqOf d1=some (b1,xs)/\seqOf d2=some (b2,ys)/\P (zipD xs ys) n1
private theorem jis_zip{d1 d2:D}{l1 l2:Addr}{b1 b2:Bool}{xs ys:List D}(h1:seqOf d1=some (b1,xs))(h2:seqOf d2=some (b2,ys)):JIs A (Itz A.K b1 b2 l1 l2) [d1,d2] [.ref l1,.ref l2] (zipD xs ys):=fun n rho sg H ds vs i ⟨os,I⟩=>by
 obtain⟨I1,r1⟩:=AmO.pop (d:=d1) (v:=.ref l1) (ds:=d2::ds) (vs:=.ref l2::vs) I
 obtain⟨I2,r2⟩:=I1.pop
 obtain⟨a1,us,e1,sq1,rs1⟩:=r1.seq h1
 obtain⟨a2,ws,e2,sq2,rs2⟩:=r2.seq h2
 cases e1;cases e2
 refine⟨fun d e=>?_,fun hi=>⟨us,ws,sq1.sq,sq2.sq,?_⟩⟩
 ·unfold zipD at e
  rw[List.getElem?_zipWith] at e
  cases q1:xs[i]? with
  | none=>rw[q1] at e;cases e
  | some x =>
   cases q2:ys[i]? with
   | none=>rw[q1,q2] at e;cases e
   | some y =>
    rw[q1,q2] at e
    cases e
    obtain⟨u,eu,ru⟩:=rs1.get q1
    obtain⟨w,ew,rw'⟩:=rs2.get q2
    refine⟨⟨us,ws,u,w,sq1.sq,sq2.sq,eu,ew⟩,fun v H3 yy=>?_⟩
    obtain⟨T,hT,rfl,k⟩:=yy
    obtain⟨u',w',eu',ew',rfl⟩:=k us ws sq1.sq sq2.sq
    rw[eu] at eu';cases eu'
    rw[ew] at ew';cases ew'
    exact⟨os,I.newTup (.cons ru (.cons rw' .nil)) hT⟩
 ·rw [rs1.length, rs2.length]
  unfold zipD at hi
  rw[List.length_zipWith] at hi
  lia
private theorem pid_zip{es:List Expr}{kk:Nat}{ps:Pos}(hK:X.K=A.K)(hm:X.mg "zip" = none)(ha:PAD A X [a,b] t1)(hg:Gl X "zip" := by rfl)(hs:starEach [a,b] X.env=[(false,eval a X.env),(false,eval b X.env)]:=by rfl)(hs2:starEach [b] X.env=[(false,eval b X.env)]:=by rfl) :
  PID A X (.Tuple es kk ps) (.Call (.Name "zip" p) [a,b] [] pos) (iZipD t1):=by
 with_unfolding_all
  exact(pi_zip hg hm ha hs hs2).imp fun sg H R h=>by
   obtain⟨rho,n,P,ds,vs,I,ht,hQ⟩:=h
   refine⟨rho,n,_,ds,vs,I,ht,fun ws H' n' es' ⟨os,J⟩ hl k=>?_⟩
   obtain⟨d1,d2,b1,xs,b2,ys,rfl,h1,h2,k⟩:=k
   obtain⟨J1,rs⟩:=J.split hl
   obtain⟨v1,v2,rfl,r1,r2⟩:=reps2 rs
   obtain⟨a1,us,rfl,sq1,rs1⟩:=r1.seq h1
   obtain⟨a2,ws',rfl,sq2,rs2⟩:=r2.seq h2
   rw[hK]
   exact⟨b1,b2,a1,a2,us,ws',rfl,sq1.sq,sq2.sq,hQ _ H' n' _ [d1,d2] [.ref a1,.ref a2] ⟨os,J⟩ rfl (jis_zip h1 h2) k⟩
end
section
variable {A:AC} {X:Cx} {tg iter elt:Expr} {ifs:List Expr} {scope:Scope} {own M:List Str} {pos:Pos} {it:TID} {g:TGD} {tt:TBD} {te:TD}
def dComp(it:TID)(own:Nat)(g:TGD)(tt:TBD)(te:TD):TD:=fun rho n P=>it rho n fun items n1=>items.length<=sizeLine/\∃ J:Nat->List D->Nat->Prop,J 0 [] n1 /\
 (∀ i d acc n,items[i]?=some d->J i acc n->g d (replicate own none++rho) fun rho'=>rho'.drop own=rho/\tt rho' n fun c n2=>if c=true then te rho' n2 fun e n3=>J (i+1) (acc++[e]) n3 else J (i+1) acc n2) /\
 ∀ acc n,J items.length acc n->P (.lst acc) n
def bYes:TBD:=fun _ n P=>P true n
private theorem PTs.imp{X:Cx}{e:List Expr}{t t':TT}(h:PTs X e t)(hi:∀ sg H Q,t' sg H Q->t sg H Q):PTs X e t':=by
 with_unfolding_all
  exact fun pins s sg H Q I q=>h pins s sg H Q I (hi _ _ _ q)
private theorem ptsd_nil{X:Cx}:PTs X [] (ttOf A bYes):=by
 with_unfolding_all
  exact pts_nil.imp fun sg H Q h=>by
   obtain⟨rho,n,P,ds,vs,I,ht,hQ⟩:=h
   exact hQ true H n I ht
private theorem tComp_ofG{sg:St}{H:Hp}{Q:VK}{m:Nat}{rho:Rho}{n:Nat}{P:D->Nat->Prop}{ds:List D}{vs:List V}(I:Am A n rho sg H ds vs)(ht:dComp it m g tt te rho n P)
  (hQ:∀ os n' H' fs xs p,AmO A os n' rho sg H' ds vs->Reps A.K A.G (Zof A os) H' fs xs->H' p=none->P (.lst fs) n'->Q (.ref p) (upd H' p (.lst xs))):tComp (iOf A it) m (gOf A m g) (ttOf A tt) (tOf A te) sg H Q:=by
 refine⟨rho,n,_,ds,vs,I,ht,fun J H' n' items es ws I1 hl hJ k=>?_⟩
 obtain⟨hsz,W,w0,turn,fin⟩:=k
 refine⟨fun i mm acc H=>mm=items.length-i/\i<=items.length/\acc.length<=i/\∃ accD n,acc.length=accD.length/\Am A n rho sg H (es++(accD++ds)) (ws++(acc++vs))/\W i accD n,
  ⟨items.length,rfl,Nat.zero_le _,Nat.le_refl _,[],n',rfl,I1,w0⟩,?_⟩
 rintro i mm acc H3 ⟨rfl,hi,hai,accD,n3,hal,⟨os,I3⟩,w3⟩
 obtain⟨j1,j2⟩:=hJ n3 rho sg H3 (accD++ds) (acc++vs) i ⟨os,I3⟩
 by_cases hlt:i<items.length
 ·refine .inr ⟨(j1 items[i] (by simp [hlt])).1, by lia, fun x H4 y => ?_⟩
  obtain⟨os4,I4⟩:=(j1 items[i] (by simp[hlt])).2 x H4 y
  refine⟨replicate m none++rho,n3,_,items[i],es++(accD++ds),ws++(acc++vs),⟨_,I4.front m⟩,turn i items[i] accD n3 (by simp[hlt]) w3,fun rho' sg' ⟨os5,I5⟩ e5 k5=>?_⟩
  obtain⟨k5,k6⟩:=k5
  have e6:sg'.drop m=sg:=by rw[e5,drop_left' (by simp)]
  refine⟨e6,rho',n3,_,es++(accD++ds),ws++(acc++vs),⟨os5,I5⟩,k6,fun c H6 n6 ⟨os6,I6⟩ k7=>?_⟩
  cases c with
  | false =>
   obtain⟨os7,I7⟩:=I6.back k5 e6
   exact⟨items.length-(i+1),by lia,rfl,hlt,by lia,accD,n6,hal,⟨os7,I7⟩,k7⟩
  | true =>
   rw[if_pos rfl] at k7 ⊢
   refine⟨rho',n6,_,es++(accD++ds),ws++(acc++vs),⟨os6,I6⟩,k7,fun v H8 n8 d ⟨os8,I8⟩ k8=>?_⟩
   obtain⟨os9,I9⟩:=I8.back k5 e6
   obtain⟨I10,rv⟩:=I9.pop
   obtain⟨I11,r1⟩:=I10.split hl
   obtain⟨I12,r2⟩:=I11.split hal
   refine⟨items.length-(i+1),by lia,rfl,hlt,by rw[length_append,List.length_singleton];lia,accD++[d],n8,by simp[hal],⟨os9,(I12.join (r2.append (.cons rv .nil))).join r1⟩,k8⟩
 ·have e : i = items.length := by lia
  subst e
  refine .inl ⟨j2 (Nat.le_refl _),Nat.le_trans hai hsz,fun D hD=>?_⟩
  obtain⟨I4,r1⟩:=I3.split hl
  obtain⟨I5,r2⟩:=I4.split hal
  exact hQ os n3 _ accD acc D I5 r2 hD (fin accD n3 w3)
private theorem tComp_of{sg:St}{H:Hp}{Q:VK}{m:Nat}(h:tOf A (dComp it m g tt te) sg H Q):tComp (iOf A it) m (gOf A m g) (ttOf A tt) (tOf A te) sg H Q:=by
 obtain⟨rho,n,P,ds,vs,I,ht,hQ⟩:=h
 exact tComp_ofG I ht fun os n' H' fs xs p J r hp k=>hQ _ _ n' _ ⟨os,J.newLst r hp⟩ k
private theorem pd_comp(ok:CompOk X scope M)(hc:X.calm=true)(hi:PID A X tg iter it)(hg:∀ C s2 H2 fp,PGD A (cxComp X scope own M C s2 H2 fp) own.length tg g)(ht:∀ C s2 H2 fp,PTs (cxComp X scope own M C s2 H2 fp) ifs (ttOf A tt))
  (he:∀ C s2 H2 fp,PD A (cxComp X scope own M C s2 H2 fp) elt te) (hs:∀ x,foldedSetIterable iter X.env x=pure x:=by intro _;rfl):PD A X (.ListComp elt [⟨tg,iter,ifs,0⟩] scope pos) (dComp it own.length g tt te):=by
 with_unfolding_all
  exact
   (pe_comp ok hc hi hg ht he hs).imp fun _ _ _=>tComp_of
end
end L2
namespace L2
structure EndsD where
 nx:Rho->Nat->Prop
 rt:D->Nat->Prop
 bk:Rho->Nat->Prop:=fun _ _=>False
 ct:Rho->Nat->Prop:=fun _ _=>False
abbrev TSD:=EndsD->Rho->Nat->Prop
structure EOk(A:AC)(E:Ends)(F:EndsD)(ds:List D)(vs:List V):Prop where
 nx:∀ rho n sg H,Am A n rho sg H ds vs->F.nx rho n->E.nx sg H
 rt:∀ d n v rho sg H,Am A n rho sg H (d::ds) (v::vs)->F.rt d n->E.rt v H
 bk:∀ rho n sg H,Am A n rho sg H ds vs->F.bk rho n->E.bk sg H
 ct:∀ rho n sg H,Am A n rho sg H ds vs->F.ct rho n->E.ct sg H
def sOf(A:AC)(t:TSD):TS:=fun E sg H=>∃ rho n F ds vs,Am A n rho sg H ds vs/\t F rho n/\EOk A E F ds vs
@[irreducible] def PSD(A:AC)(X:Cx)(s:Stmt)(t:TSD):Prop:=PS X s (sOf A t)
@[irreducible] def PSsD(A:AC)(X:Cx)(s:List Stmt)(t:TSD):Prop:=PSs X s (sOf A t)
section
variable {A:AC} {X:Cx} {st:Stmt} {rest:List Stmt} {t u:TSD} {e a b:Expr} {te:TD} {tc:TBD} {pos:Pos}
def sNext:TSD:=fun F rho n=>F.nx rho n
def sSeq(t u:TSD):TSD:=fun F rho n=>t { F with nx:=u F } rho n
private theorem pssd_nil:PSsD A X [] sNext:=by
 with_unfolding_all
  exact pss_nil.imp fun E sg H h=>by
   obtain⟨rho,n,F,ds,vs,I,ht,ok⟩:=h
   exact ok.nx _ _ _ _ I ht
private theorem pssd_cons(h1:PSD A X st t)(h2:PSsD A X rest u):PSsD A X (st::rest) (sSeq t u):=by
 with_unfolding_all
  exact(pss_cons h1 h2).imp fun E sg H h=>by
   obtain⟨rho,n,F,ds,vs,I,ht,ok⟩:=h
   exact⟨rho,n,{ F with nx:=u F },ds,vs,I,ht,⟨fun rho' n' sg' H' I' k=>⟨rho',n',F,ds,vs,I',k,ok⟩,ok.rt,ok.bk,ok.ct⟩⟩
private theorem pssd_one(h1:PSD A X st t):PSsD A X [st] t:=by
 with_unfolding_all
  exact pss_one h1
def sRet(te:TD):TSD:=fun F rho n=>te rho n F.rt
private theorem psd_ret(he:PD A X e te):PSD A X (.Return (some e) pos) (sRet te):=by
 with_unfolding_all
  exact(ps_ret he).imp fun E sg H h=>by
   obtain⟨rho,n,F,ds,vs,I,ht,ok⟩:=h
   exact⟨rho,n,_,ds,vs,I,ht,fun v H' n' d I' k=>ok.rt _ _ _ _ _ _ I' k⟩
def sIf(c:TBD)(t u:TSD):TSD:=fun F rho n=>c rho n fun b n1=>if b=true then t F rho n1 else u F rho n1
private theorem psd_if{c:Expr}{sa sb:List Stmt}(hc:PTD A X c tc)(ha:PSsD A X sa t)(hb:PSsD A X sb u):PSD A X (.If c sa sb pos) (sIf tc t u):=by
 with_unfolding_all
  exact(ps_if hc ha hb).imp fun E sg H h=>by
   obtain⟨rho,n,F,ds,vs,I,ht,ok⟩:=h
   refine⟨rho,n,_,ds,vs,I,ht,fun c H' n' J k=>?_⟩
   cases c with
   | true=>exact⟨rho,n',F,ds,vs,J,k,ok⟩
   | false=>exact⟨rho,n',F,ds,vs,J,k,ok⟩
def sSet(i:Nat)(te:TD):TSD:=fun F rho n=>i<rho.length/\te rho n fun d n1=>F.nx (rho.set i (some d)) n1
private theorem psd_set{i:Nat}{x:Str}{pos':Pos}(hN:X.N.Nodup)(hi:X.N[i]?=some x)(hx:Loc X.env.scope x)(he:PD A X e te)(hs:swapsWith e (some (.Name x pos')) pos.line X.env=pure false:=by rfl)(hf:X.fn x=true\/X.env.scope.names.lookup x=some .local:=by first | exact .inl rfl | exact .inr rfl | assumption) :
  PSD A X (.Assign [.Name x pos'] e pos) (sSet i te):=by
 with_unfolding_all
  exact(ps_set hN hi hx he hs hf).imp fun E sg H h=>by
   obtain⟨rho,n,F,ds,vs,I,⟨hl,ht⟩,ok⟩:=h
   exact⟨rho,n,_,ds,vs,I,ht,fun v H' n' d ⟨os,J⟩ k=>ok.nx _ _ _ _ ⟨_,J.set hl⟩ k⟩
def sUnp(te:TD)(g:TGD):TSD:=fun F rho n=>te rho n fun d n1=>g d rho fun rho'=>F.nx rho' n1
private theorem psd_unp{tg:Expr}{g:TGD}{m:Nat}(he:PD A X e te)(hg:PGD A X m tg g)(hs:swapsWithSole [tg] e pos.line X.env=pure false:=by rfl)(hw:swappedStores [tg] e X.env=pure none:=by rfl)
  (h1:(assignEach [tg] X.env).map (·.2)=[assign tg X.env]:=by rfl):PSD A X (.Assign [tg] e pos) (sUnp te g):=by
 with_unfolding_all
  exact(ps_asg he hg hs hw h1).imp fun E sg H h=>by
   obtain⟨rho,n,F,ds,vs,I,ht,ok⟩:=h
   exact⟨rho,n,_,ds,vs,I,ht,fun v H' n' d J k=>⟨rho,n',_,d,ds,vs,J,k,fun rho' sg' J' _ k'=>ok.nx _ _ _ _ J' k'⟩⟩
def sPar(i j:Nat)(t:TAD):TSD:=fun F rho n=>i<rho.length/\j<rho.length/\t rho n fun es n1=>∃ d d',es=[d,d']/\F.nx ((rho.set i (some d)).set j (some d')) n1
private theorem psd_par{i j:Nat}{x y:Str}{ta:TAD}{px py pt:Pos}{kt k2 pt2}(hc:X.calm=true)(hN:X.N.Nodup)(hi:X.N[i]?=some x)(hj:X.N[j]?=some y)(hij:i≠j)
  (hx:X.env.scope.names.lookup x=some .local) (hy:X.env.scope.names.lookup y=some .local) (ha:PAD A X [a,b] ta)
  (hw:swappedStores [.Tuple [.Name x px,.Name y py] kt pt] (.Tuple [a,b] k2 pt2) X.env=pure (some [x,y]):=by rfl)
  (hs:swapsWithSole [.Tuple [.Name x px,.Name y py] kt pt] (.Tuple [a,b] k2 pt2) pos.line X.env=pure false:=by rfl) :
  PSD A X (.Assign [.Tuple [.Name x px,.Name y py] kt pt] (.Tuple [a,b] k2 pt2) pos) (sPar i j ta):=by
 with_unfolding_all
  exact(ps_par hc hN hi hj hij hx hy ha hw hs).imp fun E sg H h=>by
   obtain⟨rho,n,F,ds,vs,I,⟨hl,hl2,ht⟩,ok⟩:=h
   refine⟨rho,n,_,ds,vs,I,ht,fun ws H' n' es ⟨os,J⟩ hlen k=>?_⟩
   obtain⟨d,d',rfl,k⟩:=k
   obtain⟨J1,rs⟩:=J.split hlen
   obtain⟨v,v',rfl,r,r'⟩:=reps2 rs
   refine⟨v,v',rfl,ok.nx _ _ _ _ ?_ k⟩
   have J2:AmO A os n' rho sg H' (d::d'::ds) (v::v'::vs):=(J1.push r').push r
   exact⟨_,(J2.set hl).set (by simpa using hl2)⟩
def sFor(it:TID)(g:TGD)(tb:TSD):TSD:=fun F rho n=>it rho n fun items n1=>∃ J:Nat->Rho->Nat->Prop,J 0 rho n1 /\
 (∀ i d rho n,items[i]?=some d->J i rho n->g d rho fun rho'=>tb { F with nx:=J (i+1),ct:=J (i+1),bk:=F.nx } rho' n)/\∀ rho n,J items.length rho n->F.nx rho n
private theorem psd_for{tg iter:Expr}{body:List Stmt}{it:TID}{g:TGD}{tb:TSD}{m:Nat}(hp:PassesOwn (model X.prog X.w) X.A X.env X.xe)(hc:X.calm=true)(hi:PID A X tg iter it)(hg:PGD A X m tg g)(hb:PSsD A X body tb)
  (hs:∀ x,foldedSetIterable iter X.env x=pure x:=by intro _;rfl):PSD A X (.For tg iter body [] pos) (sFor it g tb):=by
 with_unfolding_all
  exact(ps_for hp hc hi hg hb hs).imp fun E sg H h=>by
   obtain⟨rho,n,F,ds,vs,I,ht,ok⟩:=h
   refine⟨rho,n,_,ds,vs,I,ht,fun J H' n' items es ws I1 hl hJ k=>?_⟩
   obtain⟨W,w0,turn,fin⟩:=k
   refine⟨fun i mm sg H=>mm=items.length-i/\i<=items.length/\∃ rho n,Am A n rho sg H (es++ds) (ws++vs)/\W i rho n,⟨items.length,rfl,Nat.zero_le _,rho,n',I1,w0⟩,?_⟩
   rintro i mm sg3 H3 ⟨rfl,hi,rho3,n3,I3,w3⟩
   obtain⟨j1,j2⟩:=hJ n3 rho3 sg3 H3 ds vs i I3
   by_cases hlt:i<items.length
   ·refine .inr ⟨(j1 items[i] (by simp [hlt])).1, fun sg' H' => ∃ rho n, Am A n rho sg' H' (es ++ ds) (ws ++ vs) /\ W (i + 1) rho n, fun sg' H' ⟨rho', n', I', w'⟩ => ⟨items.length - (i + 1), by lia, rfl, hlt, rho', n', I', w'⟩, fun x H4 y => ?_⟩
    have I4:=(j1 items[i] (by simp[hlt])).2 x H4 y
    refine⟨rho3,n3,_,items[i],es++ds,ws++vs,I4,turn i items[i] rho3 n3 (by simp[hlt]) w3,fun rho' sg' I5 _ k5=>⟨rho',n3,{ F with nx:=W (i+1),ct:=W (i+1),bk:=F.nx },es++ds,ws++vs,I5,k5,?_⟩⟩
    refine⟨fun rho6 n6 sg6 H6 I6 k6=>⟨rho6,n6,I6,k6⟩,fun d n6 v rho6 sg6 H6 ⟨os6,I6⟩ k6=>ok.rt _ _ _ _ _ _ ⟨os6,I6.under hl⟩ k6,fun rho6 n6 sg6 H6 ⟨os6,I6⟩ k6=>ok.nx _ _ _ _ ⟨os6,(I6.split hl).1⟩ k6,fun rho6 n6 sg6 H6 I6 k6=>⟨rho6,n6,I6,k6⟩⟩
   ·have e : i = items.length := by lia
    subst e
    obtain⟨os,I3⟩:=I3
    exact .inl ⟨j2 (Nat.le_refl _),ok.nx _ _ _ _ ⟨os,(I3.split hl).1⟩ (fin rho3 n3 w3)⟩
def sDrop(te:TD):TSD:=fun F rho n=>te rho n fun _ n1=>F.nx rho n1
private theorem AmO.setOwn{os:List (Nat × Addr)}{n:Nat}{rho:Rho}{sg:St}{H:Hp}{ds es:List D}{vs xs:List V}{i:Nat}{p:Addr}(I:AmO A os n rho sg H ds vs)(hi:i<rho.length)(hp:H p=none)(r:Reps A.K A.G (Zof A os) H es xs) :
  ∃ os',AmO A os' n (rho.set i (some (.own es))) (sg.set i (some (.ref p))) (upd H p (.lst xs)) ds vs:=by
 have hf:∀ a u,H a=some u->upd H p (.lst xs) a=some u:=fun a u e=>by rw[upd_ne (ne_of_none e hp)];exact e
 refine⟨(i,p)::os.filter fun q=>decide (q.1≠i),?_⟩
 have zz:∀ a,H a≠none->Zof A ((i,p)::os.filter fun q=>decide (q.1≠i)) a->Zof A os a:=fun a ha z=>by
  rcases z with z | ⟨q,hq,e⟩
  ·exact .inl z
  ·rcases List.mem_cons.mp hq with rfl | hq
   ·exact absurd (by rw[<- e];exact hp) ha
   ·exact .inr ⟨q,(List.mem_filter.mp hq).1,e⟩
 have h0:A.H0 p=none:=by
  cases q:A.H0 p with
  | none=>rfl
  | some o =>
   by_cases e:A.G=some p
   ·obtain ⟨x, y, z, w, _⟩ := I.st p e
    rw[w] at hp;cases hp
   ·have := I.fr p o e q
    rw[this] at hp;cases hp
 refine⟨by simp[I.len],fun j c e=>?_,Reps.mono zz (fun a u _ e=>hf a u e) _ _ I.pend,?_,fun q hq=>?_,fun a e=>?_,I.gz,fun a u h e=>hf a u (I.fr a u h e),I.z0⟩
 ·by_cases hj : j = i
  ·subst hj
   rw[getElem?_set_self hi] at e
   cases e
   exact⟨.ref p,getElem?_set_self (by rw[<- I.len];exact hi),p,xs,rfl,mem_cons_self,upd_same,Reps.mono zz (fun a u _ e=>hf a u e) _ _ r⟩
  ·rw [List.getElem?_set_ne (Ne.symm hj)] at e
   obtain⟨u,e1,e2⟩:=I.slot j c e
   exact⟨u,by rw[getElem?_set_ne (Ne.symm hj)];exact e1,SlotR.mono zz (fun a u _ e=>hf a u e) (fun a ys m q=>⟨mem_cons_of_mem _ (List.mem_filter.mpr ⟨m,by simpa using hj⟩),hf a _ q⟩) _ _ e2⟩
 ·refine List.pairwise_cons.mpr ⟨fun q hq => ?_, I.nd.filter _⟩
  obtain⟨m1,m2⟩:=List.mem_filter.mp hq
  refine⟨fun z=>by simp[<- z] at m2,fun z=>(I.fresh q m1).2.2 ?_⟩
  have z':p=q.2:=z
  rw[<- z'];exact hp
 ·rcases List.mem_cons.mp hq with rfl | hq
  ·exact⟨h0,fun z=>I.z0 p z h0,by show upd H p _ p≠none;rw[upd_same];simp⟩
  ·obtain ⟨f1, f2, f3⟩ := I.fresh q (List.mem_filter.mp hq).1
   refine⟨f1,f2,?_⟩
   cases w:H q.2 with
   | none=>exact absurd w f3
   | some u=>rw[hf _ _ w];simp
 ·obtain ⟨x, y, z, q, rr⟩ := I.st a e
  exact⟨x,y,z,hf _ _ q,rr⟩
def sOwn(i:Nat)(t:TAD):TSD:=fun F rho n=>i<rho.length/\t rho n fun es n1=>es.length<=sizeLine/\F.nx (rho.set i (some (.own es))) n1
private theorem psd_own{i:Nat}{x:Str}{pos' pos2:Pos}{els:List Expr}{ta:TAD}(hN:X.N.Nodup)(hi:X.N[i]?=some x)(hx:Loc X.env.scope x)(ha:PAD A X els ta)(hf:X.fn x=true\/X.env.scope.names.lookup x=some .local:=by first | exact .inl rfl | exact .inr rfl | assumption)
  (hs:swapsWith (.List els pos2) (some (.Name x pos')) pos.line X.env=pure false:=by rfl):PSD A X (.Assign [.Name x pos'] (.List els pos2) pos) (sOwn i ta):=by
 with_unfolding_all
  exact(ps_set hN hi hx (pe_lst ha) hs hf).imp fun E sg H h=>by
   obtain⟨rho,n,F,ds,vs,I,⟨hl,ht⟩,ok⟩:=h
   refine⟨rho,n,_,ds,vs,I,ht,fun ws H' n' es ⟨os,J⟩ hlen k=>⟨by rw[hlen];exact k.1,fun p hp=>?_⟩⟩
   obtain⟨J1,rs⟩:=J.split hlen
   exact ok.nx _ _ _ _ (J1.setOwn hl hp rs) k.2
private theorem AmO.own{os:List (Nat × Addr)}{n:Nat}{rho:Rho}{sg:St}{H:Hp}{ds es es':List D}{vs xs':List V}{i:Nat}(I:AmO A os n rho sg H ds vs)(hi:rho[i]?=some (some (.own es))) :
  ∃ a xs,sg[i]?=some (some (.ref a))/\H a=some (.lst xs)/\Reps A.K A.G (Zof A os) H es xs/\∀ es' xs',Reps A.K A.G (Zof A os) H es' xs'->AmO A os n (rho.set i (some (.own es'))) sg (upd H a (.lst xs')) ds vs:=by
 obtain⟨v,e1,a,xs,rfl,hm,hH,rs⟩:=I.slot i _ hi
 have hil:i<rho.length:=(List.getElem?_eq_some_iff.mp hi).1
 have za:Zof A os a:=.inr ⟨_,hm,rfl⟩
 have hf:∀ (xs':List V) b u,¬ Zof A os b->H b=some u->upd H a (.lst xs') b=some u:=fun xs' b u nz e=>by
  rw[upd_ne fun z=>nz (by rw[z];exact za)];exact e
 have uniq:∀ j,(j,a)∈os->j=i:=fun j hj=>by
  by_cases hji:j=i
  ·exact hji
  ·have key : ∀ (l : List (Nat × Addr)), l.Pairwise (fun p q => p.1 ≠ q.1 /\ p.2 ≠ q.2) -> (j, a) ∈ l -> (i, a) ∈ l -> False := by
    intro l
    induction l with
    | nil=>intro _ h;simp at h
    | cons c l ih =>
     intro hp h1 h2
     obtain⟨p1,p2⟩:=List.pairwise_cons.mp hp
     rcases List.mem_cons.mp h1 with e1 | h1<;>rcases List.mem_cons.mp h2 with e2 | h2
     ·rw[<- e2] at e1;exact hji (Prod.mk.inj e1).1
     ·exact(p1 _ h2).2 (by rw[<- e1])
     ·exact(p1 _ h1).2 (by rw[<- e2])
     ·exact ih p2 h1 h2
   exact(key os I.nd hj hm).elim
 obtain⟨fa1,fa2,fa3⟩:=I.fresh _ hm
 refine⟨a,xs,e1,hH,rs,fun es' xs' r=>⟨by simp[I.len],fun j c e=>?_,Reps.mono (fun _ _ z=>z) (hf xs') _ _ I.pend,I.nd,fun q hq=>?_,fun b e=>?_,I.gz,fun b u h e=>?_,I.z0⟩⟩
 ·by_cases hj : j = i
  ·subst hj
   rw[getElem?_set_self hil] at e
   cases e
   exact⟨.ref a,e1,a,xs',rfl,hm,upd_same,Reps.mono (fun _ _ z=>z) (hf xs') _ _ r⟩
  ·rw [List.getElem?_set_ne (Ne.symm hj)] at e
   obtain⟨u,e2,e3⟩:=I.slot j c e
   exact⟨u,e2,SlotR.mono (fun _ _ z=>z) (hf xs') (fun b ys m q=>⟨m,by rw[upd_ne fun z=>hj (uniq j (by rw[<- z];exact m))];exact q⟩) _ _ e3⟩
 ·obtain ⟨f1, f2, f3⟩ := I.fresh q hq
  refine⟨f1,f2,?_⟩
  by_cases e:q.2=a
  ·rw[e,upd_same];simp
  ·rw[upd_ne e];exact f3
 ·obtain ⟨x, y, z, q, rr⟩ := I.st b e
  exact⟨x,y,z,by rw[upd_ne fun w=>fa2 (by rw[<- w];exact I.gz b e)];exact q,rr⟩
 ·rw [upd_ne fun w => by rw [w, fa1] at e; cases e]
  exact I.fr b u h e
private theorem AmO.freeze{os:List (Nat × Addr)}{n:Nat}{rho:Rho}{sg:St}{H:Hp}{ds es:List D}{vs:List V}{i:Nat}(I:AmO A os n rho sg H ds vs)(hi:rho[i]?=some (some (.own es))):∃ os',AmO A os' n (rho.set i (some (.lst es))) sg H ds vs:=by
 obtain⟨v,e1,a,xs,rfl,hm,hH,rs⟩:=I.slot i _ hi
 have hil:i<rho.length:=(List.getElem?_eq_some_iff.mp hi).1
 refine⟨os.filter fun q=>decide (q.1≠i),?_⟩
 have sub:∀ b,H b≠none->Zof A (os.filter fun p=>decide (p.1≠i)) b->Zof A os b:=fun b _ z=>by
  rcases z with z | ⟨p,hp,e⟩
  ·exact .inl z
  ·exact .inr ⟨p,(List.mem_filter.mp hp).1,e⟩
 have key:∀ (l:List (Nat × Addr)),l.Pairwise (fun p q=>p.1≠q.1/\p.2≠q.2)->(i,a)∈l->∀ q∈l,q.2=a->q.1=i:=by
  intro l
  induction l with
  | nil=>intro _ h;simp at h
  | cons c l ih =>
   intro hp h1 q hq hqa
   obtain⟨p1,p2⟩:=List.pairwise_cons.mp hp
   rcases List.mem_cons.mp h1 with e1 | h1<;>rcases List.mem_cons.mp hq with e2 | h2
   ·rw[e2,<- e1]
   ·exact absurd (by rw[<- e1,hqa]) (p1 _ h2).2
   ·exact absurd (by rw[<- e2,hqa]) (p1 _ h1).2
   ·exact ih p2 h1 q h2 hqa
 refine⟨by simp[I.len],fun j c e=>?_,Reps.mono sub (fun _ _ _ e=>e) _ _ I.pend,I.nd.filter _,fun p hp=>I.fresh p (List.mem_filter.mp hp).1,I.st,I.gz,I.fr,I.z0⟩
 by_cases hj:j=i
 ·subst hj
  rw[getElem?_set_self hil] at e
  cases e
  refine⟨.ref a,e1,Rep.lst_mk ⟨fun z=>?_,hH⟩ (Reps.mono sub (fun _ _ _ e=>e) _ _ rs)⟩
  rcases z with z | ⟨p,hp,e⟩
  ·exact(I.fresh _ hm).2.1 z
  ·obtain ⟨m1, m2⟩ := List.mem_filter.mp hp
   have:=key os I.nd hm p m1 e
   simp[this] at m2
 ·rw [List.getElem?_set_ne (Ne.symm hj)] at e
  obtain⟨u,e2,e3⟩:=I.slot j c e
  exact⟨u,e2,SlotR.mono sub (fun _ _ _ e=>e) (fun b ys m q=>⟨List.mem_filter.mpr ⟨m,by simpa using hj⟩,q⟩) _ _ e3⟩
def sFrz(i:Nat)(t:TSD):TSD:=fun F rho n=>∃ es,rho[i]?=some (some (.own es))/\t F (rho.set i (some (.lst es))) n
private theorem psd_frz(i:Nat)(h:PSD A X st t):PSD A X st (sFrz i t):=by
 with_unfolding_all
  exact PS.imp h fun E sg H q=>by
   obtain⟨rho,n,F,ds,vs,⟨os,I⟩,⟨es,hi,ht⟩,ok⟩:=q
   exact⟨_,n,F,ds,vs,I.freeze hi,ht,ok⟩
end
end L2
namespace L2
section
variable {A:AC} {X:Cx} {e a b:Expr} {es:List Expr} {te ta tb:TD} {t1:TAD} {pos:Pos}
def sAppend(i:Nat)(t:TAD):TSD:=fun F rho n=>∃ es,rho[i]?=some (some (.own es))/\es.length<sizeLine/\t rho n fun ds n1=>∃ d,ds=[d]/\F.nx (rho.set i (some (.own (es++[d])))) n1
private theorem psd_append{i:Nat}{x:Str}{px apos cpos:Pos}(ha:PAD A X [e] t1)(hK:X.K=A.K)(hN:X.N[i]?=some x:=by rfl)(hv:Vis X.env.scope x:=by first | exact Or.inl rfl | exact Or.inr (Or.inl rfl) | exact Or.inr (Or.inr rfl))(hd:(x == ("__debug__" : Str))=false:=by decide)
  (hcd:(x == ("__classdict__" : Str))=false:=by decide) (hbase:attributeBase (.Name x px) "append" X.env (eval (.Name x px) X.env)=eval (.Name x px) X.env:=by rfl)
  (hfew : ((backTo cpos (starEach [e] X.env)).all (fun x => !x.1) && (backToKw cpos (keywordEach [] X.env)).all (fun x => x.1.isSome)
   && decide ([e].length+([]:List Keyword).length+(if ([]:List Keyword).isEmpty then 0 else 1)<30))=true:=by rfl)
  (hline:(apos.endLine == cpos.line)=true:=by rfl) (hs:starEach [e] X.env=(false,eval e X.env)::starEach [] X.env:=by rfl) (hplain:(backTo cpos (starEach [] X.env)).any (·.1)=false:=by rfl)
  (hsw:swapsWith (.Call (.Attribute (.Name x px) "append" apos) [e] [] cpos) none pos.line X.env=pure false:=by rfl) :
  PSD A X (.Expr (.Call (.Attribute (.Name x px) "append" apos) [e] [] cpos) pos) (sAppend i t1):=by
 with_unfolding_all
  exact
   (ps_expr (pe_bm PySem.F.plainAttrs_list PySem.F.slot_list_append PySem.F.type_list_append mt_append (pe_var hN hv hd hcd) ha hbase hfew hline hs hplain) hsw).imp fun E sg H h => by
    obtain⟨rho,n,F,ds,vs,⟨os,I⟩,⟨es,hi,hz,ht⟩,ok⟩:=h
    obtain⟨a,xs,e1,hH,rs,_⟩:=I.own (es':=es) (xs':=[]) hi
    refine⟨.ref a,e1,.inl ⟨rfl,xs,SqL.of hH⟩,rho,n,_,ds,vs,⟨os,I⟩,ht,fun ws H' n' fs ⟨os',J⟩ hl k=>?_⟩
    obtain⟨d,rfl,k⟩:=k
    obtain⟨J1,rs1⟩:=J.split hl
    obtain⟨v,rfl,r⟩:=reps1 rs1
    obtain⟨a',xs',e2,hH',rs',up⟩:=J1.own (es':=es) (xs':=[]) hi
    rw[e1] at e2
    cases e2
    exact⟨a,xs',v,rfl,rfl,hH',by rw[rs'.length];exact hz,ok.nx _ _ _ _ ⟨os',up _ _ (rs'.append (.cons r .nil))⟩ k⟩
def ownAt(o:Option (Option D))(p:List D->Prop):Prop:=∃ es,o=some (some (.own es))/\p es
def dOwnIx(i:Nat)(tb:TD):TD:=fun rho n P=>ownAt rho[i]? fun es=>tb rho n fun d n1=>∃ j c,d=.int j/\atI es j=some c/\P c n1
private theorem pd_ownIx{i:Nat}{x:Str}{px:Pos}(hb:PD A X b tb)(hpl:PlainIx b)(hN:X.N[i]?=some x:=by rfl)(hv:Vis X.env.scope x:=by first | exact Or.inl rfl | exact Or.inr (Or.inl rfl) | exact Or.inr (Or.inr rfl))(hd:(x == ("__debug__" : Str))=false:=by decide)
  (hcd:(x == ("__classdict__" : Str))=false:=by decide):PD A X (.Subscript (.Name x px) b pos) (dOwnIx i tb):=by
 with_unfolding_all
  exact
   (pe_ix ix_list (pe_var hN hv hd hcd) hb hpl).imp fun sg H Q h => by
    obtain⟨rho,n,P,ds,vs,⟨os,I⟩,⟨es,hi,ht⟩,hQ⟩:=h
    obtain⟨a,xs,e1,hH,rs,_⟩:=I.own (es':=es) (xs':=[]) hi
    refine⟨.ref a,e1,rho,n,_,ds,vs,⟨os,I⟩,ht,fun v H' n' d ⟨os',J⟩ k=>?_⟩
    obtain⟨j,c,rfl,hc,k⟩:=k
    obtain⟨J1,r⟩:=J.pop
    obtain⟨a',xs',e2,hH',rs',_⟩:=J1.own (es':=es) (xs':=[]) hi
    rw[e1] at e2
    cases e2
    obtain⟨w,e3,rw'⟩:=atI_rep rs' hc
    exact⟨a,xs',j,w,rfl,r.int_inv,SqL.of hH',e3,hQ w H' n' c ⟨os',J1.push rw'⟩ k⟩
def sOwnSet(i:Nat)(te tb:TD):TSD:=fun F rho n=>ownAt rho[i]? fun es=>te rho n fun d n1=>tb rho n1 fun d2 n2=>∃ j m,d2=.int j/\ixN es.length j=some m/\F.nx (rho.set i (some (.own (es.set m d)))) n2
def dStIx(i:Nat)(tb:TD):TD:=fun rho n P=>rho[i]?=some (some .st)/\tb rho n fun d n1=>∃ j:Int,d=.int j/\0<=j/\j<n1/\∀ z:Int,0<=z->(j=1->z<2147483647)->P (.int z) n1
private theorem ixN_of{n:Nat}{i:Int}(h0:0<=i)(h1:i<n):ixN n i=some i.toNat:=by unfold ixN;rw[if_pos h0,if_pos h1]
private theorem pd_stIx{i:Nat}{x:Str}{px:Pos}(hb:PD A X b tb)(hpl:PlainIx b)(hN:X.N[i]?=some x:=by rfl)(hv:Vis X.env.scope x:=by first | exact Or.inl rfl | exact Or.inr (Or.inl rfl) | exact Or.inr (Or.inr rfl))(hd:(x == ("__debug__" : Str))=false:=by decide)
  (hcd:(x == ("__classdict__" : Str))=false:=by decide):PD A X (.Subscript (.Name x px) b pos) (dStIx i tb):=by
 with_unfolding_all
  exact
   (pe_ix ix_list (pe_var hN hv hd hcd) hb hpl).imp fun sg H Q h => by
    obtain⟨rho,n,P,ds,vs,⟨os,I⟩,⟨hi,ht⟩,hQ⟩:=h
    obtain⟨v,e1,e2⟩:=I.slot i _ hi
    obtain⟨a,ha,rfl⟩:∃ a,A.G=some a/\v=.ref a:=by
     have e3:=SlotR.rep (d:=.st) rfl e2
     unfold Rep at e3
     exact e3
    refine⟨.ref a,e1,rho,n,_,ds,vs,⟨os,I⟩,ht,fun w H' n' d ⟨os',J⟩ k=>?_⟩
    obtain⟨j,rfl,h0,h3,k⟩:=k
    obtain⟨J1,r⟩:=J.pop
    obtain⟨zs,_,_,hH,p1,p2,p3⟩:=J1.st a ha
    obtain⟨jn,rfl⟩:=Int.eq_ofNat_of_zero_le h0
    have hjl:jn<zs.length:=by lia
    have ej:zs[jn]?=some zs[jn]:=getElem?_eq_getElem hjl
    refine⟨a,_,(jn:Int),.int zs[jn],rfl,r.int_inv,SqL.of hH,?_,hQ _ H' n' _ ⟨os',J1.push (Rep.ofS (d:=.int zs[jn]) rfl)⟩ (k zs[jn] (p2 _ (getElem_mem hjl)) fun e=>p3 _ (by rw[<- ej];congr 1;lia))⟩
    unfold atI
    rw[ixN_of (by lia) (by rw[length_map];lia)]
    simp[hjl]
private theorem ints_set(zs:List Int)(j:Nat)(z:Int):(zs.map V.int).set j (.int z)=(zs.set j z).map V.int:=by rw[List.map_set]
private theorem AmO.setSt{os:List (Nat × Addr)}{n:Nat}{rho:Rho}{sg:St}{H:Hp}{ds:List D}{vs:List V}{a:Addr}{zs:List Int}(I:AmO A os n rho sg H ds vs)(ha:A.G=some a)(h:zs.length=n/\(∀ x∈zs,0<=x)/\∀ x,zs[1]?=some x->x<2147483647) :
  AmO A os n rho sg (upd H a (.lst (zs.map V.int))) ds vs:=by
 have za:Zof A os a:=.inl (I.gz a ha)
 have hf:∀ b u,¬ Zof A os b->H b=some u->upd H a (.lst (zs.map V.int)) b=some u:=fun b u nz e=>by
  rw[upd_ne fun w=>nz (by rw[w];exact za)];exact e
 have no:∀ p∈os,p.2≠a:=fun p hp e=>(I.fresh p hp).2.1 (by rw[e];exact I.gz a ha)
 refine⟨I.len,fun j c e=>?_,Reps.mono (fun _ _ w=>w) hf _ _ I.pend,I.nd,fun q hq=>?_,fun b e=>?_,I.gz,fun b u h e=>?_,I.z0⟩
 ·obtain ⟨u, e1, e2⟩ := I.slot j c e
  exact⟨u,e1,SlotR.mono (fun _ _ w=>w) hf (fun b ys m q=>⟨m,by rw[upd_ne (no _ m)];exact q⟩) _ _ e2⟩
 ·obtain ⟨f1, f2, f3⟩ := I.fresh q hq
  exact⟨f1,f2,by rw[upd_ne (no q hq)];exact f3⟩
 ·rw [ha] at e
  cases e
  exact⟨zs,0,0,upd_same,h⟩
 ·rw [upd_ne fun w => h (by rw [w]; exact ha)]
  exact I.fr b u h e
def sStSet(i:Nat)(te tb:TD):TSD:=fun F rho n=>rho[i]?=some (some .st)/\te rho n fun d n1=>tb rho n1 fun d2 n2=>∃ j z:Int,d=.int z/\d2=.int j/\0<=j/\j<n2/\0<=z/\(j=1->z<2147483647)/\F.nx rho n2
private theorem psd_stSet{i:Nat}{x:Str}{px ps:Pos}(he:PD A X e te)(hb:PD A X b tb)(hN:X.N[i]?=some x:=by rfl)(hv:Vis X.env.scope x:=by first | exact Or.inl rfl | exact Or.inr (Or.inl rfl) | exact Or.inr (Or.inr rfl))(hd:(x == ("__debug__" : Str))=false:=by decide)
  (hcd : (x == ("__classdict__" : Str)) = false := by decide) (ha : ∀ v, assign (.Subscript (.Name x px) b ps) X.env v = (do
   let ov <- holding [v] (eval (.Name x px) X.env)
   let iv <- holding [v,ov] (eval b X.env)
   standAt ps
   holding [v,ov,iv] (setItem ov iv v)
   release [v,ov,iv] []):=by intro _;rfl) (hs:swapsWithSole [.Subscript (.Name x px) b ps] e pos.line X.env=pure false:=by rfl) (hw:swappedStores [.Subscript (.Name x px) b ps] e X.env=pure none:=by rfl)
  (h1:(assignEach [.Subscript (.Name x px) b ps] X.env).map (·.2)=[assign (.Subscript (.Name x px) b ps) X.env]:=by rfl) :
  PSD A X (.Assign [.Subscript (.Name x px) b ps] e pos) (sStSet i te tb):=by
 with_unfolding_all
  exact
   (ps_asg he (pg_sub (pe_var hN hv hd hcd) hb set_list ha) hs hw h1).imp fun E sg H h => by
    obtain⟨rho,n,F,ds,vs,⟨os,I⟩,⟨hi,ht⟩,ok⟩:=h
    obtain⟨v,e1,e2⟩:=I.slot i _ hi
    obtain⟨a,hG,rfl⟩:∃ a,A.G=some a/\v=.ref a:=by
     have e3:=SlotR.rep (d:=.st) rfl e2
     unfold Rep at e3
     exact e3
    refine⟨rho,n,_,ds,vs,⟨os,I⟩,ht,fun v H' n' d J k=>⟨.ref a,e1,rho,n',_,d::ds,v::vs,J,k,fun w H2 n2 d2 ⟨os2,J2⟩ k2=>?_⟩⟩
    obtain⟨j,z,rfl,rfl,h0,h3,hz,h2,k2⟩:=k2
    obtain⟨J3,r2⟩:=J2.pop
    obtain⟨J4,r1⟩:=J3.pop
    obtain⟨zs,_,_,hH,p1,p2,p3⟩:=J4.st a hG
    rw[r1.int_inv,r2.int_inv]
    obtain⟨jn,rfl⟩:=Int.eq_ofNat_of_zero_le h0
    have hjl:jn<zs.length:=by lia
    refine⟨a,_,(jn:Int),jn,rfl,rfl,hH,by rw[ixN_of (by lia) (by rw[length_map];lia)];simp,?_⟩
    rw[ints_set]
    refine ok.nx _ _ _ _ ⟨os2,J4.setSt hG ⟨by rw[List.length_set];exact p1,fun x hx=>?_,fun x hx=>?_⟩⟩ k2
    ·rcases List.mem_or_eq_of_mem_set hx with hx | rfl
     ·exact p2 x hx
     ·exact hz
    ·by_cases e : jn = 1
     ·subst e
      rw[getElem?_set_self hjl] at hx
      cases hx
      exact h2 rfl
     ·rw [List.getElem?_set_ne e] at hx
      exact p3 x hx
def cutL(es:List D)(lo hi:Option Int):List D:=(es.drop (HT.sIx es.length 0 lo)).take (HT.sIx es.length es.length hi-HT.sIx es.length 0 lo)
private theorem reps_cut{K:W.Frag}{G:Option Addr}{Z:Addr->Prop}{H:Hp}{fs:List D}{xs:List V}(h:Reps K G Z H fs xs)(lo hi:Option Int):Reps K G Z H (cutL fs lo hi) (cutV xs lo hi):=by
 unfold cutL cutV
 rw[h.length]
 exact(h.drop _).take _
def dSlL(lo hi:Option Int)(ta:TD):TD:=fun rho n P=>ta rho n fun d n1=>∃ fs,(d=.lst fs\/d=.fz fs)/\P (.lst (cutL fs lo hi)) n1
def enumD(es:List D):List D:=es.zipIdx.map fun p=>.tup [.int (p.2:Nat),p.1]
def iEnumD(t:TAD):TID:=fun rho n P=>t rho n fun es n1=>∃ fs,es=[.lst fs]/\P (enumD fs) n1
end
abbrev TF:=List D->Nat->(D->Nat->Prop)->Prop
def spD(K:W.Frag)(k:Nat)(t:TF):Sp:=fun vs H Q _=>∃ (G:Option Addr) (Z:Addr->Prop) (n:Nat) (P:D->Nat->Prop) (ds:List D),ds.length=k/\Reps K G Z H ds vs/\StOk G n H/\(∀ a,G=some a->Z a)/\(∀ a,Z a->H a≠none)/\t ds n P /\
 ∀ v H' n' d,(∀ a o,G≠some a->H a=some o->H' a=some o)->StOk G n' H'->Rep K G Z H' d v->P d n'->Q v H'
def startD(N:List Str)(ds:List D):Rho:=ds.map some++replicate (N.length-ds.length) none
private theorem amo_start{K:W.Frag}{G:Option Addr}{Z:Addr->Prop}{H:Hp}{N:List Str}{ds:List D}{vs:List V}{n:Nat}(rs:Reps K G Z H ds vs)(st:StOk G n H)(gz:∀ a,G=some a->Z a)(z0:∀ a,Z a->H a≠none) :
  AmO ⟨K,G,Z,H⟩ [] n (startD N ds) (start N vs) H [] []:=by
 have hl:=rs.length
 have zz:∀ a,Zof ⟨K,G,Z,H⟩ [] a->Z a:=fun a z=>by
  rcases z with z | ⟨p,hp,_⟩
  ·exact z
  ·simp at hp
 have rs':Reps K G (Zof ⟨K,G,Z,H⟩ []) H ds vs:=Reps.mono (fun a _ z=>zz a z) (fun _ _ _ e=>e) _ _ rs
 refine⟨by simp[startD,start,hl],fun i d e=>?_,.nil,.nil,fun p hp=>by simp at hp,st,gz,fun a o _ e=>e,z0⟩
 unfold startD at e
 by_cases hi:i<ds.length
 ·rw [List.getElem?_append_left (by simpa using hi), List.getElem?_map] at e
  cases q:ds[i]? with
  | none=>rw[q] at e;cases e
  | some c =>
   rw[q] at e
   cases e
   obtain⟨v,e1,r⟩:=rs'.get q
   refine⟨v,?_,SlotR.of r⟩
   unfold start
   rw[getElem?_append_left (by rw[length_map,hl];exact hi),getElem?_map,e1]
   rfl
 ·rw [List.getElem?_append_right (by simpa using hi), List.getElem?_replicate] at e
  split at e<;>cases e
section
variable {P:Program} {w:World} {K:W.Frag} {mg:Str->Option Value} {base:Heap}
private theorem Fun.okD{x qual:Str}{st:Stmt}{f:Addr}{fd:FuncData}{N ps:List Str}{k:Nat}{t:TF}{tb:TSD}(F:Fun K x qual st f fd)(S:FnScope N ps (defScope st))
  (body : ∀ (cdv : Value) (A0 : Around) (outer : List Env) (s : Shared) (H : Hp) (E : XK) (G : Option Addr) (Z : Addr -> Prop), Room k (A0.deeper (envOfC qual (defScope st) s.heap.objs.size f cdv)) ->
   PSsD ⟨K,G,Z,H⟩ (cxOf CX0 P w K mg base N qual (defScope st) f cdv A0 outer s H E).nox (defBody st) tb)
  (spec:∀ ds n Q,ds.length=ps.length->t ds n Q->tb { nx:=fun _ n=>Q .non n,rt:=Q } (startD N ds) n):FnOk P w K mg base CX0 (k+1) f fd ps (spD K ps.length t):=by
 with_unfolding_all
  exact(by
   refine F.ok S (fun vs H Q E h=>?_) (fun cdv A0 outer s H vs Q E hr h=>?_)
   ·obtain ⟨G, Z, n, R, ds, hl, rs, _⟩ := h
    rw[rs.length];exact hl
   ·obtain ⟨G, Z, n, R, ds, hl, rs, hst, gz, z0, ht, hQ⟩ := h
    refine⟨_,body cdv A0 outer s H E G Z hr,startD N ds,n,_,[],[],⟨[],amo_start rs hst gz z0⟩,spec ds n R hl ht,?_⟩
    have zz:∀ (os:List (Nat × Addr)) a,Z a->Zof ⟨K,G,Z,H⟩ os a:=fun os a z=>.inl z
    refine⟨fun rho' n' sg' H' ⟨os,I⟩ q=>?_,fun d n' v rho' sg' H' ⟨os,I⟩ q=>?_,fun _ _ _ _ _ q=>q.elim,fun _ _ _ _ _ q=>q.elim⟩
    ·exact hQ .non H' n' .non I.fr I.st (Rep.ofS rfl) q
    ·exact hQ v H' n' d I.fr I.st (Rep.mono (fun a _ z=>zz os a z) (fun _ _ _ e=>e) _ _ I.pop.2) q)
end
section
variable {A:AC} {X:Cx} {e:Expr} {es:List Expr} {t1:TAD} {pos p:Pos}
def dFn(k:Nat)(t:TF)(t1:TAD):TD:=fun rho n P=>t1 rho n fun es n1=>es.length=k/\t es n1 P
private theorem AmO.called{os:List (Nat × Addr)}{n n':Nat}{rho:Rho}{sg:St}{H H':Hp}{ds:List D}{vs:List V}(I:AmO A os n rho sg H ds vs)(fr:∀ a o,A.G≠some a->H a=some o->H' a=some o)(st:StOk A.G n' H'):AmO A os n' rho sg H' ds vs:=by
 have hf:∀ b u,¬ Zof A os b->H b=some u->H' b=some u:=fun b u nz e=>fr b u (fun z=>nz (.inl (I.gz b z))) e
 have no:∀ p∈os,A.G≠some p.2:=fun p hp e=>(I.fresh p hp).2.1 (I.gz _ e)
 refine⟨I.len,fun j c e=>?_,Reps.mono (fun _ _ w=>w) hf _ _ I.pend,I.nd,fun q hq=>?_,st,I.gz,fun b u h e=>fr b u h (I.fr b u h e),I.z0⟩
 ·obtain ⟨u, e1, e2⟩ := I.slot j c e
  exact⟨u,e1,SlotR.mono (fun _ _ w=>w) hf (fun b ys m q=>⟨m,fr _ _ (no _ m) q⟩) _ _ e2⟩
 ·obtain ⟨f1, f2, f3⟩ := I.fresh q hq
  refine⟨f1,f2,?_⟩
  cases z:H q.2 with
  | none=>exact absurd z f3
  | some u=>rw[fr _ _ (no q hq) z];simp
private theorem pd_call{x:Str}{f:Addr}{fd:FuncData}{ps:List Str}{t:TF}{kk k:Nat}(F:FnOk X.prog X.w X.K X.mg X.base CX0 kk f fd ps (spD X.K k t))(hr:Room kk X.A)(hm:X.mg x=some (.ref f))(hk:W.keepIn X.K (.ref f)=true)(hb:Binds X.K fd ps [])(hK:X.K=A.K)
  (ha:PAD A X (e::es) t1) (hg:Gl X x:=by rfl) (hdb:(x == ("__debug__" : Str))=false:=by decide) (he:starEach (e::es) X.env=(false,eval e X.env)::starEach es X.env:=by rfl) (hpl:(backTo pos (starEach es X.env)).any (·.1)=false:=by rfl) :
  PD A X (.Call (.Name x p) (e::es) [] pos) (dFn k t t1):=by
 with_unfolding_all
  exact(pe_call F hr hg hm hk hb .nil pass0 ha hdb he hpl).imp fun sg H Q h=>by
   obtain⟨rho,n,R,ds,vs,I,ht,hQ⟩:=h
   refine⟨rho,n,_,ds,vs,I,ht,fun ws H' n' es' ⟨os,J⟩ hl k=>?_⟩
   obtain⟨J1,rs⟩:=J.split hl
   rw[append_nil,hK]
   refine⟨A.G,Zof A os,n',R,es',k.1,rs,J1.st,fun a z=>.inl (J1.gz a z),J1.zH,k.2,fun v H2 n2 d fr st r q=>hQ v H2 n2 d ⟨os,(J1.called fr st).push r⟩ q⟩
end
end L2
namespace L2
section
variable {A:AC} {X:Cx} {tg a:Expr} {ta:TD} {pos p:Pos}
def iSeq2(K:W.Frag)(tl:TE):TI:=fun sg H R=>tl sg H fun x H1=>∃ l,x=.ref l/\(((∃ xs,SqL K H1 l xs)/\R (Itl K l) H1)\/((∃ xs,SqT K H1 l xs)/\R (Itt K l) H1))
private theorem pi_seq2{l:Expr}{tl:TE}(hl:PE X l tl):PI X tg l (iSeq2 X.K tl):=by
 intro pins s sg H R I h
 refine thn (hl pins s sg H _ I h) fun v s1 ⟨x,H1,I1,r1,q1⟩=>?_
 obtain⟨c,e,q1⟩:=q1
 subst e
 cases r1
 have new:∀ b∈[s1.heap.objs.size],FpOk X pins H1 b:=fun b hb=>by
  obtain rfl:b=s1.heap.objs.size:=by simpa using hb
  exact I1.fpOk (Nat.le_refl _) (I1.hok.fresh (Nat.le_refl _))
 rcases q1 with ⟨⟨xs,hq⟩,q⟩ | ⟨⟨xs,hq⟩,q⟩
 ·obtain ⟨its, rv, pl, hz⟩ := I1.list hq
  exact wpAny_pyIter_list pl.isList ⟨s1.heap.objs.size,[s1.heap.objs.size],_,_,H1,rfl,I1.kept (t':=s1.toks) fun b o e=>Heap.get?_push_of_some _ e,turn_list c _,⟨_,Heap.get?_push_size _ rfl,rfl,rfl⟩,new,q⟩
 ·obtain ⟨its, rv, pl, hz⟩ := I1.tuple hq
  exact wpAny_pyIter_tuple (show s1.heap.IsTuple c its.toArray from pl) ⟨s1.heap.objs.size,[s1.heap.objs.size],_,_,H1,rfl,I1.kept (t':=s1.toks) fun b o e=>Heap.get?_push_of_some _ e,turn_tuple c _,⟨_,Heap.get?_push_size _ rfl,rfl,rfl⟩,new,q⟩
def iSeqD(ta:TD):TID:=fun rho n P=>ta rho n fun d n1=>∃ es,(d=.lst es\/d=.tup es)/\P es n1
private theorem pid_seq(hK:X.K=A.K)(ha:PD A X a ta):PID A X tg a (iSeqD ta):=by
 with_unfolding_all
  exact(pi_seq2 ha).imp fun sg H R h=>by
   obtain⟨rho,n,P,ds,vs,I,ht,hQ⟩:=h
   refine⟨rho,n,_,ds,vs,I,ht,fun v H' n' d ⟨os,J⟩ k=>?_⟩
   obtain⟨es,hd,k⟩:=k
   have r:=J.pop.2
   rw[hK]
   rcases hd with rfl | rfl
   ·obtain ⟨l, xs, rfl, sq, rs⟩ := r.lst_inv
    refine⟨l,rfl,.inl ⟨⟨xs,sq.sq⟩,hQ _ H' n' es [.lst es] [.ref l] ⟨os,J⟩ rfl (fun n2 rho2 sg2 H2 ds2 vs2 i ⟨os2,I2⟩=>?_) k⟩⟩
    obtain⟨I3,r2⟩:=AmO.pop (d:=.lst es) (v:=.ref l) (ds:=ds2) (vs:=vs2) I2
    obtain⟨l',xs2,e,sq2,rs2⟩:=r2.lst_inv
    cases e
    refine⟨fun d e=>?_,fun hi=>⟨xs2,sq2.sq,by rw[rs2.length];exact hi⟩⟩
    obtain⟨v,e1,rv⟩:=rs2.get e
    refine⟨⟨xs2,v,sq2.sq,e1⟩,fun x H3 y=>?_⟩
    obtain⟨e3,y⟩:=y
    subst e3
    have e4:=y xs2 sq2.sq
    rw[e1] at e4;cases e4
    exact⟨os2,I2.push rv⟩
   ·obtain ⟨l, xs, rfl, sq, rs⟩ := r.tup_inv
    refine⟨l,rfl,.inr ⟨⟨xs,sq.sq⟩,hQ _ H' n' es [.tup es] [.ref l] ⟨os,J⟩ rfl (fun n2 rho2 sg2 H2 ds2 vs2 i ⟨os2,I2⟩=>?_) k⟩⟩
    obtain⟨I3,r2⟩:=AmO.pop (d:=.tup es) (v:=.ref l) (ds:=ds2) (vs:=vs2) I2
    obtain⟨l',xs2,e,sq2,rs2⟩:=r2.tup_inv
    cases e
    refine⟨fun d e=>?_,fun hi=>⟨xs2,sq2.sq,by rw[rs2.length];exact hi⟩⟩
    obtain⟨v,e1,rv⟩:=rs2.get e
    refine⟨⟨xs2,v,sq2.sq,e1⟩,fun x H3 y=>?_⟩
    obtain⟨e3,y⟩:=y
    subst e3
    have e4:=y xs2 sq2.sq
    rw[e1] at e4;cases e4
    exact⟨os2,I2.push rv⟩
end
structure Fn(P:Program)(w:World)(K:W.Frag)(mg:Str->Option Value)(base:Heap)(x:Str)(kk k:Nat)(t:TF):Prop where
 ex:∃ (f:Addr) (fd:FuncData) (ps:List Str),FnOk P w K mg base CX0 kk f fd ps (spD K k t)/\mg x=some (.ref f)/\W.keepIn K (.ref f)=true/\Binds K fd ps []
private theorem pd_fn{A:AC}{X:Cx}{e:Expr}{es:List Expr}{t1:TAD}{pos p:Pos}{x:Str}{t:TF}{kk k:Nat}(F:Fn X.prog X.w X.K X.mg X.base x kk k t)(hr:Room kk X.A)(hK:X.K=A.K)
  (ha:PAD A X (e::es) t1) (hg:Gl X x:=by rfl) (hdb:(x == ("__debug__" : Str))=false:=by decide) (he:starEach (e::es) X.env=(false,eval e X.env)::starEach es X.env:=by rfl) (hpl:(backTo pos (starEach es X.env)).any (·.1)=false:=by rfl) :
  PD A X (.Call (.Name x p) (e::es) [] pos) (dFn k t t1):=by
 with_unfolding_all
  exact(by
   obtain⟨f,fd,ps,h1,h2,h3,h4⟩:=F.ex
   exact pd_call h1 hr h2 h3 h4 hK ha hg hdb he hpl)
structure Blt(mg:Str->Option Value):Prop where
 len:mg "len" = none
 abs:mg "abs" = none
 all:mg "all" = none
 any:mg "any" = none
 isi:mg "isinstance" = none
 int:mg "int" = none
 bool:mg "bool" = none
 str:mg "str" = none
 tuple:mg "tuple" = none
 list:mg "list" = none
 range:mg "range" = none
 zip:mg "zip" = none
 enum:mg "enumerate" = none
 max:mg "max" = none
 min:mg "min" = none
 sorted:mg "sorted" = none
private theorem bt_len:bootBuiltins "len" = some (.builtin "len"):=by decide +kernel
private theorem bt_abs:bootBuiltins "abs" = some (.builtin "abs"):=by decide +kernel
private theorem bt_all:bootBuiltins "all" = some (.builtin "all"):=by decide +kernel
private theorem bt_any:bootBuiltins "any" = some (.builtin "any"):=by decide +kernel
private theorem bt_int:bootBuiltins "int" = some (.type "int"):=by decide +kernel
private theorem bt_tuple:bootBuiltins "tuple" = some (.type "tuple"):=by decide +kernel
private theorem bt_list:bootBuiltins "list" = some (.type "list"):=by decide +kernel
end L2
namespace L2
def isB(d:D)(p:Bool->Prop):Prop:=∃ c,d=.bl c/\p c
@[simp] private theorem q_isB{b:Bool}{p:Bool->Prop}:isB (.bl b) p↔p b:=⟨fun⟨_,e,h⟩=>by cases e;exact h,fun h=>⟨_,rfl,h⟩⟩
@[simp] private theorem q_sNext{F rho n}:sNext F rho n=F.nx rho n:=rfl
@[simp] private theorem q_sSeq{t u F rho n}:sSeq t u F rho n=t { F with nx:=u F } rho n:=rfl
@[simp] private theorem q_sRet{te F rho n}:sRet te F rho n=te rho n F.rt:=rfl
@[simp] private theorem q_sIf{c t u F rho n}:sIf c t u F rho n=c rho n fun b n1=>if b=true then t F rho n1 else u F rho n1:=rfl
@[simp] private theorem q_sSet{i te F rho n}:sSet i te F rho n=(i<rho.length/\te rho n fun d n1=>F.nx (rho.set i (some d)) n1):=rfl
@[simp] private theorem q_sUnp{te g F rho n}:sUnp te g F rho n=te rho n fun d n1=>g d rho fun rho'=>F.nx rho' n1:=rfl
@[simp] private theorem q_sOwn{i t F rho n}:sOwn i t F rho n=(i<rho.length/\t rho n fun es n1=>es.length<=sizeLine/\F.nx (rho.set i (some (.own es))) n1):=rfl
@[simp] private theorem q_sDrop{te F rho n}:sDrop te F rho n=te rho n fun _ n1=>F.nx rho n1:=rfl
@[simp] private theorem q_sFrz{i t F rho n}:sFrz i t F rho n=∃ es,rho[i]?=some (some (.own es))/\t F (rho.set i (some (.lst es))) n:=rfl
@[simp] private theorem q_sAppend{i t F rho n}:sAppend i t F rho n=∃ es,rho[i]?=some (some (.own es))/\es.length<sizeLine/\t rho n fun ds n1=>∃ d,ds=[d]/\F.nx (rho.set i (some (.own (es++[d])))) n1:=rfl
@[simp] private theorem q_gdName{i d rho P}:gdName i d rho P=(i<rho.length/\P (rho.set i (some d))):=rfl
@[simp] private theorem q_dVar{i rho n P}:dVar i rho n P=atV rho[i]? fun d=>P d n:=rfl
@[simp] private theorem q_atV{d k}:atV (some (some d)) k=atD d k:=rfl
@[simp] private theorem q_atD1{k}:atD .non k=k .non:=rfl
@[simp] private theorem q_atD2{k b}:atD (.bl b) k=k (.bl b):=rfl
@[simp] private theorem q_atD3{k b}:atD (.int b) k=k (.int b):=rfl
@[simp] private theorem q_atD4{k b}:atD (.str b) k=k (.str b):=rfl
@[simp] private theorem q_atD5{k b}:atD (.tup b) k=k (.tup b):=rfl
@[simp] private theorem q_atD6{k b}:atD (.lst b) k=k (.lst b):=rfl
@[simp] private theorem q_atD7{k b}:atD (.fz b) k=k (.fz b):=rfl
@[simp] private theorem q_atD8{k}:atD .st k=k .st:=rfl
@[simp] private theorem q_atD9{k a b}:atD (.dct a b) k=k (.dct a b):=rfl
@[simp] private theorem q_atD{d k}(h:notOwn d=true):atD d k=k d:=propext ⟨fun z=>(atD_inv z).2,atD_mk h⟩
@[simp] private theorem q_dC{d rho n P}:dC d rho n P=P d n:=rfl
@[simp] private theorem q_dOp{rd ta tb rho n P}:dOp rd ta tb rho n P=ta rho n fun d1 n1=>tb rho n1 fun d2 n2=>rd d1 d2 fun d=>P d n2:=rfl
@[simp] private theorem q_dTest{t rho n P}:dTest t rho n P=t rho n fun d n'=>isB d fun b=>P b n':=rfl
@[simp] private theorem q_rdIsN{d1 d2 k}:rdIsN d1 d2 k=(d2=.non/\k (.bl (isNon d1))):=rfl
@[simp] private theorem q_rdNotN{d1 d2 k}:rdNotN d1 d2 k=(d2=.non/\k (.bl (!isNon d1))):=rfl
@[simp] private theorem q_bAnd{t u rho n P}:bAnd t u rho n P=t rho n fun c n1=>if c=true then u rho n1 P else P false n1:=rfl
@[simp] private theorem q_bOr{t u rho n P}:bOr t u rho n P=t rho n fun c n1=>if c=true then P true n1 else u rho n1 P:=rfl
@[simp] private theorem q_bNot{t rho n P}:bNot t rho n P=t rho n fun c n1=>P (!c) n1:=rfl
@[simp] private theorem q_bYes{rho n P}:bYes rho n P=P true n:=rfl
@[simp] private theorem q_dAnd{ta tb rho n P}:dAnd ta tb rho n P=ta rho n fun d n1=>isB d fun c=>if c=true then tb rho n1 P else P (.bl false) n1:=rfl
@[simp] private theorem q_dOr{ta tb rho n P}:dOr ta tb rho n P=ta rho n fun d n1=>isB d fun c=>if c=true then P (.bl true) n1 else tb rho n1 P:=rfl
@[simp] private theorem q_dNot{ta rho n P}:dNot ta rho n P=ta rho n fun d n1=>isB d fun c=>P (.bl (!c)) n1:=rfl
@[simp] private theorem q_dIf{t ta tb rho n P}:dIf t ta tb rho n P=t rho n fun c n1=>if c=true then ta rho n1 P else tb rho n1 P:=rfl
@[simp] private theorem q_aNil{rho n P}:aNil rho n P=P [] n:=rfl
@[simp] private theorem q_aCons{t r rho n P}:aCons t r rho n P=t rho n fun d n1=>r rho n1 fun ds n2=>P (d::ds) n2:=rfl
@[simp] private theorem q_dTup{t rho n P}:dTup t rho n P=t rho n fun ds n1=>ds.length<=sizeLine/\P (.tup ds) n1:=rfl
@[simp] private theorem q_dLst{t rho n P}:dLst t rho n P=t rho n fun ds n1=>ds.length<=sizeLine/\P (.lst ds) n1:=rfl
@[simp] private theorem q_dCall{rd t rho n P}:dCall rd t rho n P=t rho n fun es n1=>rd es fun d=>P d n1:=rfl
@[simp] private theorem q_dFn{k t t1 rho n P}:dFn k t t1 rho n P=t1 rho n fun es n1=>es.length=k/\t es n1 P:=rfl
@[simp] private theorem q_iSeqD{ta rho n P}:iSeqD ta rho n P=ta rho n fun d n1=>∃ es,(d=.lst es\/d=.tup es)/\P es n1:=rfl
@[simp] private theorem q_iRngD{t rho n P}:iRngD t rho n P=t rho n fun es n1=>∃ j:Int,es=[.int j]/\-(2^62)<=j/\j<2^62/\P (rngD 0 j.toNat) n1:=rfl
@[simp] private theorem q_iEnumD{t rho n P}:iEnumD t rho n P=t rho n fun es n1=>∃ fs,es=[.lst fs]/\P (enumD fs) n1:=rfl
@[simp] private theorem q_dSlL{lo hi ta rho n P}:dSlL lo hi ta rho n P=ta rho n fun d n1=>∃ fs,(d=.lst fs\/d=.fz fs)/\P (.lst (cutL fs lo hi)) n1:=rfl
@[simp] private theorem q_gdNil{rho P}:gdNil [] rho P↔P rho:=⟨fun h=>h.2,fun h=>⟨rfl,h⟩⟩
@[simp] private theorem q_gdCons{g gs d r rho P}:gdCons g gs (d::r) rho P↔g d rho fun rho'=>gs r rho' P:=⟨fun⟨_,_,e,h⟩=>by cases e;exact h,fun h=>⟨_,_,rfl,h⟩⟩
@[simp] private theorem q_gdTup{k gs es rho P}:gdTup k gs (.tup es) rho P↔(es.length=k/\gs es rho P):=⟨fun⟨_,e,h⟩=>by cases e;exact h,fun h=>⟨_,rfl,h⟩⟩
@[simp] private theorem q_rdI{C g i j k}:rdI C g (.int i) (.int j) k=(C i j/\k (g i j)):=rfl
@[simp] private theorem q_rdI0{g i j k}:rdI0 g (.int i) (.int j) k=k (g i j):=rfl
@[simp] private theorem q_rdB{f c d k}:rdB f (.bl c) (.bl d) k=k (.bl (f c d)):=rfl
@[simp] private theorem q_rdIxL{es i k}:rdIx (.lst es) (.int i) k↔∃ d,atI es i=some d/\k d:=⟨fun⟨_,_,d,e,e',h⟩=>by cases e' ;rcases e with e | e | e<;>cases e;exact⟨d,h⟩,fun⟨d,h⟩=>⟨_,_,d,.inl rfl,rfl,h⟩⟩
@[simp] private theorem q_rdIxT{es i k}:rdIx (.tup es) (.int i) k↔∃ d,atI es i=some d/\k d:=⟨fun⟨_,_,d,e,e',h⟩=>by cases e' ;rcases e with e | e | e<;>cases e;exact⟨d,h⟩,fun⟨d,h⟩=>⟨_,_,d,.inr (.inl rfl),rfl,h⟩⟩
@[simp] private theorem q_rdIxF{es i k}:rdIx (.fz es) (.int i) k↔∃ d,atI es i=some d/\k d:=⟨fun⟨_,_,d,e,e',h⟩=>by cases e' ;rcases e with e | e | e<;>cases e;exact⟨d,h⟩,fun⟨d,h⟩=>⟨_,_,d,.inr (.inr rfl),rfl,h⟩⟩
@[simp] private theorem q_rdCat{es fs k}:rdCat (.lst es) (.lst fs) k↔(es.length+fs.length<=sizeLine/\k (.lst (es++fs))):=⟨fun⟨_,_,e,e',h⟩=>by cases e;cases e';exact h,fun h=>⟨_,_,rfl,rfl,h⟩⟩
@[simp] private theorem q_rdRepT{es i k}:rdRepT (.tup es) (.int i) k↔(es≠[]/\1<=i/\es.length*i.toNat<=sizeLine/\k (.tup (replicate i.toNat es).flatten)):=⟨fun⟨_,_,e,e',h⟩=>by cases e;cases e';exact h,fun h=>⟨_,_,rfl,rfl,h⟩⟩
def pair2(es:List D)(p:D->D->Prop):Prop:=∃ d d',es=[d,d']/\p d d'
@[simp] private theorem q_pair2{a b p}:pair2 [a,b] p↔p a b:=⟨fun⟨_,_,e,h⟩=>by cases e;exact h,fun h=>⟨_,_,rfl,h⟩⟩
@[simp] private theorem q_sPar{i j t F rho n}:sPar i j t F rho n=(i<rho.length/\j<rho.length/\t rho n fun es n1=>pair2 es fun d d'=>F.nx ((rho.set i (some d)).set j (some d')) n1):=rfl
@[simp] private theorem q_rdEqI{i j:Int}{k}:rdEq (.int i) (.int j) k↔k (.bl (decide (i=j))):=by
 have e:decide (ofS (.int i)=ofS (.int j))=decide (i=j):=by simp[ofS]
 unfold rdEq
 rw[e]
 exact⟨fun h=>h.2.2.2,fun h=>⟨rfl,rfl,rfl,h⟩⟩
@[simp] private theorem q_rdEqB{i j:Bool}{k}:rdEq (.bl i) (.bl j) k↔k (.bl (decide (i=j))):=by
 have e:decide (ofS (.bl i)=ofS (.bl j))=decide (i=j):=by simp[ofS]
 unfold rdEq
 rw[e]
 exact⟨fun h=>h.2.2.2,fun h=>⟨rfl,rfl,rfl,h⟩⟩
@[simp] private theorem q_rdNeI{i j:Int}{k}:rdNe (.int i) (.int j) k↔k (.bl (!decide (i=j))):=by
 have e:decide (ofS (.int i)=ofS (.int j))=decide (i=j):=by simp[ofS]
 unfold rdNe
 rw[e]
 exact⟨fun h=>h.2.2.2,fun h=>⟨rfl,rfl,rfl,h⟩⟩
@[simp] private theorem q_rdNeB{i j:Bool}{k}:rdNe (.bl i) (.bl j) k↔k (.bl (!decide (i=j))):=by
 have e:decide (ofS (.bl i)=ofS (.bl j))=decide (i=j):=by simp[ofS]
 unfold rdNe
 rw[e]
 exact⟨fun h=>h.2.2.2,fun h=>⟨rfl,rfl,rfl,h⟩⟩
@[simp] private theorem q_kLenL{fs k}:kLen [.lst fs] k↔k (.int fs.length):=⟨fun⟨_,e,h⟩=>by rcases e with e | e | e<;>cases e;exact h,fun h=>⟨_,.inl rfl,h⟩⟩
@[simp] private theorem q_kLenT{fs k}:kLen [.tup fs] k↔k (.int fs.length):=⟨fun⟨_,e,h⟩=>by rcases e with e | e | e<;>cases e;exact h,fun h=>⟨_,.inr (.inl rfl),h⟩⟩
@[simp] private theorem q_kLenF{fs k}:kLen [.fz fs] k↔k (.int fs.length):=⟨fun⟨_,e,h⟩=>by rcases e with e | e | e<;>cases e;exact h,fun h=>⟨_,.inr (.inr rfl),h⟩⟩
@[simp] private theorem q_kAbs{i k}:kAbs [.int i] k↔k (.int (if i<0 then -i else i)):=⟨fun⟨_,e,h⟩=>by cases e;exact h,fun h=>⟨_,rfl,h⟩⟩
@[simp] private theorem q_kIntB{i k}:kIntB [.bl i] k↔k (.int (if i then 1 else 0)):=⟨fun⟨_,e,h⟩=>by cases e;exact h,fun h=>⟨_,rfl,h⟩⟩
@[simp] private theorem q_kTupleL{fs k}:kTuple [.lst fs] k↔k (.tup fs):=⟨fun⟨_,e,h⟩=>by rcases e with e | e<;>cases e;exact h,fun h=>⟨_,.inl rfl,h⟩⟩
@[simp] private theorem q_kTupleT{fs k}:kTuple [.tup fs] k↔k (.tup fs):=⟨fun⟨_,e,h⟩=>by rcases e with e | e<;>cases e;exact h,fun h=>⟨_,.inr rfl,h⟩⟩
@[simp] private theorem q_kListL{fs k}:kList [.lst fs] k↔k (.lst fs):=⟨fun⟨_,e,h⟩=>by rcases e with e | e<;>cases e;exact h,fun h=>⟨_,.inl rfl,h⟩⟩
@[simp] private theorem q_kListT{fs k}:kList [.tup fs] k↔k (.lst fs):=⟨fun⟨_,e,h⟩=>by rcases e with e | e<;>cases e;exact h,fun h=>⟨_,.inr rfl,h⟩⟩
@[simp] private theorem q_dStIx{i tb rho n P}:dStIx i tb rho n P=(rho[i]?=some (some .st)/\tb rho n fun d n1=>∃ j:Int,d=.int j/\0<=j/\j<n1/\∀ z:Int,0<=z->(j=1->z<2147483647)->P (.int z) n1):=rfl
@[simp] private theorem q_sStSet{i te tb F rho n}:sStSet i te tb F rho n=(rho[i]?=some (some .st)/\te rho n fun d n1=>tb rho n1 fun d2 n2=>∃ j z:Int,d=.int z/\d2=.int j/\0<=j/\j<n2/\0<=z/\(j=1->z<2147483647)/\F.nx rho n2):=rfl
@[simp] private theorem q_no1:notOwn .non=true:=rfl
@[simp] private theorem q_no2{b}:notOwn (.bl b)=true:=rfl
@[simp] private theorem q_no3{b}:notOwn (.int b)=true:=rfl
@[simp] private theorem q_no4{b}:notOwn (.str b)=true:=rfl
@[simp] private theorem q_no5{b}:notOwn (.tup b)=true:=rfl
@[simp] private theorem q_no6{b}:notOwn (.lst b)=true:=rfl
@[simp] private theorem q_no7:notOwn .st=true:=rfl
@[simp] private theorem q_no8{b}:notOwn (.fz b)=true:=rfl
@[simp] private theorem q_in1:isNon .non=true:=rfl
@[simp] private theorem q_in2{b}:isNon (.bl b)=false:=rfl
@[simp] private theorem q_in3{b}:isNon (.int b)=false:=rfl
@[simp] private theorem q_in4{b}:isNon (.str b)=false:=rfl
@[simp] private theorem q_in5{b}:isNon (.tup b)=false:=rfl
@[simp] private theorem q_in6{b}:isNon (.lst b)=false:=rfl
@[simp] private theorem q_so1{b}:seqOf (.lst b)=some (true,b):=rfl
@[simp] private theorem q_so2{b}:seqOf (.tup b)=some (false,b):=rfl
@[simp] private theorem q_size0:(0<=sizeLine)=True:=by simp
@[simp] private theorem q_size1:(1<=sizeLine)=True:=by simp[sizeLine]
@[simp] private theorem q_size2:(2<=sizeLine)=True:=by simp[sizeLine]
@[simp] private theorem q_size3:(3<=sizeLine)=True:=by simp[sizeLine]
@[simp] private theorem q_size4:(4<=sizeLine)=True:=by simp[sizeLine]
@[simp] private theorem q_size5:(5<=sizeLine)=True:=by simp[sizeLine]
@[simp] private theorem q_size6:(6<=sizeLine)=True:=by simp[sizeLine]
@[simp] private theorem q_size7:(7<=sizeLine)=True:=by simp[sizeLine]
private theorem le_size{k:Nat}(h:k<=1000:=by decide):k<=sizeLine:=Nat.le_trans h (by decide)
private theorem lt_size{k:Nat}(h:k<=1000:=by decide):k<sizeLine:=Nat.lt_of_le_of_lt h (by decide)
def compIn(own:Nat)(g:TGD)(tt:TBD)(te:TD)(rho:Rho)(P:D->Nat->Prop)(items:List D)(n1:Nat):Prop:=items.length<=sizeLine/\∃ J:Nat->List D->Nat->Prop,J 0 [] n1 /\
 (∀ i d acc n,items[i]?=some d->J i acc n->g d (replicate own none++rho) fun rho'=>rho'.drop own=rho/\tt rho' n fun c n2=>if c=true then te rho' n2 fun e n3=>J (i+1) (acc++[e]) n3 else J (i+1) acc n2) /\
 ∀ acc n,J items.length acc n->P (.lst acc) n
@[simp] private theorem q_dComp{it own g tt te rho n P}:dComp it own g tt te rho n P=it rho n (compIn own g tt te rho P):=rfl
def loopIn(g:TGD)(tb:TSD)(F:EndsD)(rho:Rho)(items:List D)(n1:Nat):Prop:=∃ J:Nat->Rho->Nat->Prop,J 0 rho n1 /\
 (∀ i d rho n,items[i]?=some d->J i rho n->g d rho fun rho'=>tb { F with nx:=J (i+1),ct:=J (i+1),bk:=F.nx } rho' n)/\∀ rho n,J items.length rho n->F.nx rho n
@[simp] private theorem q_sFor{it g tb F rho n}:sFor it g tb F rho n=it rho n (loopIn g tb F rho):=rfl
private theorem comp_map{it:TID}{own:Nat}{g:TGD}{te:TD}{rho:Rho}{n:Nat}{P:D->Nat->Prop}{α:Type}(enc:α->D)(f:α->D)(xs:List α)
  (hi:∀ R,R (xs.map enc) n->it rho n R) (hz:xs.length<=sizeLine) (he:∀ x∈xs,∀ Q,Q (f x) n->g (enc x) (replicate own none++rho) fun rho'=>rho'.drop own=rho/\te rho' n Q) (hP:P (.lst (xs.map f)) n):dComp it own g bYes te rho n P:=by
 refine hi _ ⟨by simpa using hz,fun i acc n'=>n'=n/\acc=(xs.take i).map f,⟨rfl,rfl⟩,?_,?_⟩
 ·rintro i d acc n' e ⟨rfl, rfl⟩
  rw[getElem?_map] at e
  cases q:xs[i]? with
  | none=>rw[q] at e;cases e
  | some x =>
   rw[q] at e
   cases e
   have hm:x∈xs:=mem_of_getElem? q
   refine he x hm (fun e n3=>n3=n'/\(xs.take i).map f++[e]=(xs.take (i+1)).map f) ⟨rfl,?_⟩
   rw[take_add_one,q]
   simp
 ·rintro acc n' ⟨rfl, rfl⟩
  rw[length_map,take_length]
  exact hP
end L2
namespace L2
private theorem atI_lt{α:Type}{xs:List α}{i:Int}(h0:0<=i)(h1:i<xs.length):∃ d,atI xs i=some d/\d∈xs:=by
 obtain⟨k,rfl⟩:=Int.eq_ofNat_of_zero_le h0
 have hk:k<xs.length:=by lia
 exact⟨xs[k],atI_nat (by simp[hk]),getElem_mem hk⟩
@[simp] private theorem q_at0{α:Type}{a:α}{l:List α}:atI (a::l) 0=some a:=atI_nat (j:=0) rfl
@[simp] private theorem q_at1{α:Type}{a b:α}{l:List α}:atI (a::b::l) 1=some b:=atI_nat (j:=1) rfl
@[simp] private theorem q_at2{α:Type}{a b c:α}{l:List α}:atI (a::b::c::l) 2=some c:=atI_nat (j:=2) rfl
@[simp] private theorem q_ownAt{es p}:ownAt (some (some (.own es))) p↔p es:=⟨fun⟨_,e,h⟩=>by cases e;exact h,fun h=>⟨_,rfl,h⟩⟩
@[simp] private theorem q_dOwnIx{i tb rho n P}:dOwnIx i tb rho n P=ownAt rho[i]? fun es=>tb rho n fun d n1=>∃ j c,d=.int j/\atI es j=some c/\P c n1:=rfl
@[simp] private theorem q_sOwnSet{i te tb F rho n}:sOwnSet i te tb F rho n=ownAt rho[i]? fun es=>te rho n fun d n1=>tb rho n1 fun d2 n2=>∃ j m,d2=.int j/\ixN es.length j=some m/\F.nx (rho.set i (some (.own (es.set m d)))) n2:=rfl
@[simp] private theorem q_ix30:ixN 3 0=some 0:=rfl
@[simp] private theorem q_ix31:ixN 3 1=some 1:=rfl
@[simp] private theorem q_ix32:ixN 3 2=some 2:=rfl
end L2
namespace L2
def spLawD(K:W.Frag):Sp:=fun vs H Q _=>∃ (a:Addr) (ns:List Int),vs=[.ref a]/\Only H/\SqL K H a (ns.map V.int)/\ns.length<=63/\∀ H',Q (.bl true) H'
def scriptD(ns:List Int):D:=.fz (ns.map D.int)
def onlyRho(ns:List Int)(N:Nat):Rho:=some (scriptD ns)::replicate (N-1) none
def midRho(ns:List Int)(i N:Nat):Rho:=(onlyRho ns N).set i (some .st)
private theorem reps_ints{K:W.Frag}{G:Option Addr}{Z:Addr->Prop}{H:Hp}:∀ {ns:List Int},Reps K G Z H (ns.map D.int) (ns.map V.int)
 | []=>.nil
 | n::ns=>.cons (Rep.ofS (d:=.int n) rfl) reps_ints
private theorem reps_ints_inv{K:W.Frag}{G:Option Addr}{Z:Addr->Prop}{H:Hp}:∀ {ns:List Int} {xs:List V},Reps K G Z H (ns.map D.int) xs->xs=ns.map V.int
 | [],xs,h=>by unfold Reps at h;exact h
 | n::ns,xs,h=>by
  obtain⟨v,r,rfl,h1,h2⟩:=Reps.split h
  rw[h1.int_inv,reps_ints_inv h2];rfl
section
variable {P:Program} {w:World} {K:W.Frag} {mg:Str->Option Value} {base:Heap}
private theorem Fun.okLaw{x qual:Str}{st:Stmt}{f:Addr}{fd:FuncData}{N:List Str}{p:Str}{k:Nat}{t:TSD}(F:Fun K x qual st f fd)(S:FnScope N [p] (defScope st))(n0:Nat)
  (body : ∀ (cdv : Value) (A0 : Around) (outer : List Env) (s : Shared) (H : Hp) (E : XK), Room k (A0.deeper (envOfC qual (defScope st) s.heap.objs.size f cdv)) ->
   PSsD ⟨K,none,fun _=>False,H⟩ (cxOf CX0 P w K mg base N qual (defScope st) f cdv A0 outer s H E).nox (defBody st) t)
  (h1:∀ (ns:List Int),ns.length<=63->t { nx:=fun _ _=>False,rt:=fun d _=>d=.bl true } (startD N [scriptD ns]) n0):FnOk P w K mg base CX0 (k+1) f fd [p] (spLawD K):=by
 with_unfolding_all
  exact(by
   refine F.ok S (fun vs H Q E h=>?_) (fun cdv A0 outer s H vs Q E hr h=>?_)
   ·obtain ⟨a, ns, rfl, _⟩ := h
    rfl
   ·obtain ⟨a, ns, rfl, hO, hS, hl, k⟩ := h
    refine⟨_,body cdv A0 outer s H E hr,?_⟩
    have rs:Reps K none (fun _=>False) H [scriptD ns] [.ref a]:=by
     refine .cons ?_ .nil
     unfold scriptD Rep
     refine⟨a,ns.map V.int,rfl,?_,reps_ints⟩
     rcases hS with (q | ⟨o,q⟩) | q
     ·rcases hO a with z | ⟨o, xs, z⟩
      ·rw[z] at q;cases q
      ·rw[z] at q;cases q
     ·exact .inl ⟨fun z=>z,o,q⟩
     ·exact .inr (.inr q)
    refine⟨startD N [scriptD ns],n0,_,[],[],⟨[],amo_start rs (fun b e=>by cases e) (fun b e=>by cases e) (fun b e=>e.elim)⟩,h1 ns hl,?_⟩
    refine⟨fun _ _ _ _ _ q=>q.elim,fun d n v rho2 sg2 H2 ⟨os2,I2⟩ q=>?_,fun _ _ _ _ _ q=>q.elim,fun _ _ _ _ _ q=>q.elim⟩
    subst q
    rw[I2.pop.2.bl_inv]
    exact k H2)
end
def sNew(i:Nat)(t:TF)(t1:TAD)(t2:TSD):TSD:=fun F rho n=>∃ ns:List Int,i<rho.length/\i≠0/\rho[0]?=some (some (scriptD ns))/\t1 rho n fun es n1=>∃ j:Int,es=[scriptD ns,.int j]/\n1=n/\t es n fun d n2=>∃ zs:List Int,d=.lst (zs.map D.int)/\zs.length=n/\(∀ x∈zs,0<=x)/\(∀ x,zs[1]?=some x->x<2147483647) /\
 t2 { nx:=fun rho' n'=>n'=n/\rho'.length=rho.length/\rho'[0]?=some (some (scriptD ns))/\F.nx (onlyRho ns rho.length) n,rt:=fun d n'=>n'=n/\scalD d=true/\F.rt d n,bk:=fun rho' n'=>n'=n/\rho'.length=rho.length/\rho'[0]?=some (some (scriptD ns))/\F.bk (onlyRho ns rho.length) n,ct:=fun rho' n'=>n'=n/\rho'.length=rho.length/\rho'[0]?=some (some (scriptD ns))/\F.ct (onlyRho ns rho.length) n } (midRho ns i rho.length) n
@[simp] private theorem q_noScript{ns:List Int}:notOwn (scriptD ns)=true:=rfl
@[simp] private theorem q_lenScript{ns:List Int}{k:D->Prop}:kLen [scriptD ns] k↔k (.int ns.length):=by unfold scriptD;simp
private theorem new_intro{i:Nat}{t:TF}{t1:TAD}{t2:TSD}{F:EndsD}{rho:Rho}{n:Nat}(ns:List Int)(hi:i<rho.length)(h0:i≠0)(hr:rho[0]?=some (some (scriptD ns)))(j:Int)(ht:t1 rho n fun es n1=>es=[scriptD ns,.int j]/\n1=n)
  (ht1:∀ (P P':List D->Nat->Prop),(∀ es n1,P es n1->P' es n1)->t1 rho n P->t1 rho n P')
  (h : t [scriptD ns, .int j] n fun d n2 => ∃ zs : List Int, d = .lst (zs.map D.int) /\ zs.length = n /\ (∀ x ∈ zs, 0 <= x) /\ (∀ x, zs[1]? = some x -> x < 2147483647) /\
   t2 { nx:=fun rho' n'=>n'=n/\rho'.length=rho.length/\rho'[0]?=some (some (scriptD ns))/\F.nx (onlyRho ns rho.length) n,rt:=fun d n'=>n'=n/\scalD d=true/\F.rt d n,bk:=fun rho' n'=>n'=n/\rho'.length=rho.length/\rho'[0]?=some (some (scriptD ns))/\F.bk (onlyRho ns rho.length) n,ct:=fun rho' n'=>n'=n/\rho'.length=rho.length/\rho'[0]?=some (some (scriptD ns))/\F.ct (onlyRho ns rho.length) n } (midRho ns i rho.length) n):sNew i t t1 t2 F rho n :=
 ⟨ns,hi,h0,hr,ht1 _ _ (fun es n1 ⟨e1,e2⟩=>⟨j,e1,e2,by rw[e1];exact h⟩) ht⟩
section
variable {A:AC} {X:Cx} {e:Expr} {es:List Expr} {t1:TAD} {t2:TSD} {pos p:Pos}
private theorem rep_script{K:W.Frag}{G G':Option Addr}{Z Z':Addr->Prop}{H H':Hp}{ns:List Int}{v:V}(h:Rep K G Z H (scriptD ns) v)(hz:∀ a o u,¬ Z a->H a=some (.frz o u)->¬ Z' a/\H' a=some (.frz o u)):Rep K G' Z' H' (scriptD ns) v:=by
 unfold scriptD Rep at h ⊢
 obtain⟨a,xs,rfl,sq,rs⟩:=h
 refine⟨a,xs,rfl,?_,by rw[reps_ints_inv rs];exact reps_ints⟩
 rcases sq with ⟨nz,o,e⟩ | sq
 ·obtain ⟨z1, z2⟩ := hz a o _ nz e
  exact .inl ⟨z1,o,z2⟩
 ·exact .inr sq
private theorem pssd_new{x g:Str}{i:Nat}{t:TF}{kk:Nat}{pos' spos:Pos}{rest:List Stmt}(hG:A.G=none)(hN:X.N.Nodup)(hi:X.N[i]?=some x)(hx:Loc X.env.scope x)(F:Fn X.prog X.w X.K X.mg X.base g kk 2 t)(hr:Room kk X.A)(hK:X.K=A.K)
  (ha:PAD A X (e::es) t1) (h2:∀ (c:Addr) (Z:Addr->Prop) (H0:Hp),PSsD ⟨A.K,some c,Z,H0⟩ X rest t2) (hg:Gl X g:=by rfl) (hdb:(g == ("__debug__" : Str))=false:=by decide) (he:starEach (e::es) X.env=(false,eval e X.env)::starEach es X.env:=by rfl) (hpl:(backTo pos (starEach es X.env)).any (·.1)=false:=by rfl)
  (hs:swapsWith (.Call (.Name g p) (e::es) [] pos) (some (.Name x pos')) spos.line X.env=pure false:=by rfl) (hf:X.fn x=true\/X.env.scope.names.lookup x=some .local:=by first | exact .inl rfl | exact .inr rfl | assumption) :
  PSsD A X (.Assign [.Name x pos'] (.Call (.Name g p) (e::es) [] pos) spos::rest) (sNew i t t1 t2):=by
 with_unfolding_all
  exact(by
   obtain⟨f,fd,ps,f1,f2,f3,f4⟩:=F.ex
   have c1:=ps_set (pos:=spos) hN hi hx (pe_call (p:=p) f1 hr hg f2 f3 f4 .nil pass0 ha hdb he hpl) hs hf
   have c2:PSs X rest (fun E' sg' H'=>∃ c Z H0,sOf ⟨A.K,some c,Z,H0⟩ t2 E' sg' H'):=fun pins s' sg' H' D I q=>by
    obtain⟨c,Z,H0,q⟩:=q
    exact h2 c Z H0 pins s' sg' H' D I q
   refine(pss_cons c1 c2).imp fun E sg H h=>?_
   obtain⟨rho,n,F,ds,vs,I,⟨ns,hi',h0,hr0,ht⟩,ok⟩:=h
   refine⟨rho,n,_,ds,vs,I,ht,fun ws H' n' es' ⟨os',J⟩ hl k=>?_⟩
   obtain⟨j,rfl,rfl,k⟩:=k
   obtain⟨J1,rs⟩:=J.split hl
   obtain⟨v1,v2,rfl,r1,r2⟩:=reps2 rs
   have r1':Rep A.K none (fun a=>H' a≠none/\¬ ∃ o u,H' a=some (.frz o u)) H' (scriptD ns) v1:=rep_script r1 fun a o u _ e=>⟨fun z=>z.2 ⟨o,u,e⟩,e⟩
   have r2':Rep A.K none (fun a=>H' a≠none/\¬ ∃ o u,H' a=some (.frz o u)) H' (.int j) v2:=by rw[r2.int_inv];exact Rep.ofS (d:=.int j) rfl
   rw[append_nil,hK]
   refine⟨none,fun a=>H' a≠none/\¬ ∃ o u,H' a=some (.frz o u),n',_,_,rfl,.cons r1' (.cons r2' .nil),fun b e=>(by cases e),fun b e=>(by cases e),fun b z=>z.1,k,fun v H2 n2 d fr st r q=>?_⟩
   obtain⟨zs,rfl,q1,q2,q3,q⟩:=q
   obtain⟨c,xs,rfl,sq,rr⟩:=r.lst_inv
   rw[reps_ints_inv rr] at sq
   have hc:H' c=none:=by
    cases z:H' c with
    | none=>rfl
    | some o =>
     have z2:=fr c o (by simp) z
     rw[sq.2] at z2
     cases z2
     exact absurd ⟨by rw[z];simp,fun⟨o,u,z3⟩=>by rw[z] at z3;cases z3⟩ sq.1
   have ne:∀ {a:Addr} {o:HO},H' a=some o->a≠c:=fun {a o} e h=>by rw[h,hc] at e;cases e
   have back:∀ {os:List (Nat × Addr)} {rho' rho2:Rho} {sg':St} {H3:Hp} {ds3:List D} {vs3:List V},AmO ⟨A.K,some c,fun b=>Zof A os' b\/b=c,H2⟩ os n' rho' sg' H3 ds3 vs3->rho2.length=sg'.length->(∀ j d,rho2[j]?=some (some d)->∃ v,sg'[j]?=some (some v)/\Rep A.K A.G (Zof A []) H3 d v)->AmO A [] n' rho2 sg' H3 ds vs:=fun {os rho' rho2 sg' H3 ds3 vs3} I3 hl2 hs2=>by
    have keep:∀ a o,H' a=some o->H3 a=some o:=fun a o e=>I3.fr a o (fun z=>ne e (Option.some.inj z).symm) (fr a o (by simp) e)
    refine⟨hl2,fun j d e=>?_,?_,.nil,fun p hp=>(by simp at hp),fun b e=>(by rw[hG] at e;cases e),J1.gz,fun a o z e=>keep a o (J1.fr a o z e),J1.z0⟩
    ·obtain ⟨v, e1, e2⟩ := hs2 j d e
     exact⟨v,e1,SlotR.of e2⟩
    ·refine Reps.mono (fun a _ z => ?_) (fun a o _ e => keep a o e) _ _ J1.pend
     rcases z with z | ⟨p,hp,_⟩
     ·exact .inl z
     ·simp at hp
   have scr:∀ {os:List (Nat × Addr)} {rho':Rho} {sg':St} {H3:Hp} {ds3:List D} {vs3:List V},AmO ⟨A.K,some c,fun b=>Zof A os' b\/b=c,H2⟩ os n' rho' sg' H3 ds3 vs3->rho'[0]?=some (some (scriptD ns))->rho.length=sg'.length->AmO A [] n' (onlyRho ns rho.length) sg' H3 ds vs:=fun {os rho' sg' H3 ds3 vs3} I3 e0 hl3=>by
    refine back I3 (by rw[<- hl3];simp[onlyRho];lia) fun j d e=>?_
    unfold onlyRho at e
    cases j with
    | zero =>
     cases e
     obtain⟨v,e1,e2⟩:=I3.slot 0 _ e0
     have e3:=SlotR.rep (d:=scriptD ns) rfl e2
     refine⟨v,e1,rep_script e3 fun a o u nz e=>⟨fun z=>nz ?_,e⟩⟩
     rcases z with z | ⟨p,hp,_⟩
     ·exact .inl (.inl (.inl z))
     ·simp at hp
    | succ j =>
     rw[List.getElem?_cons_succ,getElem?_replicate] at e
     split at e<;>cases e
   have hl0:rho.length=sg.length:=J1.len
   refine⟨c,fun b=>Zof A os' b\/b=c,H2,midRho ns i rho.length,n',_,[],[],⟨[],?_⟩,q,?_⟩
   ·refine ⟨by simp [midRho, onlyRho, hl0]; lia, fun j d e => ?_, .nil, .nil, fun p hp => by simp at hp, fun b e => ?_, fun b e => ?_, fun b o _ e => e, fun b e => ?_⟩
    ·unfold midRho at e
     by_cases hj:j=i
     ·subst hj
      rw[getElem?_set_self (by simp[onlyRho];lia)] at e
      cases e
      exact⟨.ref c,getElem?_set_self (by lia),SlotR.of (by unfold Rep;exact⟨c,rfl,rfl⟩)⟩
     ·rw [List.getElem?_set_ne (Ne.symm hj)] at e
      unfold onlyRho at e
      cases j with
      | zero =>
       cases e
       obtain⟨v,e1,e2⟩:=J1.slot 0 _ hr0
       have e3:=SlotR.rep (d:=scriptD ns) rfl e2
       refine⟨v,by rw[getElem?_set_ne h0];exact e1,SlotR.of (rep_script e3 fun a o u nz e=>⟨fun z=>?_,fr a _ (by simp) e⟩)⟩
       rcases z with (z | z) | ⟨p,hp,_⟩
       ·exact nz z
       ·exact ne e z
       ·simp at hp
      | succ j =>
       rw[List.getElem?_cons_succ,getElem?_replicate] at e
       split at e<;>cases e
    ·cases e
     exact⟨zs,0,0,sq.2,q1,q2,q3⟩
    ·exact .inr (Option.some.inj e).symm
    ·rcases e with e | e
     ·have := J1.zH b e
      cases z:H' b with
      | none=>exact absurd z this
      | some o =>
       show H2 b≠none
       rw[fr b o (by simp) z];simp
     ·show H2 b ≠ none
      rw[e,sq.2];simp
   ·refine ⟨fun rho3 n3 sg3 H3 ⟨os3, I3⟩ q => ?_, fun d n3 v rho3 sg3 H3 ⟨os3, I3⟩ q => ?_, fun rho3 n3 sg3 H3 ⟨os3, I3⟩ q => ?_, fun rho3 n3 sg3 H3 ⟨os3, I3⟩ q => ?_⟩
    ·obtain ⟨rfl, l3, e3, q⟩ := q
     exact ok.nx _ _ _ _ ⟨[],scr I3 e3 (by rw[<- l3];exact I3.len)⟩ q
    ·obtain ⟨rfl, hd, q⟩ := q
     have I4:AmO A [] n3 (replicate sg3.length none) sg3 H3 ds vs:=back I3 (by simp) fun j d e=>by
      rw[getElem?_replicate] at e
      split at e<;>cases e
     refine ok.rt _ _ _ _ _ _ ⟨[],I4.push ?_⟩ q
     rw[I3.pop.2.toS hd]
     exact Rep.ofS hd
    ·obtain ⟨rfl, l3, e3, q⟩ := q
     exact ok.bk _ _ _ _ ⟨[],scr I3 e3 (by rw[<- l3];exact I3.len)⟩ q
    ·obtain ⟨rfl, l3, e3, q⟩ := q
     exact ok.ct _ _ _ _ ⟨[],scr I3 e3 (by rw[<- l3];exact I3.len)⟩ q)
end
end L2
namespace L2
open PySem PySem.Spec PyProof.Rows PySem.SeqAt
mutual
def eqD:D->D->Bool
 | .non,.non=>true
 | .bl a,.bl b=>a == b
 | .bl a,.int i=>(if a then 1 else 0) == i
 | .int i,.bl a=>i == (if a then 1 else 0)
 | .int i,.int j=>i == j
 | .str x,.str y=>x == y
 | .tup xs,.tup ys=>eqDs xs ys
 | .lst xs,.lst ys=>eqDs xs ys
 | _,_=>false
def eqDs:List D->List D->Bool
 | [],[]=>true
 | x::xs,y::ys=>eqD x y&&eqDs xs ys
 | _,_=>false
end
mutual
def okE:D->Nat->Bool
 | .non,_=>true
 | .bl _,_=>true
 | .int _,_=>true
 | .str _,_=>true
 | .tup ds,k=>match k with
  | 0=>false
  | k+1=>okEs ds k
 | .lst ds,k=>match k with
  | 0=>false
  | k+1=>okEs ds k
 | _,_=>false
def okEs:List D->Nat->Bool
 | [],_=>true
 | d::ds,k=>okE d k&&okEs ds k
end
private theorem okEs_mem:∀ {ds:List D} {k i:Nat} {d:D},okEs ds k=true->ds[i]?=some d->okE d k=true
 | [],k,i,d,_,e=>by simp at e
 | c::ds,k,0,d,h,e=>by
  simp at e;subst e
  unfold okEs at h
  rw[Bool.and_eq_true] at h
  exact h.1
 | c::ds,k,i+1,d,h,e=>by
  unfold okEs at h
  rw[Bool.and_eq_true] at h
  exact okEs_mem (i:=i) h.2 (by simpa using e)
def eAt(xs ys:List D)(j:Nat):Bool:=match xs[j]?,ys[j]? with
 | some x,some y=>eqD x y
 | _,_=>true
private theorem range_succ_all(n:Nat)(e:Nat->Bool):(List.range (n+1)).all e=(e 0&&(List.range n).all fun j=>e (j+1)):=by
 rw[List.range_succ_eq_map,all_cons,all_map]
 rfl
private theorem eqDs_all:∀ (xs ys:List D),((List.range (min xs.length ys.length)).all (eAt xs ys)&&xs.length == ys.length)=eqDs xs ys
 | [],[]=>by unfold eqDs;rfl
 | [],y::ys=>by unfold eqDs;simp
 | x::xs,[]=>by unfold eqDs;simp
 | x::xs,y::ys=>by
  have ih:=eqDs_all xs ys
  unfold eqDs
  rw[<- ih]
  have e1:min (x::xs).length (y::ys).length=min xs.length ys.length+1:=by simp only[length_cons];lia
  rw[e1,range_succ_all]
  have e2:((x::xs).length == (y::ys).length)=(xs.length == ys.length):=by simp
  rw[e2,Bool.and_assoc]
  rfl
private theorem eqDs_all_len{xs ys:List D}(h:xs.length=ys.length):(List.range xs.length).all (eAt xs ys)=eqDs xs ys:=by
 rw[<- eqDs_all,h]
 simp
private theorem eqDs_len{xs ys:List D}(h:xs.length≠ys.length):eqDs xs ys=false:=by
 rw[<- eqDs_all]
 simp[h]
private theorem eqDs_of:∀ {xs ys:List D},xs.length=ys.length->(∀ (j:Nat) (x y:D),xs[j]?=some x->ys[j]?=some y->eqD x y=true)->eqDs xs ys=true
 | [],[],_,_=>by unfold eqDs;rfl
 | [],y::ys,h,_=>by simp at h
 | x::xs,[],h,_=>by simp at h
 | x::xs,y::ys,h,q=>by
  unfold eqDs
  rw[q 0 x y rfl rfl,eqDs_of (by simpa using h) fun j a b ha hb=>q (j+1) a b (by simpa using ha) (by simpa using hb)]
  rfl
private theorem Reps.get2{K:W.Frag}{G:Option Addr}{Z:Addr->Prop}{H:Hp}{ds:List D}{vs:List V}{i:Nat}{d:D}{v:V}(h:Reps K G Z H ds vs)(e:ds[i]?=some d)(e':vs[i]?=some v):Rep K G Z H d v:=by
 obtain⟨u,h1,h2⟩:=h.get e
 rw[h1] at e';cases e'
 exact h2
section
variable {X:Cx} {pins:List (Addr × Obj)} {σ:St} {H:Hp} {s:Shared} {G:Option Addr} {Z:Addr->Prop}
private theorem rep_same(I:Inv X pins σ H s):∀ (k:Nat) (d1 d2:D) (v:V),okE d1 k=true->okE d2 k=true->Rep X.K G Z H d1 v->Rep X.K G Z H d2 v->eqD d1 d2=true:=by
 intro k
 induction k with
 | zero =>
  intro d1 d2 v h1 h2 r1 r2
  cases d1<;>cases d2<;>first
   | (simp[okE] at h1;done) | (simp[okE] at h2;done)
   | (have e1:=r1.toS rfl;have e2:=r2.toS rfl;rw[e1] at e2;simp[ofS] at e2;done)
   | (have e1:=r1.toS rfl;have e2:=r2.toS rfl;rw[e1] at e2;simp[ofS] at e2;simp[eqD,e2])
 | succ k ih =>
  have seq:∀ {ds es:List D} {xs:List V},okEs ds k=true->okEs es k=true->Reps X.K G Z H ds xs->Reps X.K G Z H es xs->eqDs ds es=true:=fun {ds es xs} h1 h2 r1 r2=>by
   refine eqDs_of (r1.length.symm.trans r2.length) fun j x y hx hy=>?_
   obtain⟨u,hu,ru⟩:=r1.get hx
   exact ih x y u (okEs_mem h1 hx) (okEs_mem h2 hy) ru (r2.get2 hy hu)
  intro d1 d2 v h1 h2 r1 r2
  cases d1<;>cases d2<;>try (first
   | (simp[okE] at h1;done) | (simp[okE] at h2;done)
   | (have e1:=r1.toS rfl;have e2:=r2.toS rfl;rw[e1] at e2;simp[ofS] at e2;done)
   | (have e1:=r1.toS rfl;have e2:=r2.toS rfl;rw[e1] at e2;simp[ofS] at e2;simp[eqD,e2];done)
   | (obtain⟨a,xs,e,_⟩:=r1.tup_inv;have e2:=r2.toS rfl;rw[e] at e2;simp[ofS] at e2;done)
   | (obtain⟨a,xs,e,_⟩:=r1.lst_inv;have e2:=r2.toS rfl;rw[e] at e2;simp[ofS] at e2;done)
   | (obtain⟨a,xs,e,_⟩:=r2.tup_inv;have e2:=r1.toS rfl;rw[e] at e2;simp[ofS] at e2;done)
   | (obtain⟨a,xs,e,_⟩:=r2.lst_inv;have e2:=r1.toS rfl;rw[e] at e2;simp[ofS] at e2;done))
  ·rename_i ds es
   obtain⟨a,xs,e,sq,rs⟩:=r1.tup_inv
   obtain⟨b,ys,e',sq',rs'⟩:=r2.tup_inv
   rw[e] at e';cases e'
   have:=I.tuple_inj sq.sq sq'.sq
   subst this
   unfold eqD
   exact seq (by simpa [okE] using h1) (by simpa [okE] using h2) rs rs'
  ·rename_i ds es
   obtain⟨a,xs,e,sq,rs⟩:=r1.tup_inv
   obtain⟨b,ys,e',sq',rs'⟩:=r2.lst_inv
   rw[e] at e';cases e'
   obtain⟨its,rv,pl,hz⟩:=I.tuple sq.sq
   obtain⟨its',rv',pl',hz'⟩:=I.list sq'.sq
   exact absurd rfl (ne_of_list_tuple pl'.isList (show s.heap.IsTuple a its.toArray from pl))
  ·rename_i ds es
   obtain⟨a,xs,e,sq,rs⟩:=r1.lst_inv
   obtain⟨b,ys,e',sq',rs'⟩:=r2.tup_inv
   rw[e] at e';cases e'
   obtain⟨its,rv,pl,hz⟩:=I.list sq.sq
   obtain⟨its',rv',pl',hz'⟩:=I.tuple sq'.sq
   exact absurd rfl (ne_of_list_tuple pl.isList (show s.heap.IsTuple a its'.toArray from pl'))
  ·rename_i ds es
   obtain⟨a,xs,e,sq,rs⟩:=r1.lst_inv
   obtain⟨b,ys,e',sq',rs'⟩:=r2.lst_inv
   rw[e] at e';cases e'
   have:=I.list_inj sq.sq sq'.sq
   subst this
   unfold eqD
   exact seq (by simpa [okE] using h1) (by simpa [okE] using h2) rs rs'
private theorem rcC{A:Around}{s:Shared}{y x:Value}{b c:Bool}(h:RcAt A s y x b)(e:b=c):RcAt A s y x c:=e ▸ h
private theorem rnC{A:Around}{s:Shared}{y x:Value}{b c:Bool}(h:RcNeAt A s y x b)(e:b=c):RcNeAt A s y x c:=e ▸ h
private theorem eqC{A:Around}{s:Shared}{y x:Value}{b c:Bool}(h:EqAt A s y x b)(e:b=c):EqAt A s y x c:=e ▸ h
def E3(A:Around)(s:Shared)(u1 u2:Value)(b:Bool):Prop:=EqAt A s u1 u2 b/\RcAt A s u1 u2 b/\RcNeAt A s u1 u2 (!b)
private theorem E3.cast{A:Around}{s:Shared}{y x:Value}{b c:Bool}(h:E3 A s y x b)(e:b=c):E3 A s y x c:=e ▸ h
def bothSeq:D->D->Bool
 | .tup _,.tup _=>true
 | .lst _,.lst _=>true
 | _,_=>false
private theorem eq_mix(I:Inv X pins σ H s){k:Nat}{d1 d2:D}{v1 v2:V}{u1 u2:Value}{A:Around}(h1:okE d1 k=true)(h2:okE d2 k=true)(r1:Rep X.K G Z H d1 v1)(r2:Rep X.K G Z H d2 v2)(q1:RelV v1 u1)(q2:RelV v2 u2)
  (hu:A.units<cLine) (hb:bothSeq d1 d2=false):E3 A s u1 u2 (eqD d1 d2):=by
 cases d1 with
 | non =>
  cases d2 with
  | non =>
   have e1:u1=.none:=by have:=r1.toS rfl;subst this;exact q1
   subst e1
   have e2:u2=.none:=by have:=r2.toS rfl;subst this;exact q2
   subst e2
   exact E3.cast ⟨EqAt.same _,RcAt.none_none,RcNeAt.none_none⟩ (by unfold eqD;rfl)
  | bl x2 =>
   have e1:u1=.none:=by have:=r1.toS rfl;subst this;exact q1
   subst e1
   have e2:u2=.bool x2:=by have:=r2.toS rfl;subst this;exact q2
   subst e2
   exact E3.cast ⟨EqAt.none_bool _,RcAt.none_bool _,RcNeAt.none_bool _⟩ (by unfold eqD;rfl)
  | int x2 =>
   have e1:u1=.none:=by have:=r1.toS rfl;subst this;exact q1
   subst e1
   obtain⟨t2,e2⟩:∃ t,u2=.int x2 t:=by have:=r2.toS rfl;subst this;exact q2
   subst e2
   exact E3.cast ⟨EqAt.none_int _ _,RcAt.none_int _ _,RcNeAt.none_int _ _⟩ (by unfold eqD;rfl)
  | str x2 =>
   have e1:u1=.none:=by have:=r1.toS rfl;subst this;exact q1
   subst e1
   obtain⟨t2,e2⟩:∃ t,u2=.str x2 t:=by have:=r2.toS rfl;subst this;exact q2
   subst e2
   exact E3.cast ⟨EqAt.none_str _ _,RcAt.none_str _ _,RcNeAt.none_str _ _⟩ (by unfold eqD;rfl)
  | tup x2 =>
   have e1:u1=.none:=by have:=r1.toS rfl;subst this;exact q1
   subst e1
   obtain⟨a2,xs2,w2,sq2,rs2⟩:=r2.tup_inv
   subst w2
   have e2:u2=.ref a2:=q2
   subst e2
   obtain⟨its2,rv2,pl2,hz2⟩:=I.tuple sq2.sq
   have L2:s.heap.IsTuple a2 its2.toArray:=pl2
   exact E3.cast ⟨EqAt.none_tuple L2 hu,RcAt.none_tuple L2 hu,RcNeAt.none_tuple L2 hu⟩ (by unfold eqD;rfl)
  | lst x2 =>
   have e1:u1=.none:=by have:=r1.toS rfl;subst this;exact q1
   subst e1
   obtain⟨a2,xs2,w2,sq2,rs2⟩:=r2.lst_inv
   subst w2
   have e2:u2=.ref a2:=q2
   subst e2
   obtain⟨its2,rv2,pl2,hz2⟩:=I.list sq2.sq
   have L2:=pl2.isList
   exact E3.cast ⟨EqAt.none_list L2 hu,RcAt.none_list L2 hu,RcNeAt.none_list L2 hu⟩ (by unfold eqD;rfl)
  | _=>simp[okE] at h2
 | bl x1 =>
  cases d2 with
  | non =>
   have e1:u1=.bool x1:=by have:=r1.toS rfl;subst this;exact q1
   subst e1
   have e2:u2=.none:=by have:=r2.toS rfl;subst this;exact q2
   subst e2
   exact E3.cast ⟨EqAt.bool_none _,RcAt.bool_none _,RcNeAt.bool_none _⟩ (by unfold eqD;rfl)
  | bl x2 =>
   have e1:u1=.bool x1:=by have:=r1.toS rfl;subst this;exact q1
   subst e1
   have e2:u2=.bool x2:=by have:=r2.toS rfl;subst this;exact q2
   subst e2
   exact E3.cast ⟨EqAt.bool_bool _ _,RcAt.bool_bool _ _,RcNeAt.bool_bool _ _⟩ (by unfold eqD;rfl)
  | int x2 =>
   have e1:u1=.bool x1:=by have:=r1.toS rfl;subst this;exact q1
   subst e1
   obtain⟨t2,e2⟩:∃ t,u2=.int x2 t:=by have:=r2.toS rfl;subst this;exact q2
   subst e2
   exact E3.cast ⟨EqAt.bool_int _ _ _,RcAt.bool_int _ _ _,RcNeAt.bool_int _ _ _⟩ (by unfold eqD;rfl)
  | str x2 =>
   have e1:u1=.bool x1:=by have:=r1.toS rfl;subst this;exact q1
   subst e1
   obtain⟨t2,e2⟩:∃ t,u2=.str x2 t:=by have:=r2.toS rfl;subst this;exact q2
   subst e2
   exact E3.cast ⟨EqAt.bool_str _ _ _,RcAt.bool_str _ _ _,RcNeAt.bool_str _ _ _⟩ (by unfold eqD;rfl)
  | tup x2 =>
   have e1:u1=.bool x1:=by have:=r1.toS rfl;subst this;exact q1
   subst e1
   obtain⟨a2,xs2,w2,sq2,rs2⟩:=r2.tup_inv
   subst w2
   have e2:u2=.ref a2:=q2
   subst e2
   obtain⟨its2,rv2,pl2,hz2⟩:=I.tuple sq2.sq
   have L2:s.heap.IsTuple a2 its2.toArray:=pl2
   exact E3.cast ⟨EqAt.bool_tuple _ L2 hu,RcAt.bool_tuple _ L2 hu,RcNeAt.bool_tuple _ L2 hu⟩ (by unfold eqD;rfl)
  | lst x2 =>
   have e1:u1=.bool x1:=by have:=r1.toS rfl;subst this;exact q1
   subst e1
   obtain⟨a2,xs2,w2,sq2,rs2⟩:=r2.lst_inv
   subst w2
   have e2:u2=.ref a2:=q2
   subst e2
   obtain⟨its2,rv2,pl2,hz2⟩:=I.list sq2.sq
   have L2:=pl2.isList
   exact E3.cast ⟨EqAt.bool_list _ L2 hu,RcAt.bool_list _ L2 hu,RcNeAt.bool_list _ L2 hu⟩ (by unfold eqD;rfl)
  | _=>simp[okE] at h2
 | int x1 =>
  cases d2 with
  | non =>
   obtain⟨t1,e1⟩:∃ t,u1=.int x1 t:=by have:=r1.toS rfl;subst this;exact q1
   subst e1
   have e2:u2=.none:=by have:=r2.toS rfl;subst this;exact q2
   subst e2
   exact E3.cast ⟨EqAt.int_none _ _,RcAt.int_none _ _,RcNeAt.int_none _ _⟩ (by unfold eqD;rfl)
  | bl x2 =>
   obtain⟨t1,e1⟩:∃ t,u1=.int x1 t:=by have:=r1.toS rfl;subst this;exact q1
   subst e1
   have e2:u2=.bool x2:=by have:=r2.toS rfl;subst this;exact q2
   subst e2
   exact E3.cast ⟨EqAt.int_bool _ _ _,RcAt.int_bool _ _ _,RcNeAt.int_bool _ _ _⟩ (by unfold eqD;rfl)
  | int x2 =>
   obtain⟨t1,e1⟩:∃ t,u1=.int x1 t:=by have:=r1.toS rfl;subst this;exact q1
   subst e1
   obtain⟨t2,e2⟩:∃ t,u2=.int x2 t:=by have:=r2.toS rfl;subst this;exact q2
   subst e2
   exact E3.cast ⟨EqAt.int_int _ _ _ _,RcAt.int_int _ _ _ _,RcNeAt.int_int _ _ _ _⟩ (by unfold eqD;rfl)
  | str x2 =>
   obtain⟨t1,e1⟩:∃ t,u1=.int x1 t:=by have:=r1.toS rfl;subst this;exact q1
   subst e1
   obtain⟨t2,e2⟩:∃ t,u2=.str x2 t:=by have:=r2.toS rfl;subst this;exact q2
   subst e2
   exact E3.cast ⟨EqAt.int_str _ _ _ _,RcAt.int_str _ _ _ _,RcNeAt.int_str _ _ _ _⟩ (by unfold eqD;rfl)
  | tup x2 =>
   obtain⟨t1,e1⟩:∃ t,u1=.int x1 t:=by have:=r1.toS rfl;subst this;exact q1
   subst e1
   obtain⟨a2,xs2,w2,sq2,rs2⟩:=r2.tup_inv
   subst w2
   have e2:u2=.ref a2:=q2
   subst e2
   obtain⟨its2,rv2,pl2,hz2⟩:=I.tuple sq2.sq
   have L2:s.heap.IsTuple a2 its2.toArray:=pl2
   exact E3.cast ⟨EqAt.int_tuple _ _ L2 hu,RcAt.int_tuple _ _ L2 hu,RcNeAt.int_tuple _ _ L2 hu⟩ (by unfold eqD;rfl)
  | lst x2 =>
   obtain⟨t1,e1⟩:∃ t,u1=.int x1 t:=by have:=r1.toS rfl;subst this;exact q1
   subst e1
   obtain⟨a2,xs2,w2,sq2,rs2⟩:=r2.lst_inv
   subst w2
   have e2:u2=.ref a2:=q2
   subst e2
   obtain⟨its2,rv2,pl2,hz2⟩:=I.list sq2.sq
   have L2:=pl2.isList
   exact E3.cast ⟨EqAt.int_list _ _ L2 hu,RcAt.int_list _ _ L2 hu,RcNeAt.int_list _ _ L2 hu⟩ (by unfold eqD;rfl)
  | _=>simp[okE] at h2
 | str x1 =>
  cases d2 with
  | non =>
   obtain⟨t1,e1⟩:∃ t,u1=.str x1 t:=by have:=r1.toS rfl;subst this;exact q1
   subst e1
   have e2:u2=.none:=by have:=r2.toS rfl;subst this;exact q2
   subst e2
   exact E3.cast ⟨EqAt.str_none _ _,RcAt.str_none _ _,RcNeAt.str_none _ _⟩ (by unfold eqD;rfl)
  | bl x2 =>
   obtain⟨t1,e1⟩:∃ t,u1=.str x1 t:=by have:=r1.toS rfl;subst this;exact q1
   subst e1
   have e2:u2=.bool x2:=by have:=r2.toS rfl;subst this;exact q2
   subst e2
   exact E3.cast ⟨EqAt.str_bool _ _ _,RcAt.str_bool _ _ _,RcNeAt.str_bool _ _ _⟩ (by unfold eqD;rfl)
  | int x2 =>
   obtain⟨t1,e1⟩:∃ t,u1=.str x1 t:=by have:=r1.toS rfl;subst this;exact q1
   subst e1
   obtain⟨t2,e2⟩:∃ t,u2=.int x2 t:=by have:=r2.toS rfl;subst this;exact q2
   subst e2
   exact E3.cast ⟨EqAt.str_int _ _ _ _,RcAt.str_int _ _ _ _,RcNeAt.str_int _ _ _ _⟩ (by unfold eqD;rfl)
  | str x2 =>
   obtain⟨t1,e1⟩:∃ t,u1=.str x1 t:=by have:=r1.toS rfl;subst this;exact q1
   subst e1
   obtain⟨t2,e2⟩:∃ t,u2=.str x2 t:=by have:=r2.toS rfl;subst this;exact q2
   subst e2
   exact E3.cast ⟨EqAt.str_str _ _ _ _,RcAt.str_str _ _ _ _,RcNeAt.str_str _ _ _ _⟩ (by unfold eqD;rfl)
  | tup x2 =>
   obtain⟨t1,e1⟩:∃ t,u1=.str x1 t:=by have:=r1.toS rfl;subst this;exact q1
   subst e1
   obtain⟨a2,xs2,w2,sq2,rs2⟩:=r2.tup_inv
   subst w2
   have e2:u2=.ref a2:=q2
   subst e2
   obtain⟨its2,rv2,pl2,hz2⟩:=I.tuple sq2.sq
   have L2:s.heap.IsTuple a2 its2.toArray:=pl2
   exact E3.cast ⟨EqAt.str_tuple _ _ L2 hu,RcAt.str_tuple _ _ L2 hu,RcNeAt.str_tuple _ _ L2 hu⟩ (by unfold eqD;rfl)
  | lst x2 =>
   obtain⟨t1,e1⟩:∃ t,u1=.str x1 t:=by have:=r1.toS rfl;subst this;exact q1
   subst e1
   obtain⟨a2,xs2,w2,sq2,rs2⟩:=r2.lst_inv
   subst w2
   have e2:u2=.ref a2:=q2
   subst e2
   obtain⟨its2,rv2,pl2,hz2⟩:=I.list sq2.sq
   have L2:=pl2.isList
   exact E3.cast ⟨EqAt.str_list _ _ L2 hu,RcAt.str_list _ _ L2 hu,RcNeAt.str_list _ _ L2 hu⟩ (by unfold eqD;rfl)
  | _=>simp[okE] at h2
 | tup x1 =>
  cases d2 with
  | non =>
   obtain⟨a1,xs1,w1,sq1,rs1⟩:=r1.tup_inv
   subst w1
   have e1:u1=.ref a1:=q1
   subst e1
   obtain⟨its1,rv1,pl1,hz1⟩:=I.tuple sq1.sq
   have L1:s.heap.IsTuple a1 its1.toArray:=pl1
   have e2:u2=.none:=by have:=r2.toS rfl;subst this;exact q2
   subst e2
   exact E3.cast ⟨EqAt.tuple_none L1 hu,RcAt.tuple_none L1 hu,RcNeAt.tuple_none L1 hu⟩ (by unfold eqD;rfl)
  | bl x2 =>
   obtain⟨a1,xs1,w1,sq1,rs1⟩:=r1.tup_inv
   subst w1
   have e1:u1=.ref a1:=q1
   subst e1
   obtain⟨its1,rv1,pl1,hz1⟩:=I.tuple sq1.sq
   have L1:s.heap.IsTuple a1 its1.toArray:=pl1
   have e2:u2=.bool x2:=by have:=r2.toS rfl;subst this;exact q2
   subst e2
   exact E3.cast ⟨EqAt.tuple_bool _ L1 hu,RcAt.tuple_bool _ L1 hu,RcNeAt.tuple_bool _ L1 hu⟩ (by unfold eqD;rfl)
  | int x2 =>
   obtain⟨a1,xs1,w1,sq1,rs1⟩:=r1.tup_inv
   subst w1
   have e1:u1=.ref a1:=q1
   subst e1
   obtain⟨its1,rv1,pl1,hz1⟩:=I.tuple sq1.sq
   have L1:s.heap.IsTuple a1 its1.toArray:=pl1
   obtain⟨t2,e2⟩:∃ t,u2=.int x2 t:=by have:=r2.toS rfl;subst this;exact q2
   subst e2
   exact E3.cast ⟨EqAt.tuple_int _ _ L1 hu,RcAt.tuple_int _ _ L1 hu,RcNeAt.tuple_int _ _ L1 hu⟩ (by unfold eqD;rfl)
  | str x2 =>
   obtain⟨a1,xs1,w1,sq1,rs1⟩:=r1.tup_inv
   subst w1
   have e1:u1=.ref a1:=q1
   subst e1
   obtain⟨its1,rv1,pl1,hz1⟩:=I.tuple sq1.sq
   have L1:s.heap.IsTuple a1 its1.toArray:=pl1
   obtain⟨t2,e2⟩:∃ t,u2=.str x2 t:=by have:=r2.toS rfl;subst this;exact q2
   subst e2
   exact E3.cast ⟨EqAt.tuple_str _ _ L1 hu,RcAt.tuple_str _ _ L1 hu,RcNeAt.tuple_str _ _ L1 hu⟩ (by unfold eqD;rfl)
  | tup x2 =>
   simp[bothSeq] at hb
  | lst x2 =>
   obtain⟨a1,xs1,w1,sq1,rs1⟩:=r1.tup_inv
   subst w1
   have e1:u1=.ref a1:=q1
   subst e1
   obtain⟨its1,rv1,pl1,hz1⟩:=I.tuple sq1.sq
   have L1:s.heap.IsTuple a1 its1.toArray:=pl1
   obtain⟨a2,xs2,w2,sq2,rs2⟩:=r2.lst_inv
   subst w2
   have e2:u2=.ref a2:=q2
   subst e2
   obtain⟨its2,rv2,pl2,hz2⟩:=I.list sq2.sq
   have L2:=pl2.isList
   exact E3.cast ⟨EqAt.tuple_list L1 L2 hu,RcAt.tuple_list L1 L2 hu,RcNeAt.tuple_list L1 L2 hu⟩ (by unfold eqD;rfl)
  | _=>simp[okE] at h2
 | lst x1 =>
  cases d2 with
  | non =>
   obtain⟨a1,xs1,w1,sq1,rs1⟩:=r1.lst_inv
   subst w1
   have e1:u1=.ref a1:=q1
   subst e1
   obtain⟨its1,rv1,pl1,hz1⟩:=I.list sq1.sq
   have L1:=pl1.isList
   have e2:u2=.none:=by have:=r2.toS rfl;subst this;exact q2
   subst e2
   exact E3.cast ⟨EqAt.list_none L1 hu,RcAt.list_none L1 hu,RcNeAt.list_none L1 hu⟩ (by unfold eqD;rfl)
  | bl x2 =>
   obtain⟨a1,xs1,w1,sq1,rs1⟩:=r1.lst_inv
   subst w1
   have e1:u1=.ref a1:=q1
   subst e1
   obtain⟨its1,rv1,pl1,hz1⟩:=I.list sq1.sq
   have L1:=pl1.isList
   have e2:u2=.bool x2:=by have:=r2.toS rfl;subst this;exact q2
   subst e2
   exact E3.cast ⟨EqAt.list_bool _ L1 hu,RcAt.list_bool _ L1 hu,RcNeAt.list_bool _ L1 hu⟩ (by unfold eqD;rfl)
  | int x2 =>
   obtain⟨a1,xs1,w1,sq1,rs1⟩:=r1.lst_inv
   subst w1
   have e1:u1=.ref a1:=q1
   subst e1
   obtain⟨its1,rv1,pl1,hz1⟩:=I.list sq1.sq
   have L1:=pl1.isList
   obtain⟨t2,e2⟩:∃ t,u2=.int x2 t:=by have:=r2.toS rfl;subst this;exact q2
   subst e2
   exact E3.cast ⟨EqAt.list_int _ _ L1 hu,RcAt.list_int _ _ L1 hu,RcNeAt.list_int _ _ L1 hu⟩ (by unfold eqD;rfl)
  | str x2 =>
   obtain⟨a1,xs1,w1,sq1,rs1⟩:=r1.lst_inv
   subst w1
   have e1:u1=.ref a1:=q1
   subst e1
   obtain⟨its1,rv1,pl1,hz1⟩:=I.list sq1.sq
   have L1:=pl1.isList
   obtain⟨t2,e2⟩:∃ t,u2=.str x2 t:=by have:=r2.toS rfl;subst this;exact q2
   subst e2
   exact E3.cast ⟨EqAt.list_str _ _ L1 hu,RcAt.list_str _ _ L1 hu,RcNeAt.list_str _ _ L1 hu⟩ (by unfold eqD;rfl)
  | tup x2 =>
   obtain⟨a1,xs1,w1,sq1,rs1⟩:=r1.lst_inv
   subst w1
   have e1:u1=.ref a1:=q1
   subst e1
   obtain⟨its1,rv1,pl1,hz1⟩:=I.list sq1.sq
   have L1:=pl1.isList
   obtain⟨a2,xs2,w2,sq2,rs2⟩:=r2.tup_inv
   subst w2
   have e2:u2=.ref a2:=q2
   subst e2
   obtain⟨its2,rv2,pl2,hz2⟩:=I.tuple sq2.sq
   have L2:s.heap.IsTuple a2 its2.toArray:=pl2
   exact E3.cast ⟨EqAt.list_tuple L1 L2 hu,RcAt.list_tuple L1 L2 hu,RcNeAt.list_tuple L1 L2 hu⟩ (by unfold eqD;rfl)
  | lst x2 =>
   simp[bothSeq] at hb
  | _=>simp[okE] at h2
 | _=>simp[okE] at h1
private theorem eq_rep(I:Inv X pins σ H s):∀ (k:Nat) (d1 d2:D) (v1 v2:V) (u1 u2:Value) (A:Around),okE d1 k=true->okE d2 k=true->Rep X.K G Z H d1 v1->Rep X.K G Z H d2 v2->RelV v1 u1->RelV v2 u2 ->
  A.units+k<cLine->E3 A s u1 u2 (eqD d1 d2):=by
 intro k
 induction k with
 | zero =>
  intro d1 d2 v1 v2 u1 u2 A h1 h2 r1 r2 q1 q2 hu
  refine eq_mix I h1 h2 r1 r2 q1 q2 (by lia) ?_
  cases d1<;>first | rfl | (simp[okE] at h1;done)
 | succ k ih =>
  intro d1 d2 v1 v2 u1 u2 A h1 h2 r1 r2 q1 q2 hu
  by_cases hb:bothSeq d1 d2=false
  ·exact eq_mix I h1 h2 r1 r2 q1 q2 (by lia) hb
  have items:∀ {ds es:List D} {xs ys:List V} {its its':List Value},okEs ds k=true->okEs es k=true->Reps X.K G Z H ds xs->Reps X.K G Z H es ys->Vals xs its->Vals ys its' ->
    ∀ (j:Nat) (l1:j<its.toArray.size) (l2:j<its'.toArray.size),EqAt A.in1 s its.toArray[j] its'.toArray[j] (eAt ds es j):=fun {ds es xs ys its its'} h1 h2 r1 r2 rv rv' j l1 l2=>by
   have l1':j<its.length:=by simpa using l1
   have l2':j<its'.length:=by simpa using l2
   have a1:j<ds.length:=by rw[<- r1.length,rv.length];exact l1'
   have a2:j<es.length:=by rw[<- r2.length,rv'.length];exact l2'
   have g1:ds[j]?=some ds[j]:=getElem?_eq_getElem a1
   have g2:es[j]?=some es[j]:=getElem?_eq_getElem a2
   obtain⟨w1,e1,p1⟩:=r1.get g1
   obtain⟨w2,e2,p2⟩:=r2.get g2
   obtain⟨z1,f1,t1⟩:=rv.get e1
   obtain⟨z2,f2,t2⟩:=rv'.get e2
   have m1:its.toArray[j]=z1:=by
    have:its[j]?=some its[j]:=getElem?_eq_getElem l1'
    rw[f1] at this
    simpa using (Option.some.inj this).symm
   have m2:its'.toArray[j]=z2:=by
    have:its'[j]?=some its'[j]:=getElem?_eq_getElem l2'
    rw[f2] at this
    simpa using (Option.some.inj this).symm
   have e3:eAt ds es j=eqD ds[j] es[j]:=by unfold eAt;rw[g1,g2]
   rw[m1,m2,e3]
   exact(ih _ _ _ _ _ _ A.in1 (okEs_mem h1 g1) (okEs_mem h2 g2) p1 p2 t1 t2 (by show A.units+1+k<cLine;lia)).1
  cases d1 with
  | tup ds =>
   cases d2 with
   | tup es =>
    have s1:=r1
    have s2:=r2
    obtain⟨a,xs,e,sq,rs⟩:=r1.tup_inv
    obtain⟨b,ys,e',sq',rs'⟩:=r2.tup_inv
    subst e e'
    have c1:u1=.ref a:=q1
    have c2:u2=.ref b:=q2
    subst c1 c2
    obtain⟨its,rv,pl,hz⟩:=I.tuple sq.sq
    obtain⟨its',rv',pl',hz'⟩:=I.tuple sq'.sq
    have it:=items (by simpa [okE] using h1) (by simpa [okE] using h2) rs rs' rv rv'
    have n1:its.toArray.size=ds.length:=by rw[<- rs.length,rv.length];simp
    have n2:its'.toArray.size=es.length:=by rw[<- rs'.length,rv'.length];simp
    have ev:((List.range (min its.toArray.size its'.toArray.size)).all (eAt ds es)&&its.toArray.size == its'.toArray.size)=eqD (.tup ds) (.tup es):=by
     rw[n1,n2,eqDs_all];unfold eqD;rfl
    have R:=rcC (RcAt.tuples (A:=A) (show s.heap.IsTuple a its.toArray from pl) (show s.heap.IsTuple b its'.toArray from pl') (by lia) it) ev
    have N:=rnC (RcNeAt.tuples (A:=A) (show s.heap.IsTuple a its.toArray from pl) (show s.heap.IsTuple b its'.toArray from pl') (by lia) it) (congrArg (!·) ev)
    refine⟨?_,R,N⟩
    by_cases hab:a=b
    ·subst hab
     exact eqC (EqAt.same _) (rep_same I (k+1) _ _ _ h1 h2 s1 s2).symm
    ·exact .of_refs hab R
   | _=>exact absurd rfl hb
  | lst ds =>
   cases d2 with
   | lst es =>
    have s1:=r1
    have s2:=r2
    obtain⟨a,xs,e,sq,rs⟩:=r1.lst_inv
    obtain⟨b,ys,e',sq',rs'⟩:=r2.lst_inv
    subst e e'
    have c1:u1=.ref a:=q1
    have c2:u2=.ref b:=q2
    subst c1 c2
    obtain⟨its,rv,pl,hz⟩:=I.list sq.sq
    obtain⟨its',rv',pl',hz'⟩:=I.list sq'.sq
    have it:=items (by simpa [okE] using h1) (by simpa [okE] using h2) rs rs' rv rv'
    have n1:its.toArray.size=ds.length:=by rw[<- rs.length,rv.length];simp
    have n2:its'.toArray.size=es.length:=by rw[<- rs'.length,rv'.length];simp
    have R:RcAt A s (.ref a) (.ref b) (eqD (.lst ds) (.lst es))/\RcNeAt A s (.ref a) (.ref b) (!eqD (.lst ds) (.lst es)):=by
     by_cases hl:ds.length=es.length
     ·have ev : (List.range its.toArray.size).all (eAt ds es) = eqD (.lst ds) (.lst es) := by rw [n1, eqDs_all_len hl]; unfold eqD; rfl
      exact⟨rcC (RcAt.lists (A:=A) pl.isList pl'.isList (by rw[n1,n2,hl]) (by lia) it) ev,rnC (RcNeAt.lists (A:=A) pl.isList pl'.isList (by rw[n1,n2,hl]) (by lia) it) (congrArg (!·) ev)⟩
     ·have ev : false = eqD (.lst ds) (.lst es) := by unfold eqD; exact (eqDs_len hl).symm
      have hs:(its.toArray.size != its'.toArray.size)=true:=by rw[n1,n2];simpa using hl
      exact⟨rcC (RcAt.lists_lengths (A:=A) pl.isList pl'.isList hs (by lia)) ev,rnC (RcNeAt.lists_lengths (A:=A) pl.isList pl'.isList hs (by lia)) (congrArg (!·) ev)⟩
    refine⟨?_,R⟩
    by_cases hab:a=b
    ·subst hab
     exact eqC (EqAt.same _) (rep_same I (k+1) _ _ _ h1 h2 s1 s2).symm
    ·exact .of_refs hab R.1
   | _=>exact absurd rfl hb
  | _=>exact absurd rfl hb
def EqV(X:Cx)(H:Hp)(x y:V)(b:Bool):Prop:=∀ pins s σ v u,Inv X pins σ H s->RelV x v->RelV y u->∀ A:Around,A.units+60<cLine->E3 A s v u b
def rDeq(X:Cx):R2:=fun x y H Q=>∃ b,EqV X H x y b/\Q (.bl b) H
def rDne(X:Cx):R2:=fun x y H Q=>∃ b,EqV X H x y b/\Q (.bl (!b)) H
private theorem op_deq{n:Nat}(hr:Room n X.A):OpR X (compareOp .Eq) (rDeq X):=by
 intro pins s σ H x y v u Q I rx ry h
 obtain⟨b,e,q⟩:=h
 exact(e pins s σ v u I rx ry X.A (by have:=hr.units;lia)).2.1 X.prog X.w X.xe _ ⟨.bl b,H,I,rfl,q⟩
private theorem op_dne{n:Nat}(hr:Room n X.A):OpR X (compareOp .NotEq) (rDne X):=by
 intro pins s σ H x y v u Q I rx ry h
 obtain⟨b,e,q⟩:=h
 exact(e pins s σ v u I rx ry X.A (by have:=hr.units;lia)).2.2 X.prog X.w X.xe _ ⟨.bl (!b),H,I,rfl,q⟩
def rdDeq:RD2:=fun d1 d2 k=>okE d1 20=true/\okE d2 20=true/\k (.bl (eqD d1 d2))
def rdDne:RD2:=fun d1 d2 k=>okE d1 20=true/\okE d2 20=true/\k (.bl (!eqD d1 d2))
private theorem re_deq{A:AC}(hK:X.K=A.K):OpRel A (rDeq X) rdDeq:=by
 rintro os n rho sg H ds vs d1 d2 v1 v2 k Q I ⟨h1,h2,q⟩ hQ
 obtain⟨I1,r2⟩:=I.pop
 obtain⟨I2,r1⟩:=I1.pop
 rw[<- hK] at r1 r2
 exact⟨eqD d1 d2,fun pins s σ v u J rx ry B hu=>eq_rep J 20 d1 d2 v1 v2 v u B h1 h2 r1 r2 rx ry (by lia),hQ _ H _ ⟨os,I2.push (Rep.ofS rfl)⟩ q⟩
private theorem re_dne{A:AC}(hK:X.K=A.K):OpRel A (rDne X) rdDne:=by
 rintro os n rho sg H ds vs d1 d2 v1 v2 k Q I ⟨h1,h2,q⟩ hQ
 obtain⟨I1,r2⟩:=I.pop
 obtain⟨I2,r1⟩:=I1.pop
 rw[<- hK] at r1 r2
 exact⟨eqD d1 d2,fun pins s σ v u J rx ry B hu=>eq_rep J 20 d1 d2 v1 v2 v u B h1 h2 r1 r2 rx ry (by lia),hQ _ H _ ⟨os,I2.push (Rep.ofS rfl)⟩ q⟩
@[simp] private theorem q_rdDeq{d1 d2 k}:rdDeq d1 d2 k=(okE d1 20=true/\okE d2 20=true/\k (.bl (eqD d1 d2))):=rfl
@[simp] private theorem q_rdDne{d1 d2 k}:rdDne d1 d2 k=(okE d1 20=true/\okE d2 20=true/\k (.bl (!eqD d1 d2))):=rfl
end
end L2
namespace L2
section
variable {A:AC} {X:Cx} {e a b:Expr} {es:List Expr} {te ta tb:TD} {t1:TAD} {pos p:Pos}
def lstOf(d:D)(p:List D->Prop):Prop:=∃ fs,d=.lst fs/\p fs
@[simp] private theorem q_lstOf{fs p}:lstOf (.lst fs) p↔p fs:=⟨fun⟨_,e,h⟩=>by cases e;exact h,fun h=>⟨_,rfl,h⟩⟩
def sSetO(i:Nat)(te:TD):TSD:=fun F rho n=>i<rho.length/\te rho n fun d n1=>lstOf d fun fs=>F.nx (rho.set i (some (.own fs))) n1
@[simp] private theorem q_sSetO{i te F rho n}:sSetO i te F rho n=(i<rho.length/\te rho n fun d n1=>lstOf d fun fs=>F.nx (rho.set i (some (.own fs))) n1):=rfl
def dOwnLen(i:Nat):TD:=fun rho n P=>ownAt rho[i]? fun es=>P (.int es.length) n
@[simp] private theorem q_dOwnLen{i rho n P}:dOwnLen i rho n P=ownAt rho[i]? fun es=>P (.int es.length) n:=rfl
private theorem pd_ownLen{i:Nat}{x:Str}{px:Pos}(hm:X.mg "len" = none)(hK:X.K=A.K)(hN:X.N[i]?=some x:=by rfl)(hv:Vis X.env.scope x:=by first | exact Or.inl rfl | exact Or.inr (Or.inl rfl) | exact Or.inr (Or.inr rfl))(hd:(x == ("__debug__" : Str))=false:=by decide)
  (hcd:(x == ("__classdict__" : Str))=false:=by decide) (hg:Gl X "len" := by rfl)
  (he:starEach [.Name x px] X.env=(false,eval (.Name x px) X.env)::starEach [] X.env:=by rfl) (hpl:(backTo pos (starEach [] X.env)).any (·.1)=false:=by rfl):PD A X (.Call (.Name "len" p) [.Name x px] [] pos) (dOwnLen i):=by
 with_unfolding_all
  exact
   (pe_callB call_len_seq hg hm bt_len (pa_cons (pe_var hN hv hd hcd) pa_nil he) (by decide) (by decide) he hpl).imp fun sg H Q h => by
    obtain⟨rho,n,P,ds,vs,⟨os,I⟩,⟨es,hi,k⟩,hQ⟩:=h
    obtain⟨a,xs,e1,hH,rs,_⟩:=I.own (es':=es) (xs':=[]) hi
    exact⟨.ref a,e1,a,xs,rfl,.inl (SqL.of hH),by rw[rs.length];exact hQ _ H n _ ⟨os,I.push (Rep.ofS (d:=.int es.length) rfl)⟩ k⟩
def GDat(K:W.Frag)(mg:Str->Option Value)(x:Str)(d:D):Prop:=∃ v u,mg x=some u/\RelV v u/\∀ G Z H,Rep K G Z H d v
private theorem pd_glob{x:Str}{d:D}(h:GDat X.K X.mg x d)(hK:X.K=A.K)(hg:Gl X x:=by rfl)(hd:(x == ("__debug__" : Str))=false:=by decide):PD A X (.Name x pos) (dC d):=by
 with_unfolding_all
  exact(by
   obtain⟨v,u,hm,r,hr⟩:=h
   refine(pe_glob hg hm r hd).imp fun sg H Q q=>?_
   obtain⟨rho,n,P,ds,vs,⟨os,I⟩,q,hQ⟩:=q
   exact hQ v H n d ⟨os,I.push (by rw[<- hK];exact hr _ _ _)⟩ q)
private theorem gdat_tup{K:W.Frag}{mg:Str->Option Value}{x:Str}{a:Addr}{o:Obj}{its:Array Value}{n:Nat}{ds:List D}{xs:List V}(hm:mg x=some (.ref a))(hk:K.lookup a=some o)(hc:o.cls=.type "tuple")(hd:o.data=.seq its n)(hz:its.size<=sizeLine)(hv:Vals xs its.toList)
  (hs:∀ G Z H,Reps K G Z H ds xs):GDat K mg x (.tup ds):=⟨.ref a,.ref a,hm,rfl,fun G Z H=>.tup_mk (.inr (.inr ⟨o,its,n,hk,hc,hd,hz,hv⟩)) (hs G Z H)⟩
private theorem FnOk.botK{P:Program}{w:World}{K:W.Frag}{mg:Str->Option Value}{base:Heap}{f:Addr}{fd:FuncData}{ps:List Str}{k L:Nat}{t:TF}(ht:∀ ds n Q,¬ t ds n Q):FnOk P w K mg base CX0 L f fd ps (spD K k t):=by
 refine⟨fun vs H Q E h=>?_,fun A outer s H args us vs Q E _ _ _ _ h=>?_⟩
 ·obtain ⟨G, Z, n, R, ds, hl, rs, hst, gz, z0, h, _⟩ := h
  exact(ht _ _ _ h).elim
 ·obtain ⟨G, Z, n, R, ds, hl, rs, hst, gz, z0, h, _⟩ := h
  exact(ht _ _ _ h).elim
end
end L2
namespace L2
private theorem comp_mapIn{own:Nat}{g:TGD}{te:TD}{rho:Rho}{n:Nat}{P:D->Nat->Prop}{α:Type}(enc:α->D)(f:α->D)(xs:List α)
  (hz:xs.length<=sizeLine) (he:∀ x∈xs,∀ Q,Q (f x) n->g (enc x) (replicate own none++rho) fun rho'=>rho'.drop own=rho/\te rho' n Q) (hP:P (.lst (xs.map f)) n):compIn own g bYes te rho P (xs.map enc) n :=
 comp_map (it:=fun _ n R=>R (xs.map enc) n) (rho:=rho) enc f xs (fun R h=>h) hz he hP
end L2
namespace L2
private theorem q_isi{d:D}{T:String}{k:D->Prop}(hT:T = "bool" \/ T = "int" \/ T = "str" \/ T = "tuple" \/ T = "list"):kIsi [d,.ty T] k↔(isiOk d=true/\k (.bl (isiD T d))) :=
 ⟨fun⟨d',T',e,_,h1,h2⟩=>by cases e;exact⟨h1,h2⟩,fun h=>⟨d,T,rfl,hT,h.1,h.2⟩⟩
@[simp] private theorem q_isiBool{d:D}{k:D->Prop}:kIsi [d,.ty "bool"] k↔(isiOk d=true/\k (.bl (isiD "bool" d))):=q_isi (by decide)
@[simp] private theorem q_isiInt{d:D}{k:D->Prop}:kIsi [d,.ty "int"] k↔(isiOk d=true/\k (.bl (isiD "int" d))):=q_isi (by decide)
@[simp] private theorem q_isiStr{d:D}{k:D->Prop}:kIsi [d,.ty "str"] k↔(isiOk d=true/\k (.bl (isiD "str" d))):=q_isi (by decide)
@[simp] private theorem q_isiTuple{d:D}{k:D->Prop}:kIsi [d,.ty "tuple"] k↔(isiOk d=true/\k (.bl (isiD "tuple" d))):=q_isi (by decide)
@[simp] private theorem q_isiList{d:D}{k:D->Prop}:kIsi [d,.ty "list"] k↔(isiOk d=true/\k (.bl (isiD "list" d))):=q_isi (by decide)
@[simp] private theorem q_rdEqS{i j:Str}{k}:rdEq (.str i) (.str j) k↔k (.bl (decide (i=j))):=by
 have e:decide (ofS (.str i)=ofS (.str j))=decide (i=j):=by simp[ofS]
 unfold rdEq
 rw[e]
 exact⟨fun h=>h.2.2.2,fun h=>⟨rfl,rfl,rfl,h⟩⟩
private theorem okEs_iff:∀ {ds:List D} {k:Nat},okEs ds k=true↔∀ d∈ds,okE d k=true
 | [],k=>by unfold okEs;simp
 | c::ds,k=>by
  unfold okEs
  rw[Bool.and_eq_true,okEs_iff]
  simp
private theorem okE_tup{ds:List D}{k:Nat}:okE (.tup ds) (k+1)=true↔∀ d∈ds,okE d k=true:=by
 have e:okE (.tup ds) (k+1)=okEs ds k:=by rw[okE]
 rw[e,okEs_iff]
def kZip(es:List D)(k:List D->Prop):Prop:=∃ d1 d2 b1 xs b2 ys,es=[d1,d2]/\seqOf d1=some (b1,xs)/\seqOf d2=some (b2,ys)/\k (zipD xs ys)
@[simp] private theorem q_iZipD{t:TAD}{rho n P}:iZipD t rho n P↔t rho n fun es n1=>kZip es fun l=>P l n1:=Iff.rfl
private theorem q_kZip{d1 d2:D}{b1 b2 xs ys}{k:List D->Prop}(h1:seqOf d1=some (b1,xs))(h2:seqOf d2=some (b2,ys)):kZip [d1,d2] k↔k (zipD xs ys):=by
 constructor
 ·rintro ⟨_, _, _, _, _, _, e, e1, e2, h⟩
  cases e
  rw[h1] at e1;rw[h2] at e2
  cases e1;cases e2
  exact h
 ·intro h
  exact⟨_,_,_,_,_,_,rfl,h1,h2,h⟩
@[simp] private theorem q_kZipTT{xs ys}{k:List D->Prop}:kZip [.tup xs,.tup ys] k↔k (zipD xs ys):=q_kZip rfl rfl
@[simp] private theorem q_kZipTL{xs ys}{k:List D->Prop}:kZip [.tup xs,.lst ys] k↔k (zipD xs ys):=q_kZip rfl rfl
@[simp] private theorem q_kZipLT{xs ys}{k:List D->Prop}:kZip [.lst xs,.tup ys] k↔k (zipD xs ys):=q_kZip rfl rfl
@[simp] private theorem q_kZipLL{xs ys}{k:List D->Prop}:kZip [.lst xs,.lst ys] k↔k (zipD xs ys):=q_kZip rfl rfl
private theorem gdat_int2{K:W.Frag}{mg:Str->Option Value}{x:Str}{a:Addr}{od:Option Addr}{n:Nat}{i j:Int}{t u:Tok}{sl}(hm:mg x=some (.ref a))(hk:K.lookup a=some ⟨.type "tuple",od,.seq #[.int i t,.int j u] n,sl⟩):GDat K mg x (.tup [.int i,.int j]) :=
 gdat_tup (xs:=[.int i,.int j]) hm hk rfl rfl (by simp[sizeLine]) (.cons ⟨_,rfl⟩ (.cons ⟨_,rfl⟩ .nil)) fun G Z H=>by
  exact .cons (.ofS (d:=.int i) rfl) (.cons (.ofS (d:=.int j) rfl) .nil)
end L2
namespace L2
section
variable {X:Cx}
end
section
variable {A:AC}
private theorem reps_intsV{K:W.Frag}{G:Option Addr}{Z:Addr->Prop}{H:Hp}:∀ {bs:List Int} {ws:List V},Reps K G Z H (bs.map D.int) ws->ws=bs.map V.int
 | [],ws,h=>h.nil_inv
 | b::bs,ws,h=>by
  obtain⟨v,r,rfl,q,t⟩:=h.split
  rw[q.int_inv,reps_intsV t];rfl
def kMax2:List D->(D->Prop)->Prop:=fun es k=>∃ i j,es=[.int i,.int j]/\k (.int (if j > i then j else i))
def kMin2:List D->(D->Prop)->Prop:=fun es k=>∃ i j,es=[.int i,.int j]/\k (.int (if j<i then j else i))
@[simp] private theorem q_kMax2{i j k}:kMax2 [.int i,.int j] k↔k (.int (if j > i then j else i)):=⟨fun⟨_,_,e,h⟩=>by cases e;exact h,fun h=>⟨_,_,rfl,h⟩⟩
@[simp] private theorem q_kMin2{i j k}:kMin2 [.int i,.int j] k↔k (.int (if j<i then j else i)):=⟨fun⟨_,_,e,h⟩=>by cases e;exact h,fun h=>⟨_,_,rfl,h⟩⟩
private theorem cr_max2:CallRel A (fun xs H Q=>∃ i j,xs=[.int i,.int j]/\Q (.int (if j > i then j else i)) H) kMax2:=by
 rintro os n rho sg H ds vs es ws k Q I rs ⟨i,j,rfl,q⟩ hQ
 obtain⟨v,v',rfl,r,r'⟩:=reps2 rs
 exact⟨i,j,by rw[r.int_inv,r'.int_inv],hQ _ H _ ⟨os,I.push (Rep.ofS rfl)⟩ q⟩
private theorem cr_min2:CallRel A (fun xs H Q=>∃ i j,xs=[.int i,.int j]/\Q (.int (if j<i then j else i)) H) kMin2:=by
 rintro os n rho sg H ds vs es ws k Q I rs ⟨i,j,rfl,q⟩ hQ
 obtain⟨v,v',rfl,r,r'⟩:=reps2 rs
 exact⟨i,j,by rw[r.int_inv,r'.int_inv],hQ _ H _ ⟨os,I.push (Rep.ofS rfl)⟩ q⟩
private theorem bt_max:bootBuiltins "max" = some (.builtin "max"):=by decide +kernel
private theorem bt_min:bootBuiltins "min" = some (.builtin "min"):=by decide +kernel
end
end L2
namespace L2
private theorem comp_filtIn{own:Nat}{g:TGD}{tt:TBD}{te:TD}{rho:Rho}{n:Nat}{P:D->Nat->Prop}{α:Type}(enc:α->D)(keep:α->Bool)(f:α->D)(xs:List α)(hz:xs.length<=sizeLine)
  (he:∀ x∈xs,∀ (R:D->Nat->Prop) (S:Nat->Prop),(keep x=true->R (f x) n)->(keep x=false->S n)->g (enc x) (replicate own none++rho) fun rho'=>rho'.drop own=rho/\tt rho' n fun c n2=>if c=true then te rho' n2 R else S n2)
  (hP:P (.lst ((xs.filter keep).map f)) n):compIn own g tt te rho P (xs.map enc) n:=by
 refine⟨by simpa using hz,fun i acc n'=>n'=n/\acc=((xs.take i).filter keep).map f,⟨rfl,rfl⟩,?_,?_⟩
 ·rintro i d acc n' e ⟨rfl, rfl⟩
  rw[getElem?_map] at e
  cases q:xs[i]? with
  | none=>rw[q] at e;cases e
  | some x =>
   rw[q] at e
   cases e
   have hm:x∈xs:=mem_of_getElem? q
   have et:xs.take (i+1)=xs.take i++[x]:=by rw[take_add_one,q];rfl
   refine he x hm (fun e n3=>n3=n'/\((xs.take i).filter keep).map f++[e]=((xs.take (i+1)).filter keep).map f) (fun n3=>n3=n'/\((xs.take i).filter keep).map f=((xs.take (i+1)).filter keep).map f) (fun hk=>⟨rfl,?_⟩) (fun hk=>⟨rfl,?_⟩)
   ·rw[et,List.filter_append];simp[hk]
   ·rw[et,List.filter_append];simp[hk]
 ·rintro acc n' ⟨rfl, rfl⟩
  rw[length_map,take_length]
  exact hP
private theorem okE_lst{ds:List D}{k:Nat}:okE (.lst ds) (k+1)=true↔∀ d∈ds,okE d k=true:=by
 have e:okE (.lst ds) (k+1)=okEs ds k:=by rw[okE]
 rw[e,okEs_iff]
private theorem okE_int{i:Int}{k:Nat}:okE (.int i) k=true:=by simp[okE]
end L2
namespace L2
def rCatTT(K:W.Frag):R2:=fun x y H Q=>∃ a b xs ys,x=.ref a/\y=.ref b/\SqT K H a xs/\SqT K H b ys/\xs.length+ys.length<=sizeLine /\
 (xs=[]->Q (.ref b) H)/\(xs≠[]->ys=[]->Q (.ref a) H)/\(xs≠[]->ys≠[]->∀ p,H p=none->Q (.ref p) (upd H p (.tup (xs++ys))))
section
variable {X:Cx}
private theorem op_catTT:OpR X (binaryOp .Add) (rCatTT X.K):=by
 intro pins s σ H x y v u Q I rx ry h
 obtain⟨a,b,xs,ys,rfl,rfl,ha,hb,hz,q0,q1,q2⟩:=h
 by_cases hx:xs=[]
 ·cases rx
  cases ry
  obtain⟨its,r1,p1,_⟩:=I.tuple ha
  obtain⟨its2,r2,p2,_⟩:=I.tuple hb
  have hi:its=[]:=r1.nil_iff.mpr hx
  obtain⟨⟨cls,dd,data,sl⟩,ho,hc,n,hd⟩:=id p1
  obtain⟨⟨cls2,dd2,data2,sl2⟩,ho2,hc2,n2,hd2⟩:=id p2
  simp only at hc hd hc2 hd2
  subst hc hd hc2 hd2
  exact PySem.concat_meets ⟨_,ho,rfl⟩ ⟨_,ho2,rfl⟩ PySem.noFill_tuple_add PySem.seq_tuple_add PySem.F.slot_tuple_add PySem.F.entry_tuple_add (PySem.F.args_tuple_add_2 _ _)
   (tuple_addW0 a b its.toArray its2.toArray n n2 dd dd2 sl sl2 (by simp[hi])) ⟨ho,ho2,⟨.ref b,H,I,rfl,q0 hx⟩⟩
 ·exact op_catT pins s σ H _ _ v u Q I rx ry ⟨a,b,xs,ys,rfl,rfl,ha,hb,hx,hz,q1 hx,q2 hx⟩
end
section
variable {A:AC}
def rdCatT:RD2:=fun d1 d2 k=>∃ es fs,d1=.tup es/\d2=.tup fs/\es.length+fs.length<=sizeLine/\k (.tup (es++fs))
@[simp] private theorem q_rdCatT{es fs k}:rdCatT (.tup es) (.tup fs) k↔(es.length+fs.length<=sizeLine/\k (.tup (es++fs))):=⟨fun⟨_,_,e,e',h⟩=>by cases e;cases e';exact h,fun h=>⟨_,_,rfl,rfl,h⟩⟩
private theorem re_catT:OpRel A (rCatTT A.K) rdCatT:=by
 rintro os n rho sg H ds vs d1 d2 v1 v2 k Q I ⟨es,fs,rfl,rfl,hz,q⟩ hQ
 obtain⟨I1,r2⟩:=I.pop
 obtain⟨I2,r1⟩:=I1.pop
 have r1':=r1
 have r2':=r2
 obtain⟨a,xs,e,sq,rs⟩:=r1.tup_inv
 obtain⟨b,ys,e',sq',rs'⟩:=r2.tup_inv
 subst e e'
 refine⟨a,b,xs,ys,rfl,rfl,sq.sq,sq'.sq,by rw[rs.length,rs'.length];exact hz,fun hx=>?_,fun hx hy=>?_,fun hx hy p hp=>?_⟩
 ·have he : es = [] := by have := rs.length; rw [hx] at this; exact List.eq_nil_of_length_eq_zero this.symm
  subst he
  exact hQ _ H _ ⟨os,I2.push r2'⟩ q
 ·have he : fs = [] := by have := rs'.length; rw [hy] at this; exact List.eq_nil_of_length_eq_zero this.symm
  subst he
  rw[append_nil] at q
  exact hQ _ H _ ⟨os,I2.push r1'⟩ q
 ·exact hQ _ _ _ ⟨os,I2.newTup (rs.append rs') hp⟩ q
end
section
variable {A:AC} {X:Cx} {a b c e:Expr} {es:List Expr} {te ta tb tc:TD} {t1:TAD} {pos p:Pos}
def intOf(d:D)(k:Int->Prop):Prop:=∃ i,d=.int i/\k i
@[simp] private theorem q_intOf{i:Int}{k}:intOf (.int i) k↔k i:=⟨fun⟨_,e,h⟩=>by cases e;exact h,fun h=>⟨_,rfl,h⟩⟩
def dChain(f g:Int->Int->Bool)(ta tb tc:TD):TD:=fun rho n P=>ta rho n fun d1 n1=>tb rho n1 fun d2 n2=>intOf d1 fun i=>intOf d2 fun j=>if f i j=true then tc rho n2 fun d3 n3=>intOf d3 fun k=>P (.bl (g j k)) n3 else P (.bl false) n2
@[simp] private theorem q_dChain{f g ta tb tc rho n P}:dChain f g ta tb tc rho n P=ta rho n fun d1 n1=>tb rho n1 fun d2 n2=>intOf d1 fun i=>intOf d2 fun j=>if f i j=true then tc rho n2 fun d3 n3=>intOf d3 fun k=>P (.bl (g j k)) n3 else P (.bl false) n2:=rfl
def iRng2D(t:TAD):TID:=fun rho n P=>t rho n fun es n1=>pair2 es fun d1 d2=>intOf d1 fun i=>intOf d2 fun j=>(-(2^62)<=i/\i<2^62/\-(2^62)<=j/\j<2^62)/\P (rngD i (j-i).toNat) n1
@[simp] private theorem q_iRng2D{t rho n P}:iRng2D t rho n P=t rho n fun es n1=>pair2 es fun d1 d2=>intOf d1 fun i=>intOf d2 fun j=>(-(2^62)<=i/\i<2^62/\-(2^62)<=j/\j<2^62)/\P (rngD i (j-i).toNat) n1:=rfl
def sExtend(i:Nat)(t:TAD):TSD:=fun F rho n=>ownAt rho[i]? fun es=>t rho n fun ds n1=>∃ fs,ds=[.lst fs]/\es.length+fs.length<=sizeLine/\F.nx (rho.set i (some (.own (es++fs)))) n1
@[simp] private theorem q_sExtend{i t F rho n}:sExtend i t F rho n=ownAt rho[i]? fun es=>t rho n fun ds n1=>∃ fs,ds=[.lst fs]/\es.length+fs.length<=sizeLine/\F.nx (rho.set i (some (.own (es++fs)))) n1:=rfl
private theorem psd_extend{i:Nat}{x:Str}{px apos cpos:Pos}(ha:PAD A X [e] t1)(hK:X.K=A.K)(hN:X.N[i]?=some x:=by rfl)(hv:Vis X.env.scope x:=by first | exact Or.inl rfl | exact Or.inr (Or.inl rfl) | exact Or.inr (Or.inr rfl))(hd:(x == ("__debug__" : Str))=false:=by decide)
  (hcd:(x == ("__classdict__" : Str))=false:=by decide) (hbase:attributeBase (.Name x px) "extend" X.env (eval (.Name x px) X.env)=eval (.Name x px) X.env:=by rfl)
  (hfew : ((backTo cpos (starEach [e] X.env)).all (fun x => !x.1) && (backToKw cpos (keywordEach [] X.env)).all (fun x => x.1.isSome)
   && decide ([e].length+([]:List Keyword).length+(if ([]:List Keyword).isEmpty then 0 else 1)<30))=true:=by rfl)
  (hline:(apos.endLine == cpos.line)=true:=by rfl) (hs:starEach [e] X.env=(false,eval e X.env)::starEach [] X.env:=by rfl) (hplain:(backTo cpos (starEach [] X.env)).any (·.1)=false:=by rfl)
  (hsw:swapsWith (.Call (.Attribute (.Name x px) "extend" apos) [e] [] cpos) none pos.line X.env=pure false:=by rfl) :
  PSD A X (.Expr (.Call (.Attribute (.Name x px) "extend" apos) [e] [] cpos) pos) (sExtend i t1):=by
 with_unfolding_all
  exact
   (ps_expr (pe_bm PySem.F.plainAttrs_list PySem.F.slot_list_extend PySem.F.type_list_extend mt_extend (pe_var hN hv hd hcd) ha hbase hfew hline hs hplain) hsw).imp fun E sg H h => by
    obtain⟨rho,n,F,ds,vs,⟨os,I⟩,⟨es,hi,ht⟩,ok⟩:=h
    obtain⟨a,xs,e1,hH,rs,_⟩:=I.own (es':=es) (xs':=[]) hi
    refine⟨.ref a,e1,.inl ⟨rfl,xs,SqL.of hH⟩,rho,n,_,ds,vs,⟨os,I⟩,ht,fun ws H' n' fs ⟨os',J⟩ hl k=>?_⟩
    obtain⟨gs,rfl,hz,k⟩:=k
    obtain⟨J1,rs1⟩:=J.split hl
    obtain⟨v,rfl,r⟩:=reps1 rs1
    obtain⟨b,ys,rfl,sq,rr⟩:=r.lst_inv
    obtain⟨a',xs',e2,hH',rs',up⟩:=J1.own (es':=es) (xs':=[]) hi
    rw[e1] at e2
    cases e2
    exact⟨a,b,xs',ys,rfl,rfl,hH',sq.2,by rw[rs'.length,rr.length];exact hz,ok.nx _ _ _ _ ⟨os',up _ _ (rs'.append rr)⟩ k⟩
end
private theorem vals_of_ints:∀ {us:List Value} {ns:List Int},IntsAre us ns->Vals (ns.map V.int) us
 | _,_,.nil=>.nil
 | _,_,.cons n t h=>.cons ⟨t,rfl⟩ (vals_of_ints h)
section
variable {X:Cx} {A:AC}
private theorem bt_sorted:bootBuiltins "sorted" = some (.builtin "sorted"):=by decide +kernel
end
end L2
namespace L2
private theorem swapped2{x y:Str}{px py pt:Pos}{kt k2 pt2}{a b:Expr}{env:Env}(hk:env.blockKind=.function)(hx:env.kindOf x=some .local)(hy:env.kindOf y=some .local)(hl:py.line=px.line)(hxy:x≠y)
  (hsa:starred a=false) (hsb:starred b=false) (hf:[a,b].all (foldedForSure 8)=false) (hc:[a,b].all (constantsAlone 8)=false) :
  swappedStores [.Tuple [.Name x px,.Name y py] kt pt] (.Tuple [a,b] k2 pt2) env=pure (some [x,y]):=by
 have e2:(y == x)=false:=beq_false_of_ne (Ne.symm hxy)
 have e:(Expr.Name x px).pos.line=px.line:=rfl
 unfold swappedStores
 simp[hk,hx,hy,hl,hf,hc,e,List.eraseDups,List.eraseDupsBy,List.eraseDupsBy.loop,e2]
 intro h
 exfalso
 rcases h with h | h
 ·cases a<;>first | (simp at h;done) | (simp[starred] at hsa;done)
 ·cases b<;>first | (simp at h;done) | (simp[starred] at hsb;done)
section
variable {A:AC} {X:Cx} {a b:Expr} {pos:Pos}
private theorem psd_parK{i j:Nat}{x y:Str}{ta:TAD}{px py pt:Pos}{kt k2 pt2}(hc:X.calm=true)(hN:X.N.Nodup)(hi:X.N[i]?=some x)(hj:X.N[j]?=some y)(hij:i≠j)
  (hx:X.env.scope.names.lookup x=some .local) (hy:X.env.scope.names.lookup y=some .local) (ha:PAD A X [a,b] ta)
  (hk:X.env.blockKind=.function:=by rfl) (hl:py.line=px.line:=by rfl) (hxy:x≠y:=by decide) (hsa:starred a=false:=by rfl) (hsb:starred b=false:=by rfl) (hf:[a,b].all (foldedForSure 8)=false:=by decide +kernel) (hca:[a,b].all (constantsAlone 8)=false:=by decide +kernel) :
  PSD A X (.Assign [.Tuple [.Name x px,.Name y py] kt pt] (.Tuple [a,b] k2 pt2) pos) (sPar i j ta):=by
 with_unfolding_all
  exact
   psd_par hc hN hi hj hij hx hy ha (swapped2 hk hx hy hl hxy hsa hsb hf hca) rfl
end
private theorem ptsd_one{A:AC}{X:Cx}{e:Expr}{t:TBD}(h:PTD A X e t):PTs X [e] (ttOf A t):=by
 with_unfolding_all
  exact pts_one h
end L2
namespace L2
open PySem PySem.Spec PyProof.Rows HT
section
variable {prog:Program} {w:World} {A:Around} {E:Value->Shared->Prop} {s:Shared}
private theorem getItem_tuple_whole{t sl:Addr}{items:Array Value}{vl vu:Value}{lo hi:Option Int}{Q:Value->Shared->Prop}(ht:IsTup s.heap t items)(hs:s.heap.IsSliceOf sl vl vu .none)(pl:IsPart vl lo)(pu:IsPart vu hi)
  (h1:sIx items.size 0 lo=0) (h2:sIx items.size items.size hi=items.size) (h:Q (.ref t) s):wpAny (model prog w) A (getItem (.ref t) (.ref sl)) Q E s:=by
 obtain⟨os,hos,hcs,hds⟩:=id hs
 have hTs:s.TypeIs (.ref sl) "slice" := ⟨os,hos,hcs⟩
 unfold getItem
 try with_reducible refine wpAny_holding ?_
 first | refine wpAny_bind (wpAny_pure ?_) | skip
 refine wpAny_bind (wpAny_sequenceKey ht.typeIs (by decide) ?_)
 refine wpAny_bind (wpAny_callSpecial?_slot (name:=Str.ofString "__getitem__") ht.typeIs PyProof.Rows.slot_tuple_getitem
  (wpAny_call_entry PyProof.Rows.slot_tuple_getitem ht.typeIs entry_tuple_getitem ?_ (args_tuple_getitem _ _)))
 show wpAny _ _ (Builtin.Tuple.tupleItemsOf (.ref t) >>= _) _ _ s
 refine wpAny_bind (tupleItemsOf_ ht ?_)
 refine wpAny_bind (wpAny_typeOf hTs ?_)
 rw[if_pos (by decide)]
 refine wpAny_bind (sliceApplied_gen hs pl pu ?_)
 have hyes:((((sIx items.size 0 lo:Nat):Int) == 0&&(1:Int) == 1&&(sIx items.size items.size hi-sIx items.size 0 lo) == items.size)=true):=by
  rw[h1,h2];simp
 show wpAny _ _ (if (((sIx items.size 0 lo:Nat):Int) == 0&&(1:Int) == 1&&(sIx items.size items.size hi-sIx items.size 0 lo) == items.size)=true then _ else _) _ _ s
 rw[if_pos hyes]
 obtain⟨⟨cls,dd,data,sl'⟩,ho,hc,n,hd⟩:=id ht
 simp only at hc hd
 subst hc hd
 unfold Builtin.Tuple.tupleIsExact
 obtain⟨hp,g,d,tk,os'⟩:=s
 wp_walk
 exact⟨_,rfl,wpAny_pure h⟩
end
section
variable {X:Cx}
def rSlTW(K:W.Frag):V->Option Int->Option Int->Hp->VK->Prop:=fun x lo hi H Q=>∃ a xs,x=.ref a/\SqT K H a xs /\
 ((HT.sIx xs.length 0 lo=0/\HT.sIx xs.length xs.length hi=xs.length)->Q (.ref a) H)/\(¬ (HT.sIx xs.length 0 lo=0/\HT.sIx xs.length xs.length hi=xs.length)->∀ p,H p=none->Q (.ref p) (upd H p (.tup (cutV xs lo hi))))
private theorem sl_tupW:SlR X (rSlTW X.K):=by
 intro pins s σ H x v vl vu lo hi sl Q I rx hs pl pu h
 obtain⟨a,xs,rfl,hx,q1,q2⟩:=h
 by_cases hw:HT.sIx xs.length 0 lo=0/\HT.sIx xs.length xs.length hi=xs.length
 ·cases rx
  obtain⟨its,r,ht,hz⟩:=I.tuple hx
  have hlen:its.toArray.size=xs.length:=by rw[size_toArray];exact r.length.symm
  refine⟨"tuple",_,PyProof.Rows.slot_tuple_getitem.lookup,ht.typeIs,?_⟩
  exact getItem_tuple_whole ht hs pl pu (by rw[hlen];exact hw.1) (by rw[hlen];exact hw.2) ⟨.ref a,H,I,rfl,q1 hw⟩
 ·exact sl_tup pins s σ H (.ref a) v vl vu lo hi sl Q I rx hs pl pu ⟨a,xs,rfl,hx,hw,q2 hw⟩
end
abbrev TOD:=Rho->Nat->(Option Int->Nat->Prop)->Prop
def oOf(A:AC)(t:TOD):TO:=fun sg H Q=>∃ rho n P ds vs,Am A n rho sg H ds vs/\t rho n P/\∀ o H' n',Am A n' rho sg H' ds vs->P o n'->Q o H'
@[irreducible] def POD(A:AC)(X:Cx)(e:Option Expr)(t:TOD):Prop:=PO X e (oOf A t)
private theorem PO.imp{X:Cx}{e:Option Expr}{t t':TO}(h:PO X e t)(hi:∀ sg H Q,t' sg H Q->t sg H Q):PO X e t':=fun pins s sg H Q I q=>h pins s sg H Q I (hi _ _ _ q)
section
variable {A:AC} {X:Cx} {a b c e:Expr} {es:List Expr} {te ta tb tc:TD} {t1:TAD} {pos p:Pos}
def oNone:TOD:=fun _ n P=>P none n
def oSome(t:TD):TOD:=fun rho n P=>t rho n fun d n1=>intOf d fun i=>P (some i) n1
@[simp] private theorem q_oNone{rho n P}:oNone rho n P=P none n:=rfl
@[simp] private theorem q_oSome{t rho n P}:oSome t rho n P=t rho n fun d n1=>intOf d fun i=>P (some i) n1:=rfl
private theorem pod_none:POD A X none oNone:=by
 with_unfolding_all
  exact po_none.imp fun sg H Q h=>by
   obtain⟨rho,n,P,ds,vs,I,h,hQ⟩:=h
   exact hQ none H n I h
private theorem pod_some(h:PD A X e te):POD A X (some e) (oSome te):=by
 with_unfolding_all
  exact(po_some h).imp fun sg H Q h=>by
   obtain⟨rho,n,P,ds,vs,I,h,hQ⟩:=h
   refine⟨rho,n,_,ds,vs,I,h,fun v H' n' d ⟨os,J⟩ k=>?_⟩
   obtain⟨i,rfl,k⟩:=k
   obtain⟨J1,r⟩:=J.pop
   exact⟨i,r.int_inv,hQ _ H' n' ⟨os,J1⟩ k⟩
def tupAt(d:D)(k:List D->Prop):Prop:=∃ fs,d=.tup fs/\k fs
@[simp] private theorem q_tupAt{fs:List D}{k}:tupAt (.tup fs) k↔k fs:=⟨fun⟨_,e,h⟩=>by cases e;exact h,fun h=>⟨_,rfl,h⟩⟩
def dSlT(ta:TD)(tl th:TOD):TD:=fun rho n P=>ta rho n fun d n1=>tl rho n1 fun lo n2=>th rho n2 fun hi n3=>tupAt d fun fs=>P (.tup (cutL fs lo hi)) n3
@[simp] private theorem q_dSlT{ta tl th rho n P}:dSlT ta tl th rho n P=ta rho n fun d n1=>tl rho n1 fun lo n2=>th rho n2 fun hi n3=>tupAt d fun fs=>P (.tup (cutL fs lo hi)) n3:=rfl
private theorem cut_whole{fs:List D}{lo hi:Option Int}(h:HT.sIx fs.length 0 lo=0/\HT.sIx fs.length fs.length hi=fs.length):cutL fs lo hi=fs:=by
 unfold cutL
 rw[h.1,h.2,drop_zero,Nat.sub_zero,take_length]
private theorem pd_slT{le he:Option Expr}{tl th:TOD}{p2:Pos}(hK:X.K=A.K)(ha:PD A X a ta)(hl:POD A X le tl)(hh:POD A X he th):PD A X (.Subscript a (.Slice le he none p2) pos) (dSlT ta tl th):=by
 with_unfolding_all
  exact(pe_slice sl_tupW ha hl hh).imp fun sg H Q h=>by
   obtain⟨rho,n,P,ds,vs,I,ht,hQ⟩:=h
   refine⟨rho,n,_,ds,vs,I,ht,fun v H1 n1 d J1 h1=>⟨rho,n1,_,_,_,J1,h1,fun lo H2 n2 J2 h2=>⟨rho,n2,_,_,_,J2,h2,fun hi H3 n3 ⟨os,J3⟩ h3=>?_⟩⟩⟩
   obtain⟨fs,rfl,k⟩:=h3
   obtain⟨J4,r⟩:=J3.pop
   have r':=r
   obtain⟨l,xs,rfl,sq,rs⟩:=r.tup_inv
   rw[hK]
   have hlen:xs.length=fs.length:=rs.length
   refine⟨l,xs,rfl,sq.sq,fun hw=>?_,fun hw p hp=>hQ _ _ n3 _ ⟨os,J4.newTup (reps_cut rs lo hi) hp⟩ k⟩
   rw[hlen] at hw
   rw[cut_whole hw] at k
   exact hQ _ H3 n3 _ ⟨os,J4.push r'⟩ k
def flatD:D->Bool
 | .non=>true | .bl _=>true | .int _=>true | .str _=>true | _=>false
def inD(x:D)(es:List D):Bool:=es.any fun y=>eqD y x
private theorem flat_of{K:W.Frag}{G:Option Addr}{Z:Addr->Prop}{H:Hp}{d:D}{v:V}(h:flatD d=true)(r:Rep K G Z H d v):v=ofS d/\flatV v=true:=by
 cases d<;>first | (have e:=r.toS rfl;subst e;exact⟨rfl,rfl⟩) | (simp[flatD] at h;done)
private theorem eqV_D{x y:D}(hx:flatD x=true)(hy:flatD y=true):eqV (ofS y) (ofS x)=eqD y x:=by
 cases x<;>cases y<;>first | (simp[flatD] at hx;done) | (simp[flatD] at hy;done) | (simp[eqV,eqD,ofS];done) | (simp[eqV,eqD,ofS];rfl)
private theorem inV_D{K:W.Frag}{G:Option Addr}{Z:Addr->Prop}{H:Hp}{x:D}(hx:flatD x=true):∀ {es:List D} {vs:List V},es.all flatD=true->Reps K G Z H es vs->inV (ofS x) vs=inD x es/\vs.all flatV=true
 | [],vs,_,r=>by rw[r.nil_inv];exact⟨rfl,rfl⟩
 | d :: es, vs, h, r => by
  rw[all_cons,Bool.and_eq_true] at h
  obtain⟨v,w,rfl,q,t⟩:=r.split
  obtain⟨e,f⟩:=flat_of h.1 q
  obtain⟨e2,f2⟩:=inV_D hx h.2 t
  subst e
  constructor
  ·unfold inV inD at e2 ⊢
   rw[any_cons,any_cons,e2,eqV_D hx h.1]
  ·rw[all_cons,f,f2];rfl
def rdIn(neg:Bool):RD2:=fun d1 d2 k=>flatD d1=true/\∃ es,(d2=.tup es\/d2=.lst es)/\es.all flatD=true/\k (.bl (if neg then !inD d1 es else inD d1 es))
private theorem re_in{neg:Bool}:OpRel A (rIn A.K neg) (rdIn neg):=by
 rintro os n rho sg H ds vs d1 d2 v1 v2 k Q I ⟨h1,es,hd,hf,q⟩ hQ
 obtain⟨I1,r2⟩:=I.pop
 obtain⟨I2,r1⟩:=I1.pop
 obtain⟨e1,f1⟩:=flat_of h1 r1
 subst e1
 rcases hd with rfl | rfl
 ·obtain ⟨a, xs, e, sq, rs⟩ := r2.tup_inv
  obtain⟨z1,z2⟩:=inV_D h1 hf rs
  exact⟨a,xs,e,.inr sq.sq,f1,z2,by rw[z1];exact hQ _ H _ ⟨os,I2.push (Rep.ofS rfl)⟩ q⟩
 ·obtain ⟨a, xs, e, sq, rs⟩ := r2.lst_inv
  obtain⟨z1,z2⟩:=inV_D h1 hf rs
  exact⟨a,xs,e,.inl sq.sq,f1,z2,by rw[z1];exact hQ _ H _ ⟨os,I2.push (Rep.ofS rfl)⟩ q⟩
end
end L2
namespace L2
section
variable {A:AC} {X:Cx} {a b c e:Expr} {es:List Expr} {te ta tb tc:TD} {t1:TAD} {pos p:Pos}
end
section
variable {A:AC} {X:Cx}
end
end L2
namespace L2
section
variable {A:AC} {X:Cx} {pos p:Pos}
def dFn0(t:TF):TD:=fun _ n P=>t [] n P
@[simp] private theorem q_dFn0{t rho n P}:dFn0 t rho n P=t [] n P:=rfl
end
end L2
namespace L2
section
variable {A:AC} {X:Cx} {a b e:Expr} {ta tb:TD} {pos p:Pos}
def sSetCatO(i:Nat)(ta tb:TD):TSD:=fun F rho n=>i<rho.length/\ta rho n fun d1 n1=>tb rho n1 fun d2 n2=>lstOf d1 fun es=>lstOf d2 fun fs=>es.length+fs.length<=sizeLine/\F.nx (rho.set i (some (.own (es++fs)))) n2
@[simp] private theorem q_sSetCatO{i ta tb F rho n}:sSetCatO i ta tb F rho n=(i<rho.length/\ta rho n fun d1 n1=>tb rho n1 fun d2 n2=>lstOf d1 fun es=>lstOf d2 fun fs=>es.length+fs.length<=sizeLine/\F.nx (rho.set i (some (.own (es++fs)))) n2):=rfl
def kStr:List D->(D->Prop)->Prop:=fun es k=>∃ i:Int,es=[.int i]/\i.natAbs.log2<1920/\k (.str (toString i))
@[simp] private theorem q_kStr{i:Int}{k}:kStr [.int i] k↔(i.natAbs.log2<1920/\k (.str (toString i))):=⟨fun⟨_,e,h⟩=>by cases e;exact h,fun h=>⟨_,rfl,h⟩⟩
end
end L2
namespace L2
open PySem PySem.Spec PyProof.Rows HT
section
variable {prog:Program} {w:World} {A:Around} {E:Value->Shared->Prop} {s:Shared}
end
section
variable {X:Cx} {e:Expr} {te:TE} {pos p2:Pos}
end
section
variable {A:AC} {X:Cx} {a:Expr} {ta:TD} {pos p2 p3 p4:Pos}
def dRev(ta:TD):TD:=fun rho n P=>ta rho n fun d n1=>tupAt d fun fs=>P (.tup fs.reverse) n1
@[simp] private theorem q_dRev{ta rho n P}:dRev ta rho n P=ta rho n fun d n1=>tupAt d fun fs=>P (.tup fs.reverse) n1:=rfl
end
end L2
namespace L2
open PySem PySem.Spec PyProof.Rows PySem.W PySem.Calls PySem.NumText
section
variable {A:AC} {X:Cx} {e:Expr} {te:TD} {pos:Pos}
def sWhile(tc:TBD)(tb:TSD):TSD:=fun F rho n=>∃ J:Nat->Rho->Nat->Prop,(∃ m,J m rho n)/\∀ m rho n,J m rho n->tc rho n fun b n1=>if b=true then tb { F with nx:=fun rho' n'=>∃ m',m'<m/\J m' rho' n',ct:=fun rho' n'=>∃ m',m'<m/\J m' rho' n',bk:=F.nx } rho n1 else F.nx rho n1
private theorem psd_while{c:Expr}{body:List Stmt}{tc:TBD}{tb:TSD}(hp:PassesOwn (model X.prog X.w) X.A X.env X.xe)(hc:PTD A X c tc)(hb:PSsD A X body tb):PSD A X (.While c body [] pos) (sWhile tc tb):=by
 with_unfolding_all
  exact(ps_while hp hc hb).imp fun E sg H h=>by
   obtain⟨rho,n,F,ds,vs,I,⟨J,⟨m0,j0⟩,turn⟩,ok⟩:=h
   refine⟨fun m sg H=>∃ rho n,Am A n rho sg H ds vs/\J m rho n,⟨m0,rho,n,I,j0⟩,?_⟩
   rintro m sg1 H1 ⟨rho1,n1,I1,j1⟩
   refine⟨rho1,n1,_,ds,vs,I1,turn m rho1 n1 j1,fun b H2 n2 I2 k=>?_⟩
   cases b with
   | true =>
    rw[if_pos rfl] at k ⊢
    refine⟨fun sg' H'=>∃ m',m'<m/\∃ rho n,Am A n rho sg' H' ds vs/\J m' rho n,fun sg' H' ⟨m',hm,q⟩=>⟨m',hm,q⟩,rho1,n2,_,ds,vs,I2,k,?_⟩
    exact⟨fun rho6 n6 sg6 H6 I6 ⟨m',hm,k6⟩=>⟨m',hm,rho6,n6,I6,k6⟩,fun d n6 v rho6 sg6 H6 I6 k6=>ok.rt _ _ _ _ _ _ I6 k6,fun rho6 n6 sg6 H6 I6 k6=>ok.nx _ _ _ _ I6 k6,fun rho6 n6 sg6 H6 I6 ⟨m',hm,k6⟩=>⟨m',hm,rho6,n6,I6,k6⟩⟩
   | false =>
    rw[if_neg Bool.false_ne_true] at k ⊢
    exact ok.nx _ _ _ _ I2 k
@[simp] private theorem q_sWhile{tc tb F rho n}:sWhile tc tb F rho n=∃ J:Nat->Rho->Nat->Prop,(∃ m,J m rho n)/\∀ m rho n,J m rho n->tc rho n fun b n1=>if b=true then tb { F with nx:=fun rho' n'=>∃ m',m'<m/\J m' rho' n',ct:=fun rho' n'=>∃ m',m'<m/\J m' rho' n',bk:=F.nx } rho n1 else F.nx rho n1:=rfl
def sAugI(f:Int->Int->Int)(i:Nat)(te:TD):TSD:=fun F rho n=>i<rho.length/\∃ a:Int,rho[i]?=some (some (.int a))/\te rho n fun d n1=>∃ b:Int,d=.int b/\F.nx (rho.set i (some (.int (f a b)))) n1
private theorem psd_augI{i:Nat}{x:Str}{op:Operator}{f:Int->Int->Int}{pos':Pos}(ho:PIp X op (ipI f))(hN:X.N.Nodup)(hi:X.N[i]?=some x)(hx:Loc X.env.scope x)(he:PD A X e te)(hf:X.fn x=true\/X.env.scope.names.lookup x=some .local:=by first | exact .inl rfl | exact .inr rfl | assumption) :
  PSD A X (.AugAssign (.Name x pos') op e pos) (sAugI f i te):=by
 with_unfolding_all
  exact(ps_aug hN hi hx he ho hf).imp fun E sg H h=>by
   obtain⟨rho,n,F,ds,vs,⟨os,I⟩,⟨hl,a,ha,ht⟩,ok⟩:=h
   obtain⟨v,e1,e2⟩:=I.slot i _ ha
   have e3:=SlotR.rep (d:=.int a) rfl e2
   refine⟨v,e1,rho,n,_,ds,vs,⟨os,I⟩,ht,fun w H' n' d ⟨os',J⟩ k=>?_⟩
   obtain⟨b,rfl,k⟩:=k
   obtain⟨J1,r⟩:=J.pop
   refine⟨a,b,e3.int_inv,r.int_inv,ok.nx _ _ _ _ ⟨_,AmO.set (d:=.int (f a b)) (J1.push (Rep.ofS rfl)) hl⟩ k⟩
@[simp] private theorem q_sAugI{f i te F rho n}:sAugI f i te F rho n=(i<rho.length/\∃ a:Int,rho[i]?=some (some (.int a))/\te rho n fun d n1=>∃ b:Int,d=.int b/\F.nx (rho.set i (some (.int (f a b)))) n1):=rfl
def rdCatS:RD2:=fun d1 d2 k=>∃ x y,d1=.str x/\d2=.str y/\x.length+y.length<=sizeLine/\k (.str (x++y))
private theorem re_catS:OpRel A (fun x y H Q=>∃ i j,x=.str i/\y=.str j/\i.length+j.length<=sizeLine/\Q (.str (i++j)) H) rdCatS:=by
 rintro os n rho sg H ds vs d1 d2 v1 v2 k Q I ⟨x,y,rfl,rfl,hz,q⟩ hQ
 obtain⟨I1,r2⟩:=I.pop
 obtain⟨I2,r1⟩:=I1.pop
 exact⟨x,y,r1.toS rfl,r2.toS rfl,hz,hQ _ H _ ⟨os,I2.push (Rep.ofS rfl)⟩ q⟩
@[simp] private theorem q_rdCatS{x y k}:rdCatS (.str x) (.str y) k↔(x.length+y.length<=sizeLine/\k (.str (x++y))):=⟨fun⟨_,_,e,e',h⟩=>by cases e;cases e';exact h,fun h=>⟨_,_,rfl,rfl,h⟩⟩
private theorem op_mulS:OpR X (binaryOp .Mult) (fun x y H Q=>∃ i n,x=.str i/\y=.int n/\MulOk i n/\Q (.str (Txt.mul i n)) H):=by
 intro pins s σ H x y v u Q I rx ry h
 obtain⟨i,n,rfl,rfl,hz,q⟩:=h
 obtain⟨t,rfl⟩:=rx
 obtain⟨t',rfl⟩:=ry
 exact SB.mul hz fun t' k=>⟨.str (Txt.mul i n),H,I.tok _,⟨_,rfl⟩,q⟩
def rdMulS:RD2:=fun d1 d2 k=>∃ x i,d1=.str x/\d2=.int i/\MulOk x i/\k (.str (Txt.mul x i))
private theorem re_mulS:OpRel A (fun x y H Q=>∃ i n,x=.str i/\y=.int n/\MulOk i n/\Q (.str (Txt.mul i n)) H) rdMulS:=by
 rintro os n rho sg H ds vs d1 d2 v1 v2 k Q I ⟨x,y,rfl,rfl,hz,q⟩ hQ
 obtain⟨I1,r2⟩:=I.pop
 obtain⟨I2,r1⟩:=I1.pop
 exact⟨x,y,r1.toS rfl,r2.toS rfl,hz,hQ _ H _ ⟨os,I2.push (Rep.ofS rfl)⟩ q⟩
@[simp] private theorem q_rdMulS{x i k}:rdMulS (.str x) (.int i) k↔(MulOk x i/\k (.str (Txt.mul x i))):=⟨fun⟨_,_,e,e',h⟩=>by cases e;cases e';exact h,fun h=>⟨_,_,rfl,rfl,h⟩⟩
end
private theorem wp_long{M:Model}{A:Around}{E:Value->Shared->Prop}{s:Shared}{Q:Value->Shared->Prop}{v:Value}{text:List Nat}{n:Int}
    (hs:¬ (text.takeWhile (· != 0)).length<=640) (hr:(int_private% "readNumeral") 4300 10 (text.takeWhile (· != 0))=(int_private% "Numeral.value") n)
    (ha:((text.takeWhile (· != 0)).length == text.length)=true) (hn:s.heap.NoDigits) (h:Q (.int n s.toks) { s with toks:=s.toks+1 }) :
    wpAny M A ((int_private% "intFromText") v text 10) Q E s:=by
  obtain⟨mc,hns,hnone⟩:=hn
  obtain⟨hp,g,d,tk,os⟩:=s
  have hi:∀ {Q:Nat->Shared->Prop},Q 4300 ⟨hp,g,d,tk,os⟩->wpAny M A Builtin.intMaxStrDigits Q E ⟨hp,g,d,tk,os⟩:=fun {Q} q=>by
    unfold Builtin.intMaxStrDigits
    refine wpAny_bind (wpAny_nsGet hns ?_)
    rw[hnone]
    exact wpAny_pure q
  repeat (any_goals (first
    | assumption
    | (with_reducible refine wpAny_ite_false (decide_eq_false hs) ?_)
    | (with_reducible refine wpAny_ite_true (decide_eq_true ha) ?_)
    | (with_reducible refine hi ?_)
    | wp_step))
  all_goals (try rw[hr])
  all_goals (try dsimp only)
  repeat (any_goals (first
    | assumption
    | (with_reducible refine wpAny_ite_true (decide_eq_true ha) ?_)
    | wp_step))
set_option maxHeartbeats 4000000 in
private theorem meets_long{x:PySem.Str}{u:Tok}{n:Int}(hs:¬ (numSeenOf x).length<=640)(hl:x.length<=sizeLine)(hn:PySem.intText? x=some n):Meets (Builtin.«int.__new__» ⟨[.type "int",.str x u],[]⟩) (fun A R s=>s.heap.NoDigits/\R (.ok (.ret (.int n s.toks))) { s with toks:=s.toks+1 }):=by
 intro prog w A R s h
 obtain⟨hd,h⟩:=h
 obtain⟨hp,g,d,tk,os⟩:=s
 have f1:=F.conv_sub_int
 have f2:=F.madeHere_int
 have f3:=KIN.str_int
 have f4:=KIN.str_idx
 have f5:=KIN.str_trunc
 have f6:typeOf (.str x u)=pure (.type "str"):=rfl
 have hr:(int_private% "readNumeral") 4300 10 (numSeenOf x)=(int_private% "Numeral.value") n/\((numSeenOf x).length == (numTextOf x).length)=true:=by
  rcases read4300 x hl with ⟨m,h1,h2,h3⟩ | ⟨h1,_⟩
  ·rw [hn] at h1
   injection h1 with h1
   subst h1
   exact⟨h3,h2⟩
  ·rw [hn] at h1
   cases h1
 have hk:=KIN.Hid.mk (And.intro hs (And.intro hr hd))
 clear hs hr hl hn hd
 repeat (any_goals (first
  | assumption
  | ((with_reducible show wpAny _ _ ((int_private% "intFromText") _ _ _) _ _ _);refine wp_long hk.out.1 hk.out.2.1.1 hk.out.2.1.2 hk.out.2.2 ?_)
  | wp_step))
private theorem call_long{prog:Program}{w:World}{A:Around}{E:Value->Shared->Prop}{s:Shared}{Q:Value->Shared->Prop}{x:PySem.Str}{t:Tok}{n:Int}(hs:¬ (numSeenOf x).length<=640)(hl:x.length<=sizeLine)(hn:PySem.intText? x=some n)(hd:s.heap.NoDigits)(h:Q (.int n s.toks) { s with toks:=s.toks+1 }):wpAny (model prog w) A (call (.type "int") [.str x t]) Q E s :=
 call_int_1 (meets_long hs hl hn) ⟨hd,rfl,h⟩
section
variable {A:AC} {X:Cx}
private theorem call_int_long(hd:X.base.NoDigits):CallR X (.type "int") (fun xs H Q=>∃ x n,xs=[.str x]/\¬ (numSeenOf x).length<=640/\x.length<=sizeLine/\PySem.intText? x=some n/\Q (.int n) H):=by
 intro pins s σ H xs us Q I r h
 obtain⟨x,n,rfl,h1,h2,h3,q⟩:=h
 obtain⟨u,rfl,t,rfl⟩:=vals1 r
 exact call_long h1 h2 h3 (hd.keeps I.bk) ⟨.int n,H,I.tok _,⟨_,rfl⟩,q⟩
def kIntL:List D->(D->Prop)->Prop:=fun es k=>∃ x n,es=[.str x]/\¬ (numSeenOf x).length<=640/\x.length<=sizeLine/\PySem.intText? x=some n/\k (.int n)
private theorem cr_intL:CallRel A (fun xs H Q=>∃ x n,xs=[.str x]/\¬ (numSeenOf x).length<=640/\x.length<=sizeLine/\PySem.intText? x=some n/\Q (.int n) H) kIntL:=by
 rintro os n rho sg H ds vs es ws k Q I rs ⟨x,m,rfl,h1,h2,h3,q⟩ hQ
 obtain⟨v,rfl,r⟩:=reps1 rs
 exact⟨x,m,by rw[r.toS rfl];rfl,h1,h2,h3,hQ _ H _ ⟨os,I.push (Rep.ofS rfl)⟩ q⟩
end
private theorem fold_rep:∀ (k:Nat) (a:Array Nat),((replicate k #[48]).foldl (·++·) a).toList=a.toList++replicate k 48
  | 0,a=>by simp
  | k + 1, a => by
    rw[List.replicate_succ,List.foldl_cons,fold_rep k,Array.toList_append,append_assoc]
    rfl
private theorem cps_noughts(k:Int)(h:1<k):(Str.ofString "1" ++ Txt.mul (Str.ofString "0") k).cps.toList=49::replicate k.toNat 48:=by
 have e:(Str.ofString "0").cps=#[48]:=by decide +kernel
 have e1:(Str.ofString "1").cps=#[49]:=by decide +kernel
 have el:(Str.ofString "0").length=1:=by decide +kernel
 unfold Txt.mul
 rw[if_neg (by lia),if_neg (by simp[el];lia)]
 show((Str.ofString "1").cps++_).toList=_
 rw[e1,Array.toList_append,e,fold_rep]
 rfl
private theorem int_noughts(k:Int)(h:700<k)(h2:k<4200):∃ m:Int,0<m/\¬ (numSeenOf (Str.ofString "1" ++ Txt.mul (Str.ofString "0") k)).length<=640/\(Str.ofString "1" ++ Txt.mul (Str.ofString "0") k).length<=sizeLine/\PySem.intText? (Str.ofString "1" ++ Txt.mul (Str.ofString "0") k)=some m:=by
 have ec:=cps_noughts k (by lia)
 generalize hx:Str.ofString "1" ++ Txt.mul (Str.ofString "0") k=x at *
 have hl:x.length=k.toNat+1:=by
  have:x.cps.toList.length=x.length:=Array.length_toList
  rw[<- this,ec];simp
 have hd:NumText.AllDigits x.cps.toList:=fun c hc=>by
  rw[ec] at hc
  rcases List.mem_cons.mp hc with rfl | hc
  ·lia
  ·rw[(List.mem_replicate.mp hc).2];lia
 refine⟨(NumText.digitsVal x.cps.toList:Nat),?_,?_,?_,intText_digits hd (by rw[ec];simp) (by lia)⟩
 ·rw [ec]
  have:=NumText.digitsVal_pos (c:=49) (cs:=replicate k.toNat 48) (by decide)
  lia
 ·rw[(numText_signs fun c hc=>Or.inr (hd c hc)).2,ec];simp;lia
 ·rw[hl,sizeLine_eq];lia
private theorem mulok_nought(k:Int)(h:1<k)(h2:k<10000):MulOk (Str.ofString "0") k:=by
 have el:(Str.ofString "0").length=1:=by decide +kernel
 refine⟨by simp;lia,fun _ _=>?_,fun _ _=>?_⟩
 ·rw [el]
  have:1<=(2^63-1:Int)/k:=(Int.le_ediv_iff_mul_le (by lia)).mpr (by lia)
  intro z
  exact absurd z (Int.not_lt.mpr this)
 ·rw [el]
  unfold Builtin.Str.tooLong
  exact decide_eq_false (by rw[sizeLine_eq];lia)
end L2
namespace L2
private theorem law_callN{P:Program}{w:World}{K:W.Frag}{mg mb:Str->Option Value}{CX:CXT}{k:Nat}{fa a:Addr}{fd:FuncData}{x:Str}{sp:Sp}{s₁:Shared}{vs:List Value}{ns:List Int}
  (KX:K.In s₁.heap) (hns:s₁.heap.Ns mainGlobals mg) (hb:s₁.heap.Ns builtinsNs mb) (hbb:∀ x:Str,x ≠ "__name__" -> mb x=bootBuiltins x) (hlim:s₁.heap.NoLimit) (hdig:s₁.heap.NoDigits) (hg:s₁.gens=#[])
  (ha:s₁.heap.get? a=some { cls:=.type "list",data:=.seq vs.toArray }) (hi:IntsAre vs ns) (hl:ns.length<=sizeLine) (hr:Room k callerA)
  (F:∀ base:Heap,K.In base->base.Ns mainGlobals mg->base.NoDigits->FnOk P w K mg base CX k fa fd [x] sp) (hbind:∀ (s:Shared) (u:Value),BindsTo s fd ⟨[u],[]⟩ [(x,u)])
  (hsp:∀ H:Hp,Only H->SqL K H a (ns.map V.int)->sp [.ref a] H (fun v _=>v=.bl true) fun _ _ _=>False)
  (hCX:∀ H e s',CX [] H s₁ (fun _ _ _=>False) e s'->False) :
  codeAny (model P w) callerA (.call (.ref fa) ⟨[.ref a],[]⟩) (fun r s'=>r=.ok (.ret (.bool true))/\OldK s₁.heap s'.heap/\s'.os=s₁.os/\AllBare s'.gens) s₁:=by
 have rv:=vals_ints hi
 have lenV:=hi.length
 have core : ∀ H : Hp, Only H -> SqL K H a (ns.map V.int) -> HOk P w H s₁.heap -> (∀ b, H b ≠ none -> b = a) -> (H a ≠ none -> K.lookup a = none) ->
   codeAny (model P w) callerA (.call (.ref fa) ⟨[.ref a],[]⟩) (fun r s'=>r=.ok (.ret (.bool true))/\OldK s₁.heap s'.heap/\s'.os=s₁.os/\AllBare s'.gens) s₁:=by
  intro H hO hS hok hA hK
  have base_of:∀ {b:Addr} {o:Obj},s₁.heap.get? b=some o->H b=none->(hidT s₁.heap H).get? b=some o:=fun e n=>hidT_get e n
  have noA:∀ {b:Addr} {o:Obj} {es:Array DictEntry} {ep:Nat},s₁.heap.get? b=some o->o.data=.dict es ep->H b=none:=fun {b o es ep} e d=>by
   cases q:H b with
   | none=>rfl
   | some u =>
    have e':b=a:=hA b (by rw[q];simp)
    subst e'
    rw[ha] at e;cases e
    have d':Data.seq vs.toArray _=Data.dict es ep:=d
    cases d'
  have nsK:∀ {b:Addr} {m:Str->Option Value},s₁.heap.Ns b m->(hidT s₁.heap H).Ns b m:=fun {b m} ⟨o,es,ep,e,d,r⟩=>⟨o,es,ep,base_of e (noA e d),d,r⟩
  have hKb:K.In (hidT s₁.heap H):=fun b o e=>base_of (KX b o e) (by
   cases q:H b with
   | none=>rfl
   | some u =>
    have e':b=a:=hA b (by rw[q];simp)
    subst e'
    rw[hK (by rw[q];simp)] at e;cases e)
  have hM:Mod K mg (hidT s₁.heap H):=⟨hKb,nsK hns,⟨mb,nsK hb,hbb⟩,let ⟨mc,h1,h2⟩:=hlim;⟨mc,nsK h1,h2⟩⟩
  have e0:Env0 P w K mg (hidT s₁.heap H) callerA [] s₁ H:=⟨rfl,hM,fun b o e=>of_hidT e,Nat.le_of_eq (hidT_size _ _),trivial,fun b hb=>absurd (show b∈([]:List Addr) from hb) (by simp),hok,.of_eq hg⟩
  refine codeAny_mono ((F _ hKb (nsK hns) (let ⟨mc,h1,h2⟩:=hdig;⟨mc,nsK h1,h2⟩)).run callerA [] s₁ H ⟨[.ref a],[]⟩ [.ref a] [.ref a] _ _ hr e0 (hbind s₁ (.ref a)) (.cons rfl .nil) (hsp H hO hS)) fun r s' h=>?_
  cases r with
  | error e=>exact(hCX H e s' h).elim
  | ok fl =>
   cases fl with
   | next=>exact False.elim h
   | brk=>exact False.elim h
   | cont=>exact False.elim h
   | ret u =>
    obtain⟨v,H',os,bare,un,hok',r',q⟩:=h
    have q':v=.bl true:=q
    subst q'
    obtain rfl:u=Value.bool true:=r'
    refine⟨rfl,OldK.of_keep fun b o e=>?_,os,bare⟩
    cases q:H b with
    | none=>exact un.keep b o e q (by intro z;exact absurd (show b∈([]:List Addr) from z) (by simp)) (by simp)
    | some u =>
     rcases hO b with z | ⟨ob,xs,z⟩
     ·rw[q] at z;cases z
     ·have z2 := un.frzs b ob _ z
      obtain⟨e1,_⟩:=hok b _ z
      obtain⟨e2,_⟩:=hok' b _ z2
      rw[e] at e1;cases e1
      exact e2
 cases hk:K.lookup a with
 | some o =>
  have e:=KX a o hk
  rw[ha] at e
  cases e
  refine core (fun _=>none) (fun _=>.inl rfl) (.inr ⟨_,vs.toArray,_,hk,rfl,rfl,rfl,by rw[size_toArray,lenV];exact hl,by simpa using rv⟩) (fun b u z=>by have z':(none:Option HO)=some u:=z;cases z') (fun b z=>absurd rfl z) fun z=>absurd rfl z
 | none =>
  refine core (fun b=>if b=a then some (.frz { cls:=.type "list",data:=.seq vs.toArray } (.lst (ns.map V.int))) else none) (fun b=>?_) (.inl (.inr ⟨{ cls:=.type "list",data:=.seq vs.toArray },if_pos rfl⟩)) (fun b u z=>?_) (fun b z=>?_) fun _=>hk
  ·by_cases hb : b = a
   ·exact .inr ⟨_,_,if_pos hb⟩
   ·exact .inl (if_neg hb)
  ·by_cases hb : b = a
   ·have z' := (if_pos hb).symm.trans z
    cases z'
    subst hb
    exact⟨ha,by rw[length_map];exact hl,vs,_,rv,ha⟩
   ·have z' := (if_neg hb).symm.trans z
    cases z'
  ·by_cases hb : b = a
   ·exact hb
   ·exact absurd (if_neg hb) z
private theorem walk_ofN{l:W.OpenLaw}{n k:Nat}{q:Program}{loose:List Str}{XP:(Str->Option Value)->Heap->Prop}{YP:World->Heap->Prop}{d:DefRec}{K:Params->W.Frag}{CX:World->CXT}{sp:World->Sp}{x:Str}
  (hn:l.most=some n) (hn2:n<=sizeLine) (hdf:d.params.defaults=[]) (hr:Room k callerA)
  (hY:∀ (w:World) (h:Heap),YP w h->(K w.params).In h)
  (F : ∀ (w : World) (mg : Str -> Option Value) (fa : Addr) (h : Heap), (K w.params).In h -> h.Ns mainGlobals mg -> mg d.name = some (.ref fa) ->
   ∃ fd:FuncData,(∀ (s:Shared) (u:Value),BindsTo s fd ⟨[u],[]⟩ [(x,u)]) /\
    ∀ base:Heap,(K w.params).In base->base.Ns mainGlobals mg->base.NoDigits->FnOk l.prog w (K w.params) mg base (CX w) k fa fd [x] (sp w))
  (hsp:∀ (w:World) (H:Hp) (a:Addr) (ns:List Int),ns.length<=n->Only H->SqL (K w.params) H a (ns.map V.int)->sp w [.ref a] H (fun v _=>v=.bl true) fun _ _ _=>False)
  (hCX:∀ (w:World) (H:Hp) (s:Shared) (e:Value) (s':Shared),CX w [] H s (fun _ _ _=>False) e s'->False) :
  W.WalkO q loose XP YP l.row.toRowW d [] (fun f vs=>PySem.call f vs):=by
 refine Att.attach_call hn hdf fun w s₀ s₁ mg mb fa o pm cd doc a vs ns G Y ho hd hcd hmg hobj hints hlen hg=>?_
 have KX:=hY w _ Y
 obtain⟨fd,hb,hF⟩:=F w mg fa _ KX G.T.g hmg
 exact law_callN KX G.T.g G.T.b G.T.builtins G.T.nolimit G.T.nodigits hg hobj hints (Nat.le_trans hlen hn2) hr hF hb (fun H hO hS=>hsp w H a ns hlen hO hS) fun H e s'=>hCX w H s₁ e s'
end L2
namespace L2
open PySem PySem.Spec PyProof.Rows PySem.W PySem.Calls
section
variable {X:Cx} {pos:Pos}
end
section
variable {A:AC} {X:Cx} {a b c:Expr} {pos:Pos}
def sPar3(i j k:Nat)(t:TAD):TSD:=fun F rho n=>i<rho.length/\j<rho.length/\k<rho.length/\t rho n fun es n1=>∃ d d' d2,es=[d,d',d2]/\F.nx (((rho.set k (some d2)).set j (some d')).set i (some d)) n1
@[simp] private theorem q_sPar3{i j k t F rho n}:sPar3 i j k t F rho n=(i<rho.length/\j<rho.length/\k<rho.length/\t rho n fun es n1=>∃ d d' d2,es=[d,d',d2]/\F.nx (((rho.set k (some d2)).set j (some d')).set i (some d)) n1):=rfl
end
end L2
namespace L2.Srt
open PySem PyProof.Rows
def lab(ls:Array Nat)(i:Nat):Nat:=ls.getD i 0
structure Rule(prog:Program)(w:World)(A:Around)(s:Shared)(n:Nat)(item:Nat->Keyed)(kd:SortKind)(r:Nat->Nat->Bool):Prop where
 tot:∀ a b,a<n->b<n->a≠b->r a b=!r b a
 tr:∀ a b c,a<n->b<n->c<n->r a b=true->r b c=true->r a c=true
 cmp:∀ a b,a<n->b<n->a≠b->∀ (E:Value->Shared->Prop) (Q:Bool->Shared->Prop),Q (r a b) s->wpAny (model prog w) A (keyLt' kd (item a).1 (item b).1) Q E s
def Up(r:Nat->Nat->Bool)(ls:Array Nat)(k:Nat):Prop:=∀ i j,i<j->j<k->r (lab ls i) (lab ls j)=true
section
variable {n:Nat} {item:Nat->Keyed} {kd:SortKind} {r:Nat->Nat->Bool} {ls:Array Nat} {t:SortSt}
private theorem lab_get{i:Nat}(h:i<ls.size):ls[i]?=some (lab ls i):=by
 unfold lab
 rw[Array.getD_eq_getD_getElem?,Array.getElem?_eq_getElem h];rfl
private theorem lab_of_get{as:Array Nat}{k v:Nat}(h:as[k]?=some v):lab as k=v:=by
 unfold lab
 rw[Array.getD_eq_getD_getElem?,h];rfl
private theorem bub_lab{src d:Nat}(hs:src<ls.size)(hd:d<=src){k:Nat}(hk:k<ls.size):lab (bubble ls src d) k=if k=src-d then lab ls src else if src-d<k/\k<=src then lab ls (k-1) else lab ls k:=by
 refine lab_of_get ?_
 rw[getElem?_bubble hs d hd k]
 split
 ·exact lab_get hs
 ·split
  ·exact lab_get (by lia)
  ·exact lab_get hk
private theorem bub_map{src d:Nat}(hs:src<ls.size)(hd:d<=src):bubble (ls.map item) src d=(bubble ls src d).map item:=by
 refine Array.ext_getElem? fun k=>?_
 rw[getElem?_bubble (by simpa using hs) d hd k]
 simp only[Array.getElem?_map]
 rw[getElem?_bubble hs d hd k]
 split
 ·rfl
 ·split<;>rfl
private theorem mir_lab{i j:Nat}(hj:j<=ls.size){k:Nat}(hk:k<ls.size):lab (mirror ls i j ((j-i)/2)) k=if i<=k/\k<j then lab ls (i+j-1-k) else lab ls k:=by
 refine lab_of_get ?_
 rw[getElem?_mirror_all hj k]
 split
 ·exact lab_get (by lia)
 ·exact lab_get hk
private theorem mir_map{i j:Nat}(hj:j<=ls.size):mirror (ls.map item) i j ((j-i)/2)=(mirror ls i j ((j-i)/2)).map item:=by
 refine Array.ext_getElem? fun k=>?_
 rw[getElem?_mirror_all (by simpa using hj) k]
 simp only[Array.getElem?_map]
 rw[getElem?_mirror_all hj k]
 split<;>rfl
end
end L2.Srt
namespace L2.Srt
open PySem PyProof.Rows
def gallop':Bool->Keyed->Array Keyed->Nat->Nat->Nat->StateT SortSt Sem (Option Nat):=sortPriv% PySem.Builtin.gallop
def setMinGallop':Nat->StateT SortSt Sem Unit:=sortPriv% PySem.Builtin.setMinGallop
def mergeLo':Array Keyed->Array Keyed->StateT SortSt Sem (Array Keyed):=sortPriv% PySem.Builtin.mergeLo
def mergeHi':Array Keyed->Array Keyed->StateT SortSt Sem (Array Keyed):=sortPriv% PySem.Builtin.mergeHi
abbrev setGal(st:SortSt)(g:Nat):SortSt:=SortSt.mk' (kindOf st) (arrOf st) (pendingOf st) g (failedOf st)
private theorem setMinGallop'_eq(g:Nat):setMinGallop' g=modify fun s=>setGal s g:=rfl
def beyond'(left:Bool)(key:Keyed)(arr:Array Keyed)(base i:Nat):StateT SortSt Sem (Option Bool):=do
 let x <- elem' arr (base+i)
 if left then lt' x key else return (<- lt' key x).map (!·)
private theorem gallop'_eq(left:Bool)(key:Keyed)(arr:Array Keyed)(base n hint:Nat):gallop' left key arr base n hint=(do
 let mut lastofs:=0
 let mut ofs:=1
 let mut lo:=0
 let mut hi:=0
 let some right <- beyond' left key arr base hint | return none
 if right then
  let maxofs:=n-hint
  for _ in [0:n] do
   if ofs>=maxofs then break
   let some more <- beyond' left key arr base (hint+ofs) | return none
   if !more then break
   lastofs:=ofs
   ofs:=2*ofs+1
  lo:=hint+lastofs+1
  hi:=hint+min ofs maxofs
 else
  let maxofs:=hint+1
  for _ in [0:n] do
   if ofs>=maxofs then break
   let some found <- beyond' left key arr base (hint-ofs) | return none
   if found then break
   lastofs:=ofs
   ofs:=2*ofs+1
  lo:=hint+1-min ofs maxofs
  hi:=hint-lastofs
 for _ in [0:n] do
  if lo>=hi then break
  let m:=lo+(hi-lo)/2
  let some more <- beyond' left key arr base m | return none
  if more then lo:=m+1 else hi:=m
 return some hi):=rfl
private theorem mergeLo'_eq(a b:Array Keyed):mergeLo' a b=(do
 rule "list.sort.merge-lo"
 let total:=a.size+b.size
 let done (out:Array Keyed) (ia ib:Nat):=out++a.extract ia a.size++b.extract ib b.size
 let lastOfA (out:Array Keyed) (ia ib:Nat):=out++b.extract ib b.size++a.extract ia a.size
 let mut out:Array Keyed:=#[<- elem' b 0]
 let mut ia:=0
 let mut ib:=1
 if ib == b.size then return done out ia ib
 if ia+1 == a.size then return lastOfA out ia ib
 let mut minGallop:=gallopOf (<- get)
 for _ in [0:total] do
  let mut acount:=0
  let mut bcount:=0
  for _ in [0:total] do
   let some bWins <- lt' (<- elem' b ib) (<- elem' a ia) | return done out ia ib
   if bWins then
    out:=out.push (<- elem' b ib);ib:=ib+1;bcount:=bcount+1;acount:=0
    if ib == b.size then return done out ia ib
    if bcount>=minGallop then break
   else
    out:=out.push (<- elem' a ia);ia:=ia+1;acount:=acount+1;bcount:=0
    if ia+1 == a.size then return lastOfA out ia ib
    if acount>=minGallop then break
  rule "list.sort.gallop"
  minGallop:=minGallop+1
  for _ in [0:total] do
   if minGallop > 1 then minGallop:=minGallop-1
   setMinGallop' minGallop
   let some k <- gallop' false (<- elem' b ib) a ia (a.size-ia) 0 | return done out ia ib
   acount:=k
   if k > 0 then
    out:=out++a.extract ia (ia+k);ia:=ia+k
    if ia+1 == a.size then return lastOfA out ia ib
    if ia == a.size then return done out ia ib
   out:=out.push (<- elem' b ib);ib:=ib+1
   if ib == b.size then return done out ia ib
   let some k <- gallop' true (<- elem' a ia) b ib (b.size-ib) 0 | return done out ia ib
   bcount:=k
   if k > 0 then
    out:=out++b.extract ib (ib+k);ib:=ib+k
    if ib == b.size then return done out ia ib
   out:=out.push (<- elem' a ia);ia:=ia+1
   if ia+1 == a.size then return lastOfA out ia ib
   if acount<7&&bcount<7 then break
  minGallop:=minGallop+1
  setMinGallop' minGallop
 unsupported "internal:list.sort.merge-bound"):=rfl
private theorem mergeHi'_eq(a b:Array Keyed):mergeHi' a b=(do
 rule "list.sort.merge-hi"
 let total:=a.size+b.size
 let done (out:Array Keyed) (na nb:Nat):=a.extract 0 na++b.extract 0 nb++out.reverse
 let firstOfB (out:Array Keyed) (na nb:Nat):=b.extract 0 nb++a.extract 0 na++out.reverse
 let mut na:=a.size-1
 let mut nb:=b.size
 let mut out:Array Keyed:=#[<- elem' a na]
 if na == 0 then return done out na nb
 if nb == 1 then return firstOfB out na nb
 let mut minGallop:=gallopOf (<- get)
 for _ in [0:total] do
  let mut acount:=0
  let mut bcount:=0
  for _ in [0:total] do
   let some aWins <- lt' (<- elem' b (nb-1)) (<- elem' a (na-1)) | return done out na nb
   if aWins then
    na:=na-1;out:=out.push (<- elem' a na);acount:=acount+1;bcount:=0
    if na == 0 then return done out na nb
    if acount>=minGallop then break
   else
    nb:=nb-1;out:=out.push (<- elem' b nb);bcount:=bcount+1;acount:=0
    if nb == 1 then return firstOfB out na nb
    if bcount>=minGallop then break
  rule "list.sort.gallop"
  minGallop:=minGallop+1
  for _ in [0:total] do
   if minGallop > 1 then minGallop:=minGallop-1
   setMinGallop' minGallop
   let some at_ <- gallop' false (<- elem' b (nb-1)) a 0 na (na-1) | return done out na nb
   let k:=na-at_
   acount:=k
   if k > 0 then
    out:=out++(a.extract at_ na).reverse;na:=at_
    if na == 0 then return done out na nb
   nb:=nb-1;out:=out.push (<- elem' b nb)
   if nb == 1 then return firstOfB out na nb
   let some at_ <- gallop' true (<- elem' a (na-1)) b 0 nb (nb-1) | return done out na nb
   let k:=nb-at_
   bcount:=k
   if k > 0 then
    out:=out++(b.extract at_ nb).reverse;nb:=at_
    if nb == 1 then return firstOfB out na nb
    if nb == 0 then return done out na nb
   na:=na-1;out:=out.push (<- elem' a na)
   if na == 0 then return done out na nb
   if acount<7&&bcount<7 then break
  minGallop:=minGallop+1
  setMinGallop' minGallop
 unsupported "internal:list.sort.merge-bound"):=rfl
private theorem mergeAt'_eq(i:Nat):mergeAt' i=(do
 let s <- get
 let (some (sa,na,power),some (sb,nb,_)):=((pendingOf s)[i]?,(pendingOf s)[i+1]?) | unsupported "internal:list.sort.pending"
 set (setPending s (((pendingOf s).setIfInBounds i (sa,na+nb,power)).eraseIdxIfInBounds (i+1)))
 let some k <- gallop' false (<- elem' (arrOf s) sb) (arrOf s) sa na 0 | return false
 let (sa,na):=(sa+k,na-k)
 if na == 0 then return true
 let some nb <- gallop' true (<- elem' (arrOf s) (sa+na-1)) (arrOf s) sb nb (nb-1) | return false
 if nb == 0 then return true
 let x:=(arrOf s).extract sa sb
 let y:=(arrOf s).extract sb (sb+nb)
 let merged <- if na<=nb then mergeLo' x y else mergeHi' x y
 modify fun s=>setArr s (merged.toList.zipIdx.foldl (fun a (p,j)=>a.setIfInBounds (sa+j) p) (arrOf s))
 return (failedOf (<- get)).isNone):=rfl
def srch(left:Bool)(key:Keyed)(arr:Array Keyed)(base n lo0 hi0:Nat):StateT SortSt Sem (Option Nat):=do
 let mut lo:=lo0
 let mut hi:=hi0
 for _ in [0:n] do
  if lo>=hi then break
  let m:=lo+(hi-lo)/2
  let some more <- beyond' left key arr base m | return none
  if more then lo:=m+1 else hi:=m
 return some hi
def tailAsc(lo n0 nrem:Nat):StateT SortSt Sem (Option Nat):=do
 let mut n:=n0
 reverseSlice' lo (lo+n)
 for _ in [n:nrem] do
  let some smaller <- ltAt' (lo+n) (lo+n-1) | return none
  if smaller then break
  n:=n+1
 return some n
def descRest(lo n0 nrem:Nat):StateT SortSt Sem (Option Nat):=do
 let mut n:=n0
 rule "list.sort.descending-run"
 n:=n+1
 let mut neq:=0
 for _ in [n:nrem] do
  let some smaller <- ltAt' (lo+n) (lo+n-1) | return none
  if smaller then
   if neq > 0 then reverseSlice' (lo+n-(neq+1)) (lo+n)
   neq:=0
  else
   let some larger <- ltAt' (lo+n-1) (lo+n) | return none
   if larger then break
   neq:=neq+1
  n:=n+1
 if neq > 0 then reverseSlice' (lo+n-(neq+1)) (lo+n)
 reverseSlice' lo (lo+n)
 for _ in [n:nrem] do
  let some smaller <- ltAt' (lo+n) (lo+n-1) | return none
  if smaller then break
  n:=n+1
 return some n
end L2.Srt
namespace L2.Srt
open PySem PyProof.Rows
section
variable {prog:Program} {w:World} {A:Around} {E:Value->Shared->Prop} {s:Shared} {t:SortSt}
section
variable {left:Bool} {key:Keyed} {arr:Array Keyed} {base m hint:Nat} {by':Nat->Bool}
private theorem srch_ok{lo hi:Nat}(hm:hi<=m)(hlo:lo<=hi)
  (hby:∀ i,i<m->∀ Q:Option Bool->SortSt->Prop,Q (some (by' i)) t->wpS (model prog w) A E s (beyond' left key arr base i) Q t)
  (anti:∀ i j,i<=j->j<m->by' j=true->by' i=true) (no:∀ i j,i<=j->j<m->by' i=false->by' j=false)
  (h1:∀ i,i<lo->by' i=true) (h2:∀ i,hi<=i->i<m->by' i=false) {Q:Option Nat->SortSt->Prop}
  (q:∀ k,k<=m->(∀ i,i<k->by' i=true)->(∀ i,k<=i->i<m->by' i=false)->Q (some k) t) :
  wpS (model prog w) A E s (srch left key arr base m lo hi) Q t:=by
 unfold srch
 refine wpS_bind (wpS_mono (wpS_forRange (fun x c t'=>t'=t/\∃ l h,c=(none,l,h)/\l<=h/\h<=m/\h-l<=m-x/\(∀ i,i<l->by' i=true)/\∀ i,h<=i->i<m->by' i=false)
  (Q:=fun c t'=>t'=t/\∃ l,c=(none,l,l)/\l<=m/\(∀ i,i<l->by' i=true)/\∀ i,l<=i->i<m->by' i=false) ?_ ?_ ⟨rfl,lo,hi,rfl,hlo,hm,by lia,h1,h2⟩) ?_)
 ·rintro x c t' _ hx ⟨rfl, l, h, rfl, g1, g2, g3, g4, g5⟩
  dsimp only
  split
  ·rename_i hd
   obtain rfl:l=h:=by lia
   exact wpS_pure ⟨rfl,l,rfl,g2,g4,g5⟩
  ·rename_i hd
   refine wpS_bind (hby _ (by lia) _ ?_)
   cases z:by' (l+(h-l)/2)
   ·exact wpS_pure ⟨rfl,l,_,rfl,by lia,by lia,by lia,g4,fun i i1 i2=>no _ i i1 i2 z⟩
   ·exact wpS_pure ⟨rfl,_,h,rfl,by lia,by lia,by lia,fun i i1=>anti i _ (by lia) (by lia) z,g5⟩
 ·rintro c t' ⟨rfl, l, h, rfl, g1, g2, g3, g4, g5⟩
  obtain rfl:l=h:=by lia
  exact⟨rfl,l,rfl,g2,g4,g5⟩
 ·rintro c t' ⟨rfl, l, rfl, g1, g2, g3⟩
  exact wpS_pure (q l g1 g2 g3)
private theorem gal(h:hint<m)
  (hby:∀ i,i<m->∀ Q:Option Bool->SortSt->Prop,Q (some (by' i)) t->wpS (model prog w) A E s (beyond' left key arr base i) Q t)
  (anti:∀ i j,i<=j->j<m->by' j=true->by' i=true) {Q:Option Nat->SortSt->Prop}
  (q:∀ k,k<=m->(∀ i,i<k->by' i=true)->(∀ i,k<=i->i<m->by' i=false)->Q (some k) t) :
  wpS (model prog w) A E s (gallop' left key arr base m hint) Q t:=by
 rw[gallop'_eq]
 refine wpS_bind (hby hint h _ ?_)
 have no:∀ i j,i<=j->j<m->by' i=false->by' j=false:=fun i j h1 h2 h3=>by
  cases z:by' j with
  | false=>rfl
  | true=>rw[anti i j h1 h2 z] at h3;cases h3
 cases z:by' hint
 ·simp only [Bool.false_eq_true, if_false]
  refine wpS_bind (wpS_mono (wpS_forRange (fun x c t'=>t'=t/\∃ la ofs,c=(none,la,ofs)/\la<ofs/\x+1<=ofs/\la<=hint/\by' (hint-la)=false)
   (Q:=fun c t'=>t'=t/\∃ la ofs,c=(none,la,ofs)/\la<ofs/\la<=hint/\by' (hint-la)=false/\(ofs<=hint->by' (hint-ofs)=true)) ?_ ?_ ⟨rfl,0,1,rfl,by lia,by lia,by lia,z⟩) ?_)
  ·rintro x c t' _ hx ⟨rfl, la, ofs, rfl, g1, g2, g3, g4⟩
   dsimp only
   split
   ·exact wpS_pure ⟨rfl,la,ofs,rfl,g1,g3,g4,fun h=>by lia⟩
   ·rename_i hd
    refine wpS_bind (hby _ (by lia) _ ?_)
    cases z2:by' (hint-ofs)
    ·exact wpS_pure ⟨rfl,ofs,_,rfl,by lia,by lia,by lia,z2⟩
    ·exact wpS_pure ⟨rfl,la,ofs,rfl,g1,g3,g4,fun _=>z2⟩
  ·rintro c t' ⟨rfl, la, ofs, rfl, g1, g2, g3, g4⟩
   exact⟨rfl,la,ofs,rfl,g1,g3,g4,fun h=>by lia⟩
  ·rintro c t' ⟨rfl, la, ofs, rfl, g1, g3, g4, g5⟩
   show wpS (model prog w) A E s (srch left key arr base m (hint+1-min ofs (hint+1)) (hint-la)) Q t'
   refine srch_ok (by lia) (by lia) hby anti no (fun i hi=>?_) (fun i i1 i2=>no _ i i1 i2 g4) q
   exact anti i (hint-ofs) (by lia) (by lia) (g5 (by lia))
 ·simp only [if_true]
  refine wpS_bind (wpS_mono (wpS_forRange (fun x c t'=>t'=t/\∃ la ofs,c=(none,la,ofs)/\la<ofs/\x+1<=ofs/\hint+la<m/\by' (hint+la)=true)
   (Q:=fun c t'=>t'=t/\∃ la ofs,c=(none,la,ofs)/\la<ofs/\hint+la<m/\by' (hint+la)=true/\(hint+ofs<m->by' (hint+ofs)=false)) ?_ ?_ ⟨rfl,0,1,rfl,by lia,by lia,by lia,z⟩) ?_)
  ·rintro x c t' _ hx ⟨rfl, la, ofs, rfl, g1, g2, g3, g4⟩
   dsimp only
   split
   ·exact wpS_pure ⟨rfl,la,ofs,rfl,g1,g3,g4,fun h=>by lia⟩
   ·rename_i hd
    refine wpS_bind (hby _ (by lia) _ ?_)
    cases z2:by' (hint+ofs)
    ·exact wpS_pure ⟨rfl,la,ofs,rfl,g1,g3,g4,fun _=>z2⟩
    ·exact wpS_pure ⟨rfl,ofs,_,rfl,by lia,by lia,by lia,z2⟩
  ·rintro c t' ⟨rfl, la, ofs, rfl, g1, g2, g3, g4⟩
   exact⟨rfl,la,ofs,rfl,g1,g3,g4,fun h=>by lia⟩
  ·rintro c t' ⟨rfl, la, ofs, rfl, g1, g3, g4, g5⟩
   show wpS (model prog w) A E s (srch left key arr base m (hint+la+1) (hint+min ofs (m-hint))) Q t'
   refine srch_ok (by lia) (by lia) hby anti no (fun i hi=>anti i _ (by lia) (by lia) g4) (fun i i1 i2=>?_) q
   exact no (hint+ofs) i (by lia) i2 (g5 (by lia))
end
end
end L2.Srt
namespace L2.Srt
open PySem PyProof.Rows
structure WRule(prog:Program)(w:World)(A:Around)(s:Shared)(n:Nat)(item:Nat->Keyed)(kd:SortKind)(r:Nat->Nat->Bool):Prop where
 asy:∀ a b,a<n->b<n->r a b=true->r b a=false
 tr:∀ a b c,a<n->b<n->c<n->r b a=false->r c b=false->r c a=false
 cmp:∀ a b,a<n->b<n->a≠b->∀ (E:Value->Shared->Prop) (Q:Bool->Shared->Prop),Q (r a b) s->wpAny (model prog w) A (keyLt' kd (item a).1 (item b).1) Q E s
structure MI(le:Nat->Nat->Prop)(all O la lb:List Nat):Prop where
 perm:(O++(la++lb)).Perm all
 up:O.Pairwise le
 a:∀ o∈O,∀ x∈la,le o x
 b:∀ o∈O,∀ y∈lb,le o y
 sa:la.Pairwise le
 sb:lb.Pairwise le
variable {le:Nat->Nat->Prop} {all O la lb u:List Nat}
private theorem MI.takeA(h:MI le all O (u++la) lb)(hu:∀ x∈u,∀ y∈lb,le x y):MI le all (O++u) la lb:=by
 have s1:=List.pairwise_append.mp h.sa
 refine⟨by simpa [append_assoc] using h.perm,List.pairwise_append.mpr ⟨h.up,s1.1,fun o ho x hx=>h.a o ho x (by simp[hx])⟩,fun o ho x hx=>?_,fun o ho y hy=>?_,s1.2.1,h.sb⟩
 ·rcases List.mem_append.mp ho with ho | ho
  ·exact h.a o ho x (by simp[hx])
  ·exact s1.2.2 o ho x hx
 ·rcases List.mem_append.mp ho with ho | ho
  ·exact h.b o ho y hy
  ·exact hu o ho y hy
private theorem MI.swap(h:MI le all O la lb):MI le all O lb la:=⟨((List.perm_append_comm).append_left O).trans h.perm,h.up,h.b,h.a,h.sb,h.sa⟩
private theorem MI.takeB(h:MI le all O la (u++lb))(hu:∀ x∈u,∀ y∈la,le x y):MI le all (O++u) la lb:=(h.swap.takeA hu).swap
private theorem MI.endA(h:MI le all O la lb)(hu:∀ x∈la,∀ y∈lb,le x y):(O++la++lb).Perm all/\(O++la++lb).Pairwise le:=by
 have h1:MI le all (O++la) [] lb:=MI.takeA (by rw[append_nil];exact h) hu
 exact⟨by simpa using h1.perm,List.pairwise_append.mpr ⟨h1.up,h1.sb,h1.b⟩⟩
private theorem MI.endB(h:MI le all O la lb)(hu:∀ x∈lb,∀ y∈la,le x y):(O++lb++la).Perm all/\(O++lb++la).Pairwise le:=h.swap.endA hu
section
variable {prog:Program} {w:World} {A:Around} {E:Value->Shared->Prop} {s:Shared} {t:SortSt} {n:Nat} {item:Nat->Keyed} {kd:SortKind} {r:Nat->Nat->Bool}
private theorem lt_lab(R:WRule prog w A s n item kd r)(hk:kindOf t=kd){a b:Nat}(ha:a<n)(hb:b<n)(h:a≠b){Q:Option Bool->SortSt->Prop}(q:Q (some (r a b)) t):wpS (model prog w) A E s (lt' (item a) (item b)) Q t:=by
 rw[lt'_eq]
 refine wpS_bind (wpS_get (wpS_bind (wpS_lift (wpAny_attempt ?_))))
 rw[hk]
 exact R.cmp a b ha hb h _ _ ⟨rfl,wpS_pure q⟩
private theorem elem_lab{ks:Array Nat}{i:Nat}(h:i<ks.size){Q:Keyed->SortSt->Prop}(q:Q (item (lab ks i)) t):wpS (model prog w) A E s (elem' (ks.map item) i) Q t:=by
 rw[elem'_eq,Array.getElem?_map,lab_get h]
 exact wpS_pure q
private theorem byd(R:WRule prog w A s n item kd r)(hk:kindOf t=kd){ks:Array Nat}{left:Bool}{c base i:Nat}(hc:c<n)(hi:base+i<ks.size)(hl:lab ks (base+i)<n)(hn:c≠lab ks (base+i)){Q:Option Bool->SortSt->Prop}
  (q:Q (some (if left then r (lab ks (base+i)) c else !r c (lab ks (base+i)))) t):wpS (model prog w) A E s (beyond' left (item c) (ks.map item) base i) Q t:=by
 unfold beyond'
 refine wpS_bind (elem_lab hi ?_)
 cases left
 ·simp only [Bool.false_eq_true, if_false] at q ⊢
  exact wpS_bind (lt_lab R hk hc hl hn (wpS_pure q))
 ·simp only [if_true] at q ⊢
  exact lt_lab R hk hl hc (fun e=>hn e.symm) q
structure Same(t t':SortSt):Prop where
 arr:arrOf t'=arrOf t
 kd:kindOf t'=kindOf t
 pend:pendingOf t'=pendingOf t
 ok:failedOf t'=failedOf t
private theorem Same.rfl':Same t t:=⟨rfl,rfl,rfl,rfl⟩
private theorem Same.gal{t':SortSt}(h:Same t t')(g:Nat):Same t (setGal t' g):=⟨h.arr,h.kd,h.pend,h.ok⟩
structure Two(n:Nat)(r:Nat->Nat->Bool)(la lb:Array Nat):Prop where
 an:∀ x∈la.toList,x<n
 bn:∀ x∈lb.toList,x<n
 un:∀ x∈la.toList,∀ y∈lb.toList,x≠y
 au:la.toList.Pairwise fun x y=>r y x=false
 bu:lb.toList.Pairwise fun x y=>r y x=false
structure ML(item:Nat->Keyed)(r:Nat->Nat->Bool)(la lb:Array Nat)(out:Array Keyed)(ia ib:Nat):Prop where
 o:∃ O:Array Nat,out=O.map item/\MI (fun x y=>r y x=false) (la.toList++lb.toList) O.toList (la.toList.drop ia) (lb.toList.drop ib)
def Good(item:Nat->Keyed)(r:Nat->Nat->Bool)(la lb:Array Nat)(out:Array Keyed):Prop:=∃ M:Array Nat,out=M.map item/\M.toList.Perm (la.toList++lb.toList)/\M.toList.Pairwise fun x y=>r y x=false
private theorem mem_drop{ks:Array Nat}{k x:Nat}:x∈ks.toList.drop k↔∃ i,k<=i/\i<ks.size/\x=lab ks i:=by
 rw[List.mem_iff_getElem?]
 constructor
 ·rintro ⟨i, h⟩
  rw[getElem?_drop,Array.getElem?_toList] at h
  have hi:k+i<ks.size:=by
   rcases Nat.lt_or_ge (k+i) ks.size with g | g
   ·exact g
   ·rw[Array.getElem?_eq_none g] at h;cases h
  rw[lab_get hi] at h
  exact⟨k+i,by lia,hi,(Option.some.inj h).symm⟩
 ·rintro ⟨i, h1, h2, rfl⟩
  exact⟨i-k,by rw[getElem?_drop,Array.getElem?_toList,show k+(i-k)=i by lia,lab_get h2]⟩
private theorem mem_lab{ks:Array Nat}{i:Nat}(h:i<ks.size):lab ks i∈ks.toList:=by
 have:=mem_drop.mpr ⟨i,Nat.zero_le _,h,rfl⟩
 rwa [drop_zero] at this
private theorem pw_lab{ks:Array Nat}(h:ks.toList.Pairwise fun x y=>r y x=false){i j:Nat}(hij:i<j)(hj:j<ks.size):r (lab ks j) (lab ks i)=false:=by
 have hi':i<ks.toList.length:=by rw[Array.length_toList];lia
 have hj':j<ks.toList.length:=by rw[Array.length_toList];exact hj
 have:=List.pairwise_iff_getElem.mp h i j hi' hj' hij
 have e1:=lab_get (ls:=ks) (i:=i) (by lia)
 have e2:=lab_get (ls:=ks) hj
 rw[<- Array.getElem?_toList,getElem?_eq_getElem hi'] at e1
 rw[<- Array.getElem?_toList,getElem?_eq_getElem hj'] at e2
 rw[<- Option.some.inj e1,<- Option.some.inj e2]
 exact this
private theorem drop_split{ks:Array Nat}{i k:Nat}(h:i+k<=ks.size):ks.toList.drop i=(ks.extract i (i+k)).toList++ks.toList.drop (i+k):=by
 rw[Array.toList_extract,extract_eq_take_drop,show i+k-i=k by lia,<- drop_drop,take_append_drop]
private theorem drop_one{ks:Array Nat}{i:Nat}(h:i<ks.size):ks.toList.drop i=[lab ks i]++ks.toList.drop (i+1):=by
 have hi':i<ks.toList.length:=by rw[Array.length_toList];exact h
 have e1:=lab_get (ls:=ks) h
 rw[<- Array.getElem?_toList,getElem?_eq_getElem hi'] at e1
 rw[drop_eq_getElem_cons hi',Option.some.inj e1]
 rfl
private theorem mem_ext{ks:Array Nat}{i k x:Nat}(h:i+k<=ks.size)(hx:x∈(ks.extract i (i+k)).toList):∃ j,j<k/\x=lab ks (i+j):=by
 rw[Array.toList_extract,extract_eq_take_drop,show i+k-i=k by lia,List.mem_iff_getElem?] at hx
 obtain⟨j,hj⟩:=hx
 rw[getElem?_take] at hj
 split at hj
 ·rename_i g
  rw[getElem?_drop,Array.getElem?_toList,lab_get (by lia)] at hj
  exact⟨j,g,(Option.some.inj hj).symm⟩
 ·cases hj
section
variable {la lb:Array Nat} {out:Array Keyed} {ia ib:Nat}
private theorem Two.al(T:Two n r la lb){i:Nat}(h:i<la.size):lab la i<n:=T.an _ (mem_lab h)
private theorem Two.bl(T:Two n r la lb){i:Nat}(h:i<lb.size):lab lb i<n:=T.bn _ (mem_lab h)
private theorem Two.ne(T:Two n r la lb){i j:Nat}(h:i<la.size)(g:j<lb.size):lab la i≠lab lb j:=T.un _ (mem_lab h) _ (mem_lab g)
private theorem Two.symm(T:Two n r la lb):Two n r lb la:=⟨T.bn,T.an,fun x hx y hy e=>T.un y hy x hx e.symm,T.bu,T.au⟩
private theorem Two.hd(R:WRule prog w A s n item kd r)(T:Two n r la lb){c:Nat}(hc:c<n)(h:ia<la.size)(g:r (lab la ia) c=false):∀ x∈la.toList.drop ia,r x c=false:=fun x hx=>by
 obtain⟨i,h1,h2,rfl⟩:=mem_drop.mp hx
 by_cases e:i=ia
 ·rw[e];exact g
 ·exact R.tr _ _ _ hc (T.al h) (T.al h2) g (pw_lab T.au (by lia) h2)
private theorem ML.pushA(M:ML item r la lb out ia ib)(h:ia<la.size)(g:∀ y∈lb.toList.drop ib,r y (lab la ia)=false):ML item r la lb (out.push (item (lab la ia))) (ia+1) ib:=by
 obtain⟨O,rfl,m⟩:=M.o
 rw[drop_one h] at m
 refine⟨O.push (lab la ia),by rw[Array.map_push],?_⟩
 rw[Array.toList_push]
 exact m.takeA fun x hx y hy=>by rw[List.mem_singleton.mp hx];exact g y hy
private theorem ML.pushB(M:ML item r la lb out ia ib)(h:ib<lb.size)(g:∀ y∈la.toList.drop ia,r y (lab lb ib)=false):ML item r la lb (out.push (item (lab lb ib))) ia (ib+1):=by
 obtain⟨O,rfl,m⟩:=M.o
 rw[drop_one h] at m
 refine⟨O.push (lab lb ib),by rw[Array.map_push],?_⟩
 rw[Array.toList_push]
 exact m.takeB fun x hx y hy=>by rw[List.mem_singleton.mp hx];exact g y hy
private theorem ML.addA(M:ML item r la lb out ia ib){k:Nat}(h:ia+k<=la.size)(g:∀ j,j<k->∀ y∈lb.toList.drop ib,r y (lab la (ia+j))=false):ML item r la lb (out++(la.map item).extract ia (ia+k)) (ia+k) ib:=by
 obtain⟨O,rfl,m⟩:=M.o
 rw[drop_split h] at m
 refine⟨O++la.extract ia (ia+k),by rw[Array.map_append,Array.map_extract],?_⟩
 rw[Array.toList_append]
 exact m.takeA fun x hx y hy=>by obtain⟨j,hj,rfl⟩:=mem_ext h hx;exact g j hj y hy
private theorem ML.addB(M:ML item r la lb out ia ib){k:Nat}(h:ib+k<=lb.size)(g:∀ j,j<k->∀ y∈la.toList.drop ia,r y (lab lb (ib+j))=false):ML item r la lb (out++(lb.map item).extract ib (ib+k)) ia (ib+k):=by
 obtain⟨O,rfl,m⟩:=M.o
 rw[drop_split h] at m
 refine⟨O++lb.extract ib (ib+k),by rw[Array.map_append,Array.map_extract],?_⟩
 rw[Array.toList_append]
 exact m.takeB fun x hx y hy=>by obtain⟨j,hj,rfl⟩:=mem_ext h hx;exact g j hj y hy
private theorem ext_all{ks:Array Nat}{i:Nat}:(ks.extract i ks.size).toList=ks.toList.drop i:=by
 rw[Array.toList_extract,extract_eq_take_drop]
 exact take_of_length_le (by rw[length_drop,Array.length_toList];exact Nat.le_refl _)
private theorem ML.done(M:ML item r la lb out ia ib)(g:∀ x∈la.toList.drop ia,∀ y∈lb.toList.drop ib,r y x=false):Good item r la lb (out++(la.map item).extract ia la.size++(lb.map item).extract ib lb.size):=by
 obtain⟨O,rfl,m⟩:=M.o
 obtain⟨p1,p2⟩:=m.endA g
 refine⟨O++la.extract ia la.size++lb.extract ib lb.size,by rw[Array.map_append,Array.map_append,Array.map_extract,Array.map_extract],?_,?_⟩
 ·rw[Array.toList_append,Array.toList_append,ext_all,ext_all];exact p1
 ·rw[Array.toList_append,Array.toList_append,ext_all,ext_all];exact p2
private theorem ML.last(M:ML item r la lb out ia ib)(g:∀ x∈lb.toList.drop ib,∀ y∈la.toList.drop ia,r y x=false):Good item r la lb (out++(lb.map item).extract ib lb.size++(la.map item).extract ia la.size):=by
 obtain⟨O,rfl,m⟩:=M.o
 obtain⟨p1,p2⟩:=m.endB g
 refine⟨O++lb.extract ib lb.size++la.extract ia la.size,by rw[Array.map_append,Array.map_append,Array.map_extract,Array.map_extract],?_,?_⟩
 ·rw[Array.toList_append,Array.toList_append,ext_all,ext_all];exact p1
 ·rw[Array.toList_append,Array.toList_append,ext_all,ext_all];exact p2
private theorem ML.doneB(M:ML item r la lb out ia ib)(h:lb.size<=ib):Good item r la lb (out++(la.map item).extract ia la.size++(lb.map item).extract ib lb.size) :=
 M.done fun x _ y hy=>by obtain⟨i,h1,h2,_⟩:=mem_drop.mp hy;lia
private theorem ML.doneA(M:ML item r la lb out ia ib)(h:la.size<=ia):Good item r la lb (out++(la.map item).extract ia la.size++(lb.map item).extract ib lb.size) :=
 M.done fun x hx y _=>by obtain⟨i,h1,h2,_⟩:=mem_drop.mp hx;lia
private theorem ML.lastA(R:WRule prog w A s n item kd r)(T:Two n r la lb)(h2:∀ y∈lb.toList,r y (lab la (la.size-1))=true)(M:ML item r la lb out ia ib)(h:ia+1=la.size):Good item r la lb (out++(lb.map item).extract ib lb.size++(la.map item).extract ia la.size) :=
 M.last fun x hx y hy=>by
  obtain⟨i,i1,i2,rfl⟩:=mem_drop.mp hx
  obtain⟨j,j1,j2,rfl⟩:=mem_drop.mp hy
  obtain rfl:j=la.size-1:=by lia
  exact R.asy _ _ (T.bl i2) (T.al j2) (h2 _ (mem_lab i2))
end
end
end L2.Srt
set_option maxHeartbeats 1000000
namespace L2.Srt
open PySem PyProof.Rows
section
variable {prog:Program} {w:World} {A:Around} {E:Value->Shared->Prop} {s:Shared} {t:SortSt} {n:Nat} {item:Nat->Keyed} {kd:SortKind} {r:Nat->Nat->Bool}
private theorem wpS_ite{α:Type}{c:Prop}[Decidable c]{m1 m2:StateT SortSt Sem α}{Q:α->SortSt->Prop}(h1:c->wpS (model prog w) A E s m1 Q t)(h2:¬c->wpS (model prog w) A E s m2 Q t):wpS (model prog w) A E s (if c then m1 else m2) Q t:=by
 by_cases h:c
 ·rw[if_pos h];exact h1 h
 ·rw[if_neg h];exact h2 h
private theorem mlo(R : WRule prog w A s n item kd r)(hk : kindOf t = kd){la lb : Array Nat}(T : Two n r la lb)(ha : 1 <= la.size)(hb : 1 <= lb.size)(h1 : r (lab lb 0) (lab la 0) = true)(h2 : ∀ y ∈ lb.toList, r y (lab la (la.size - 1)) = true)
  {Q:Array Keyed->SortSt->Prop} (q:∀ out t',Same t t'->Good item r la lb out->Q out t'):wpS (model prog w) A E s (mergeLo' (la.map item) (lb.map item)) Q t:=by
 rw[mergeLo'_eq]
 refine wpS_bind (wpS_lift (wpAny_rule ⟨rfl,?_⟩))
 refine wpS_bind (elem_lab (by lia) ?_)
 simp only[Array.size_map]
 have M0:ML item r la lb #[] 0 0:=⟨#[],by simp,by
  simp only[drop_zero]
  exact⟨List.Perm.refl _,.nil,by simp,by simp,T.au,T.bu⟩⟩
 have hdA:∀ (i j:Nat),i<la.size->j<lb.size->r (lab lb j) (lab la i)=false->∀ y∈lb.toList.drop j,r y (lab la i)=false:=fun i j hi hj g=>T.symm.hd R (T.al hi) hj g
 have hdB:∀ (i j:Nat),i<la.size->j<lb.size->r (lab lb j) (lab la i)=true->∀ y∈la.toList.drop i,r y (lab lb j)=false:=fun i j hi hj g=>T.hd R (T.bl hj) hi (R.asy _ _ (T.bl hj) (T.al hi) g)
 have M1:=M0.pushB hb (hdB 0 0 ha hb h1)
 change ML item r la lb #[item (lab lb 0)] 0 1 at M1
 generalize #[item (lab lb 0)]=out0 at M1 ⊢
 by_cases e0:(1 == lb.size)=true
 ·rw [if_pos e0]
  exact wpS_pure (q _ _ .rfl' (M1.doneB (by simp at e0;lia)))
 rw[if_neg e0]
 by_cases e1:(0+1 == la.size)=true
 ·rw [if_pos e1]
  exact wpS_pure (q _ _ .rfl' (M1.lastA R T h2 (by simpa using e1)))
 rw[if_neg e1]
 have e0':1<lb.size:=by simp at e0;lia
 have e1':0+1<la.size:=by simp at e1;lia
 clear e0 e1 M0
 refine wpS_bind (wpS_get ?_)
 refine wpS_bind (wpS_mono (wpS_forRange (fun x c t'=>Same t t'/\∃ out ia ib mg,c=(none,out,ia,ib,mg)/\ML item r la lb out ia ib/\ia+1<la.size/\ib<lb.size/\la.size-ia+(lb.size-ib)+x<=la.size+lb.size)
  (Q:=fun c t'=>Same t t'/\∃ (out:Array Keyed) (c2:Array Keyed × Nat × Nat × Nat),c=(some out,c2)/\Good item r la lb out) ?_ ?_ ⟨.rfl',out0,0,1,gallopOf t,rfl,M1,e1',e0',by lia⟩) ?_)
 ·rintro x c t' _ hx ⟨S, out, ia, ib, mg, rfl, M, i1, i2, i3⟩
  dsimp only
  refine wpS_bind (wpS_mono (wpS_forRange (fun y c t''=>t''=t'/\∃ out ja jb ac bc,c=(none,out,ja,jb,ac,bc)/\ML item r la lb out ja jb/\ja+1<la.size/\jb<lb.size/\la.size-ja+(lb.size-jb)+y<=la.size-ia+(lb.size-ib))
   (Q:=fun c t''=>t''=t'/\((∃ (out:Array Keyed) (c2:Array Keyed × Nat × Nat × Nat × Nat),c=(some out,c2)/\Good item r la lb out)\/∃ out ja jb ac bc,c=(none,out,ja,jb,ac,bc)/\ML item r la lb out ja jb/\ja+1<la.size/\jb<lb.size/\la.size-ja+(lb.size-jb)+1<=la.size-ia+(lb.size-ib))) ?_ ?_ ⟨rfl,out,ia,ib,0,0,rfl,M,i1,i2,by lia⟩) ?_)
  ·rintro y c t'' _ hy ⟨rfl, out, ja, jb, ac, bc, rfl, M, j1, j2, j3⟩
   dsimp only
   refine wpS_bind (elem_lab j2 (wpS_bind (elem_lab (by lia) (wpS_bind (lt_lab R (S.kd.trans hk) (T.bl j2) (T.al (by lia)) (fun e=>T.ne (by lia) j2 e.symm) ?_)))))
   cases z:r (lab lb jb) (lab la ja)
   ·simp only [Bool.false_eq_true, if_false]
    have M2:=M.pushA (by lia) (hdA ja jb (by lia) j2 z)
    refine wpS_bind (elem_lab (by lia) ?_)
    split
    ·rename_i e
     exact wpS_pure ⟨rfl,.inl ⟨_,_,rfl,M2.lastA R T h2 (by simpa using e)⟩⟩
    ·rename_i e
     have e':ja+1+1<la.size:=by simp at e;lia
     split
     ·exact wpS_pure ⟨rfl,.inr ⟨_,_,_,_,_,rfl,M2,e',j2,by lia⟩⟩
     ·exact wpS_pure ⟨rfl,_,_,_,_,_,rfl,M2,e',j2,by lia⟩
   ·simp only [if_true]
    have M2:=M.pushB j2 (hdB ja jb (by lia) j2 z)
    refine wpS_bind (elem_lab (by lia) ?_)
    split
    ·rename_i e
     exact wpS_pure ⟨rfl,.inl ⟨_,_,rfl,M2.doneB (by simp at e;lia)⟩⟩
    ·rename_i e
     have e':jb+1<lb.size:=by simp at e;lia
     split
     ·exact wpS_pure ⟨rfl,.inr ⟨_,_,_,_,_,rfl,M2,j1,e',by lia⟩⟩
     ·exact wpS_pure ⟨rfl,_,_,_,_,_,rfl,M2,j1,e',by lia⟩
  ·rintro c t'' ⟨rfl, out, ja, jb, ac, bc, rfl, M, j1, j2, j3⟩
   exfalso;lia
  ·rintro c t'' ⟨rfl, ⟨o2, c2, rfl, G⟩ | ⟨out, ja, jb, ac, bc, rfl, M, j1, j2, j3⟩⟩
   ·exact wpS_pure ⟨S,o2,_,rfl,G⟩
   ·dsimp only
    refine wpS_bind (wpS_lift (wpAny_rule ⟨rfl,?_⟩))
    refine wpS_bind (wpS_mono (wpS_forRange (fun y c t3=>Same t t3/\∃ out ka kb mg ac bc,c=(none,out,ka,kb,mg,ac,bc)/\ML item r la lb out ka kb/\ka+1<la.size/\kb<lb.size/\la.size-ka+(lb.size-kb)+y<=la.size-ja+(lb.size-jb))
     (Q:=fun c t3=>Same t t3/\((∃ (out:Array Keyed) (c2:Array Keyed × Nat × Nat × Nat × Nat × Nat),c=(some out,c2)/\Good item r la lb out)\/∃ out ka kb mg ac bc,c=(none,out,ka,kb,mg,ac,bc)/\ML item r la lb out ka kb/\ka+1<la.size/\kb<lb.size/\la.size-ka+(lb.size-kb)<=la.size-ja+(lb.size-jb))) ?_ ?_ ⟨S,out,ja,jb,mg+1,ac,bc,rfl,M,j1,j2,by lia⟩) ?_)
    ·rintro y c t3 _ hy ⟨S3, out, ka, kb, mg, ac, bc, rfl, M, k1, k2, k3⟩
     dsimp only
     by_cases e:mg > 1
     case' pos =>
      rw[if_pos e]
      refine wpS_bind ?_
      rw[setMinGallop'_eq]
      refine wpS_modify ?_
      have S4:=S3.gal (mg-1)
      generalize setGal t3 (mg-1)=t4 at S4 ⊢
     case' neg =>
      rw[if_neg e]
      refine wpS_bind ?_
      rw[setMinGallop'_eq]
      refine wpS_modify ?_
      have S4:=S3.gal mg
      generalize setGal t3 mg=t4 at S4 ⊢
     all_goals
      refine wpS_bind (elem_lab k2 ?_)
      refine wpS_bind (gal (m:=la.size-ka) (by':=fun i=>!r (lab lb kb) (lab la (ka+i))) (by lia) (fun i hi Q qq=>byd R (S4.kd.trans hk) (T.bl k2) (by lia) (T.al (by lia)) (fun e=>T.ne (by lia) k2 e.symm) (by simpa using qq)) ?_ fun k hkm g1 g2=>?_)
      ·intro i j hij hj hb
       by_cases e:i=j
       ·rw[e];exact hb
       ·have hb' : r (lab lb kb) (lab la (ka + j)) = false := by simpa using hb
        have:=R.tr _ _ _ (T.al (i:=ka+i) (by lia)) (T.al (i:=ka+j) (by lia)) (T.bl k2) (pw_lab T.au (by lia) (by lia)) hb'
        simp[this]
      ·dsimp only
       refine wpS_ite (fun e1=>?_) (fun e1=>?_)
       case' refine_1 =>
        have N:=M.addA (k:=k) (by lia) (fun j hj=>hdA (ka+j) kb (by lia) k2 (by simpa using g1 j hj))
        have g3:ka+k<la.size->r (lab lb kb) (lab la (ka+k))=true:=fun h=>by simpa using g2 k (Nat.le_refl _) (by lia)
        have p0:ka+k<=la.size:=by lia
        have p3:la.size-(ka+k)+(lb.size-kb)+y<=la.size-ja+(lb.size-jb):=by lia
        generalize out++(Array.map item la).extract ka (ka+k)=out2 at N ⊢
        generalize ka+k=pa at *
        refine wpS_ite (fun e2=>wpS_pure ⟨S4,.inl ⟨_,_,rfl,N.lastA R T h2 (by simpa using e2)⟩⟩) (fun e2=>?_)
        refine wpS_ite (fun e3=>wpS_pure ⟨S4,.inl ⟨_,_,rfl,N.doneA (by simp at e3;lia)⟩⟩) (fun e3=>?_)
        have p1:pa+1<la.size:=by simp at e2 e3;lia
        have p2:=g3 (by lia)
       case' refine_2 =>
        have N:=M
        have p1:=k1
        have p2:r (lab lb kb) (lab la ka)=true:=by simpa using g2 0 (by lia) (by lia)
        have p3:=k3
        clear g1 g2
        generalize ka=pa at *
       all_goals
        have N1:=N.pushB k2 (hdB pa kb (by lia) k2 p2)
        refine wpS_bind (elem_lab k2 ?_)
        refine wpS_ite (fun e4=>wpS_pure ⟨S4,.inl ⟨_,_,rfl,N1.doneB (by simp at e4;lia)⟩⟩) (fun e4=>?_)
        have p4:kb+1<lb.size:=by simp at e4;lia
        refine wpS_bind (elem_lab (by lia) ?_)
        refine wpS_bind (gal (m:=lb.size-(kb+1)) (by':=fun i=>r (lab lb (kb+1+i)) (lab la pa)) (by lia) (fun i hi Q qq=>byd R (S4.kd.trans hk) (T.al (by lia)) (by lia) (T.bl (by lia)) (T.ne (by lia) (by lia)) (by simpa using qq)) ?_ fun kk hkk g5 g6=>?_)
        ·intro i j hij hj hb
         by_cases e:i=j
         ·rw[e];exact hb
         ·cases z : r (lab lb (kb + 1 + i)) (lab la pa) with
          | true=>rfl
          | false =>
           have:=R.tr _ _ _ (T.al (i:=pa) (by lia)) (T.bl (i:=kb+1+i) (by lia)) (T.bl (i:=kb+1+j) (by lia)) z (pw_lab T.bu (by lia) (by lia))
           rw[this] at hb
           cases hb
        ·dsimp only
         refine wpS_ite (fun e5=>?_) (fun e5=>?_)
         case' refine_1 =>
          have N2:=N1.addB (k:=kk) (by lia) (fun j hj=>hdB pa (kb+1+j) (by lia) (by lia) (g5 j hj))
          refine wpS_ite (fun e6=>wpS_pure ⟨S4,.inl ⟨_,_,rfl,N2.doneB (by simp at e6;lia)⟩⟩) (fun e6=>?_)
          have p5:kb+1+kk<lb.size:=by simp at e6;lia
          have p6:=g6 kk (Nat.le_refl _) (by lia)
          have p7:kb+1<=kb+1+kk:=by lia
          generalize kb+1+kk=qb at *
         case' refine_2 =>
          have N2:=N1
          have p5:=p4
          have p6:=g6 0 (by lia) (by lia)
          have p7:kb+1<=kb+1+0:=by lia
          rw[Nat.add_zero] at p6 p7
          clear g5 g6
          generalize eqb:kb+1=qb at *
         all_goals
          have N3:=N2.pushA (by lia) (hdA pa qb (by lia) p5 p6)
          refine wpS_bind (elem_lab (by lia) ?_)
          refine wpS_ite (fun e7=>wpS_pure ⟨S4,.inl ⟨_,_,rfl,N3.lastA R T h2 (by simpa using e7)⟩⟩) (fun e7=>?_)
          have p8:pa+1+1<la.size:=by simp at e7;lia
          exact wpS_ite (fun _=>wpS_pure ⟨S4,.inr ⟨_,_,_,_,_,_,rfl,N3,p8,p5,by lia⟩⟩) (fun _=>wpS_pure ⟨S4,_,_,_,_,_,_,rfl,N3,p8,p5,by lia⟩)
    ·rintro c t3 ⟨S3, out, ka, kb, mg, ac, bc, rfl, M, k1, k2, k3⟩
     exfalso;lia
    ·rintro c t3 ⟨S3, ⟨o2, c2, rfl, G⟩ | ⟨out, ka, kb, mg, ac, bc, rfl, M, k1, k2, k3⟩⟩
     ·exact wpS_pure ⟨S3,o2,_,rfl,G⟩
     ·dsimp only
      refine wpS_bind ?_
      rw[setMinGallop'_eq]
      exact wpS_modify (wpS_pure ⟨S3.gal _,out,ka,kb,_,rfl,M,k1,k2,by lia⟩)
 ·rintro c t' ⟨S, out, ia, ib, mg, rfl, M, i1, i2, i3⟩
  exfalso;lia
 ·rintro c t' ⟨S, o2, c2, rfl, G⟩
  exact wpS_pure (q _ _ S G)
end
end L2.Srt
namespace L2.Srt
open PySem PyProof.Rows
section
variable {prog:Program} {w:World} {A:Around} {E:Value->Shared->Prop} {s:Shared} {t:SortSt} {n:Nat} {item:Nat->Keyed} {kd:SortKind} {r:Nat->Nat->Bool}
structure MH(item:Nat->Keyed)(r:Nat->Nat->Bool)(la lb:Array Nat)(out:Array Keyed)(na nb:Nat):Prop where
 o:∃ O:Array Nat,out=O.map item/\MI (fun x y=>r x y=false) (la.toList++lb.toList) O.toList (la.toList.take na).reverse (lb.toList.take nb).reverse
private theorem mem_take{ks:Array Nat}{k x:Nat}(hk:k<=ks.size):x∈ks.toList.take k↔∃ i,i<k/\x=lab ks i:=by
 rw[List.mem_iff_getElem?]
 constructor
 ·rintro ⟨i, h⟩
  rw[getElem?_take] at h
  split at h
  ·rename_i g
   rw[Array.getElem?_toList,lab_get (by lia)] at h
   exact⟨i,g,(Option.some.inj h).symm⟩
  ·cases h
 ·rintro ⟨i, h1, rfl⟩
  exact⟨i,by rw[getElem?_take,if_pos h1,Array.getElem?_toList,lab_get (by lia)]⟩
private theorem take_one{ks:Array Nat}{k:Nat}(h1:1<=k)(hk:k<=ks.size):(ks.toList.take k).reverse=[lab ks (k-1)]++(ks.toList.take (k-1)).reverse:=by
 obtain⟨m,rfl⟩:∃ m,k=m+1:=⟨k-1,by lia⟩
 rw[Nat.add_sub_cancel,take_add_one,Array.getElem?_toList,lab_get (by lia),reverse_append]
 rfl
private theorem take_cut{ks:Array Nat}{j k:Nat}(h:j<=k):(ks.toList.take k).reverse=(ks.extract j k).reverse.toList++(ks.toList.take j).reverse:=by
 rw[Array.toList_reverse,Array.toList_extract,extract_eq_take_drop,<- reverse_append]
 have e:(ks.toList.take k).take j=ks.toList.take j:=by rw[List.take_take,Nat.min_eq_left h]
 rw[<- List.drop_take,<- e,take_append_drop]
private theorem mem_cut{ks:Array Nat}{j k x:Nat}(hk:k<=ks.size)(hx:x∈(ks.extract j k).reverse.toList):∃ i,j<=i/\i<k/\x=lab ks i:=by
 rw[Array.toList_reverse,List.mem_reverse,Array.toList_extract,extract_eq_take_drop,<- List.drop_take,List.mem_iff_getElem?] at hx
 obtain⟨i,hi⟩:=hx
 rw[getElem?_drop,getElem?_take] at hi
 split at hi
 ·rename_i g
  rw[Array.getElem?_toList,lab_get (by lia)] at hi
  exact⟨j+i,by lia,g,(Option.some.inj hi).symm⟩
 ·cases hi
section
variable {la lb:Array Nat} {out:Array Keyed} {na nb:Nat}
private theorem Two.hh(R:WRule prog w A s n item kd r)(T:Two n r la lb){c m:Nat}(hc:c<n)(h:m<la.size)(g:r c (lab la m)=false):∀ i,i<=m->r c (lab la i)=false:=fun i hi=>by
 by_cases e:i=m
 ·rw[e];exact g
 ·exact R.tr _ _ _ (T.al (by lia)) (T.al h) hc (pw_lab T.au (by lia) h) g
private theorem MH.pushA(M:MH item r la lb out na nb)(h:1<=na)(ha:na<=la.size)(hb:nb<=lb.size)(g:∀ j,j<nb->r (lab la (na-1)) (lab lb j)=false):MH item r la lb (out.push (item (lab la (na-1)))) (na-1) nb:=by
 obtain⟨O,rfl,m⟩:=M.o
 rw[take_one h ha] at m
 refine⟨O.push (lab la (na-1)),by rw[Array.map_push],?_⟩
 rw[Array.toList_push]
 exact m.takeA fun x hx y hy=>by
  obtain⟨j,hj,rfl⟩:=(mem_take hb).mp (List.mem_reverse.mp hy)
  rw[List.mem_singleton.mp hx];exact g j hj
private theorem MH.pushB(M:MH item r la lb out na nb)(h:1<=nb)(ha:na<=la.size)(hb:nb<=lb.size)(g:∀ j,j<na->r (lab lb (nb-1)) (lab la j)=false):MH item r la lb (out.push (item (lab lb (nb-1)))) na (nb-1):=by
 obtain⟨O,rfl,m⟩:=M.o
 rw[take_one h hb] at m
 refine⟨O.push (lab lb (nb-1)),by rw[Array.map_push],?_⟩
 rw[Array.toList_push]
 exact m.takeB fun x hx y hy=>by
  obtain⟨j,hj,rfl⟩:=(mem_take ha).mp (List.mem_reverse.mp hy)
  rw[List.mem_singleton.mp hx];exact g j hj
private theorem MH.addA(M:MH item r la lb out na nb){k:Nat}(h:k<=na)(ha:na<=la.size)(hb:nb<=lb.size)(g:∀ i,k<=i->i<na->∀ j,j<nb->r (lab la i) (lab lb j)=false):MH item r la lb (out++((la.map item).extract k na).reverse) k nb:=by
 obtain⟨O,rfl,m⟩:=M.o
 rw[take_cut h] at m
 refine⟨O++(la.extract k na).reverse,by rw[Array.map_append,Array.map_reverse,Array.map_extract],?_⟩
 rw[Array.toList_append]
 exact m.takeA fun x hx y hy=>by
  obtain⟨j,hj,rfl⟩:=(mem_take hb).mp (List.mem_reverse.mp hy)
  obtain⟨i,i1,i2,rfl⟩:=mem_cut ha hx
  exact g i i1 i2 j hj
private theorem MH.addB(M:MH item r la lb out na nb){k:Nat}(h:k<=nb)(ha:na<=la.size)(hb:nb<=lb.size)(g:∀ i,k<=i->i<nb->∀ j,j<na->r (lab lb i) (lab la j)=false):MH item r la lb (out++((lb.map item).extract k nb).reverse) na k:=by
 obtain⟨O,rfl,m⟩:=M.o
 rw[take_cut h] at m
 refine⟨O++(lb.extract k nb).reverse,by rw[Array.map_append,Array.map_reverse,Array.map_extract],?_⟩
 rw[Array.toList_append]
 exact m.takeB fun x hx y hy=>by
  obtain⟨j,hj,rfl⟩:=(mem_take ha).mp (List.mem_reverse.mp hy)
  obtain⟨i,i1,i2,rfl⟩:=mem_cut hb hx
  exact g i i1 i2 j hj
private theorem ext_fst{ks:Array Nat}{i:Nat}:(ks.extract 0 i).toList=ks.toList.take i:=by
 rw[Array.toList_extract,extract_eq_take_drop,drop_zero,Nat.sub_zero]
private theorem MH.done(M:MH item r la lb out na nb)(ha:na<=la.size)(hb:nb<=lb.size)(g:∀ i,i<nb->∀ j,j<na->r (lab lb i) (lab la j)=false):Good item r la lb ((la.map item).extract 0 na++(lb.map item).extract 0 nb++out.reverse):=by
 obtain⟨O,rfl,m⟩:=M.o
 obtain⟨p1,p2⟩:=m.endB fun x hx y hy=>by
  obtain⟨i,hi,rfl⟩:=(mem_take hb).mp (List.mem_reverse.mp hx)
  obtain⟨j,hj,rfl⟩:=(mem_take ha).mp (List.mem_reverse.mp hy)
  exact g i hi j hj
 have e:(la.extract 0 na++lb.extract 0 nb++O.reverse).toList=(O.toList++(lb.toList.take nb).reverse++(la.toList.take na).reverse).reverse:=by
  rw[Array.toList_append,Array.toList_append,ext_fst,ext_fst,Array.toList_reverse,reverse_append,reverse_append,reverse_reverse,reverse_reverse,append_assoc]
 refine⟨la.extract 0 na++lb.extract 0 nb++O.reverse,by rw[Array.map_append,Array.map_append,Array.map_extract,Array.map_extract,Array.map_reverse],?_,?_⟩
 ·rw[e];exact(reverse_perm _).trans p1
 ·rw[e,List.pairwise_reverse];exact p2
private theorem MH.first(M:MH item r la lb out na nb)(ha:na<=la.size)(hb:nb<=lb.size)(g:∀ j,j<na->∀ i,i<nb->r (lab la j) (lab lb i)=false):Good item r la lb ((lb.map item).extract 0 nb++(la.map item).extract 0 na++out.reverse):=by
 obtain⟨O,rfl,m⟩:=M.o
 obtain⟨p1,p2⟩:=m.endA fun x hx y hy=>by
  obtain⟨i,hi,rfl⟩:=(mem_take ha).mp (List.mem_reverse.mp hx)
  obtain⟨j,hj,rfl⟩:=(mem_take hb).mp (List.mem_reverse.mp hy)
  exact g i hi j hj
 have e:(lb.extract 0 nb++la.extract 0 na++O.reverse).toList=(O.toList++(la.toList.take na).reverse++(lb.toList.take nb).reverse).reverse:=by
  rw[Array.toList_append,Array.toList_append,ext_fst,ext_fst,Array.toList_reverse,reverse_append,reverse_append,reverse_reverse,reverse_reverse,append_assoc]
 refine⟨lb.extract 0 nb++la.extract 0 na++O.reverse,by rw[Array.map_append,Array.map_append,Array.map_extract,Array.map_extract,Array.map_reverse],?_,?_⟩
 ·rw[e];exact(reverse_perm _).trans p1
 ·rw[e,List.pairwise_reverse];exact p2
end
private theorem mhi(R : WRule prog w A s n item kd r)(hk : kindOf t = kd){la lb : Array Nat}(T : Two n r la lb)(ha : 1 <= la.size)(hb : 1 <= lb.size)(h1 : r (lab lb 0) (lab la 0) = true)(h2 : ∀ y ∈ lb.toList, r y (lab la (la.size - 1)) = true)
  {Q:Array Keyed->SortSt->Prop} (q:∀ out t',Same t t'->Good item r la lb out->Q out t'):wpS (model prog w) A E s (mergeHi' (la.map item) (lb.map item)) Q t:=by
 rw[mergeHi'_eq]
 refine wpS_bind (wpS_lift (wpAny_rule ⟨rfl,?_⟩))
 simp only[Array.size_map]
 refine wpS_bind (elem_lab (by lia) ?_)
 have M0:MH item r la lb #[] la.size lb.size:=⟨#[],by simp,by
  have e1:la.toList.take la.size=la.toList:=take_of_length_le (by rw[Array.length_toList];exact Nat.le_refl _)
  have e2:lb.toList.take lb.size=lb.toList:=take_of_length_le (by rw[Array.length_toList];exact Nat.le_refl _)
  rw[e1,e2]
  exact⟨by simpa using (reverse_perm _).append (reverse_perm _),.nil,by simp,by simp,List.pairwise_reverse.mpr T.au,List.pairwise_reverse.mpr T.bu⟩⟩
 have M1:=M0.pushA ha (Nat.le_refl _) (Nat.le_refl _) fun j hj=>R.asy _ _ (T.bl hj) (T.al (by lia)) (h2 _ (mem_lab hj))
 change MH item r la lb #[item (lab la (la.size-1))] (la.size-1) lb.size at M1
 generalize #[item (lab la (la.size-1))]=out0 at M1 ⊢
 have nl:la.size-1<=la.size:=Nat.sub_le ..
 have fst:∀ (out:Array Keyed) (na nb:Nat),MH item r la lb out na nb->na<=la.size->nb=1->Good item r la lb ((lb.map item).extract 0 nb++(la.map item).extract 0 na++out.reverse):=fun out na nb M g1 g2=>M.first g1 (by lia) fun j hj i hi=>by
  obtain rfl:i=0:=by lia
  have z:r (lab la 0) (lab lb 0)=false:=R.asy _ _ (T.bl (by lia)) (T.al (by lia)) h1
  by_cases e:j=0
  ·rw[e];exact z
  ·exact R.tr _ _ _ (T.bl (by lia)) (T.al (i:=0) (by lia)) (T.al (by lia)) z (pw_lab T.au (by lia) (by lia))
 have don:∀ (out:Array Keyed) (na nb:Nat),MH item r la lb out na nb->na<=la.size->nb<=lb.size->na=0\/nb=0->Good item r la lb ((la.map item).extract 0 na++(lb.map item).extract 0 nb++out.reverse):=fun out na nb M g1 g2 g3=>M.done g1 g2 fun i hi j hj=>by lia
 have hA:∀ i j,i<la.size->j<lb.size->r (lab lb j) (lab la i)=true->∀ m,m<j+1->r (lab la i) (lab lb m)=false:=fun i j hi hj g m hm=>T.symm.hh R (T.al hi) hj (R.asy _ _ (T.bl hj) (T.al hi) g) m (by lia)
 have hB:∀ i j,i<la.size->j<lb.size->r (lab lb j) (lab la i)=false->∀ m,m<i+1->r (lab lb j) (lab la m)=false:=fun i j hi hj g m hm=>T.hh R (T.bl hj) hi g m (by lia)
 by_cases e0:(la.size-1 == 0)=true
 ·rw [if_pos e0]
  exact wpS_pure (q _ _ .rfl' (don _ _ _ M1 nl (Nat.le_refl _) (.inl (by simpa using e0))))
 rw[if_neg e0]
 by_cases e1:(lb.size == 1)=true
 ·rw [if_pos e1]
  exact wpS_pure (q _ _ .rfl' (fst _ _ _ M1 nl (by simpa using e1)))
 rw[if_neg e1]
 have e0':1<=la.size-1:=by simp at e0;lia
 have e1':2<=lb.size:=by simp at e1;lia
 clear e0 e1 M0
 refine wpS_bind (wpS_get ?_)
 refine wpS_bind (wpS_mono (wpS_forRange (fun x c t'=>Same t t'/\∃ na nb out mg,c=(none,na,nb,out,mg)/\MH item r la lb out na nb/\1<=na/\na<=la.size/\2<=nb/\nb<=lb.size/\na+nb+x<=la.size+lb.size)
  (Q:=fun c t'=>Same t t'/\∃ (out:Array Keyed) (c2:Nat × Nat × Array Keyed × Nat),c=(some out,c2)/\Good item r la lb out) ?_ ?_ ⟨.rfl',_,_,out0,gallopOf t,rfl,M1,e0',nl,e1',Nat.le_refl _,by lia⟩) ?_)
 ·rintro x c t' _ hx ⟨S, na, nb, out, mg, rfl, M, i1, i2, i3, i4, i5⟩
  dsimp only
  refine wpS_bind (wpS_mono (wpS_forRange (fun y c t''=>t''=t'/\∃ ma mb out ac bc,c=(none,ma,mb,out,ac,bc)/\MH item r la lb out ma mb/\1<=ma/\ma<=la.size/\2<=mb/\mb<=lb.size/\ma+mb+y<=na+nb)
   (Q:=fun c t''=>t''=t'/\((∃ (out:Array Keyed) (c2:Nat × Nat × Array Keyed × Nat × Nat),c=(some out,c2)/\Good item r la lb out)\/∃ ma mb out ac bc,c=(none,ma,mb,out,ac,bc)/\MH item r la lb out ma mb/\1<=ma/\ma<=la.size/\2<=mb/\mb<=lb.size/\ma+mb+1<=na+nb)) ?_ ?_ ⟨rfl,na,nb,out,0,0,rfl,M,i1,i2,i3,i4,by lia⟩) ?_)
  ·rintro y c t'' _ hy ⟨rfl, ma, mb, out, ac, bc, rfl, M, j1, j2, j3, j4, j5⟩
   dsimp only
   refine wpS_bind (elem_lab (by lia) (wpS_bind (elem_lab (by lia) (wpS_bind (lt_lab R (S.kd.trans hk) (T.bl (by lia)) (T.al (by lia)) (fun e=>T.ne (by lia) (by lia) e.symm) ?_)))))
   cases z:r (lab lb (mb-1)) (lab la (ma-1))
   ·simp only [Bool.false_eq_true, if_false]
    have M2:=M.pushB (by lia) j2 j4 fun m hm=>hB _ _ (by lia) (by lia) z m (by lia)
    refine wpS_bind (elem_lab (by lia) ?_)
    refine wpS_ite (fun e=>wpS_pure ⟨rfl,.inl ⟨_,_,rfl,fst _ _ _ M2 j2 (by simpa using e)⟩⟩) (fun e=>?_)
    have e':2<=mb-1:=by simp at e;lia
    exact wpS_ite (fun _=>wpS_pure ⟨rfl,.inr ⟨_,_,_,_,_,rfl,M2,j1,j2,e',by lia,by lia⟩⟩) (fun _=>wpS_pure ⟨rfl,_,_,_,_,_,rfl,M2,j1,j2,e',by lia,by lia⟩)
   ·simp only [if_true]
    have M2:=M.pushA (by lia) j2 j4 fun m hm=>hA _ _ (by lia) (by lia) z m (by lia)
    refine wpS_bind (elem_lab (by lia) ?_)
    refine wpS_ite (fun e=>wpS_pure ⟨rfl,.inl ⟨_,_,rfl,don _ _ _ M2 (by lia) j4 (.inl (by simpa using e))⟩⟩) (fun e=>?_)
    have e':1<=ma-1:=by simp at e;lia
    exact wpS_ite (fun _=>wpS_pure ⟨rfl,.inr ⟨_,_,_,_,_,rfl,M2,e',by lia,j3,j4,by lia⟩⟩) (fun _=>wpS_pure ⟨rfl,_,_,_,_,_,rfl,M2,e',by lia,j3,j4,by lia⟩)
  ·rintro c t'' ⟨rfl, ma, mb, out, ac, bc, rfl, M, j1, j2, j3, j4, j5⟩
   exfalso;lia
  ·rintro c t'' ⟨rfl, ⟨o2, c2, rfl, G⟩ | ⟨ma, mb, out, ac, bc, rfl, M, j1, j2, j3, j4, j5⟩⟩
   ·exact wpS_pure ⟨S,o2,_,rfl,G⟩
   ·dsimp only
    refine wpS_bind (wpS_lift (wpAny_rule ⟨rfl,?_⟩))
    refine wpS_bind (wpS_mono (wpS_forRange (fun y c t3=>Same t t3/\∃ ka kb out mg ac bc,c=(none,ka,kb,out,mg,ac,bc)/\MH item r la lb out ka kb/\1<=ka/\ka<=la.size/\2<=kb/\kb<=lb.size/\ka+kb+y<=ma+mb)
     (Q:=fun c t3=>Same t t3/\((∃ (out:Array Keyed) (c2:Nat × Nat × Array Keyed × Nat × Nat × Nat),c=(some out,c2)/\Good item r la lb out)\/∃ ka kb out mg ac bc,c=(none,ka,kb,out,mg,ac,bc)/\MH item r la lb out ka kb/\1<=ka/\ka<=la.size/\2<=kb/\kb<=lb.size/\ka+kb<=ma+mb)) ?_ ?_ ⟨S,ma,mb,out,mg+1,ac,bc,rfl,M,j1,j2,j3,j4,by lia⟩) ?_)
    ·rintro y c t3 _ hy ⟨S3, ka, kb, out, mg, ac, bc, rfl, M, k1, k2, k3, k4, k5⟩
     dsimp only
     by_cases e:mg > 1
     case' pos =>
      rw[if_pos e]
      refine wpS_bind ?_
      rw[setMinGallop'_eq]
      refine wpS_modify ?_
      have S4:=S3.gal (mg-1)
      generalize setGal t3 (mg-1)=t4 at S4 ⊢
     case' neg =>
      rw[if_neg e]
      refine wpS_bind ?_
      rw[setMinGallop'_eq]
      refine wpS_modify ?_
      have S4:=S3.gal mg
      generalize setGal t3 mg=t4 at S4 ⊢
     all_goals
      refine wpS_bind (elem_lab (by lia) ?_)
      refine wpS_bind (gal (m:=ka) (by':=fun i=>!r (lab lb (kb-1)) (lab la (0+i))) (by lia) (fun i hi Q qq=>byd R (S4.kd.trans hk) (T.bl (by lia)) (by lia) (T.al (by lia)) (fun e=>T.ne (by lia) (by lia) e.symm) (by simpa using qq)) ?_ fun pa hkm g1 g2=>?_)
      ·intro i j hij hj hb
       by_cases e:i=j
       ·rw[e];exact hb
       ·have hb' : r (lab lb (kb - 1)) (lab la (0 + j)) = false := by simpa using hb
        have:=R.tr _ _ _ (T.al (i:=0+i) (by lia)) (T.al (i:=0+j) (by lia)) (T.bl (i:=kb-1) (by lia)) (pw_lab T.au (by lia) (by lia)) hb'
        show(!r (lab lb (kb-1)) (lab la (0+i)))=true
        rw[this];rfl
      ·simp only [Nat.zero_add] at g1 g2
       have p2:∀ j,j<pa->r (lab lb (kb-1)) (lab la j)=false:=fun j hj=>by simpa using g1 j hj
       have g2':∀ i,pa<=i->i<ka->r (lab lb (kb-1)) (lab la i)=true:=fun i i1 i2=>by simpa using g2 i i1 i2
       have p0:pa<=la.size:=by lia
       dsimp only
       refine wpS_ite (fun e1=>?_) (fun e1=>?_)
       case' refine_1 =>
        have N:=M.addA (k:=pa) hkm k2 k4 (fun i i1 i2 j hj=>hA _ _ (by lia) (by lia) (g2' i i1 i2) j (by lia))
        refine wpS_ite (fun e3=>wpS_pure ⟨S4,.inl ⟨_,_,rfl,don _ _ _ N p0 k4 (.inl (by simpa using e3))⟩⟩) (fun e3=>?_)
        have p1:1<=pa:=by simp at e3;lia
        generalize out++((Array.map item la).extract pa ka).reverse=out2 at N ⊢
       case' refine_2 =>
        have N:=M
        obtain rfl:pa=ka:=by lia
        have p1:=k1
       all_goals
        have N1:=N.pushB (by lia) p0 k4 p2
        refine wpS_bind (elem_lab (by lia) ?_)
        refine wpS_ite (fun e4=>wpS_pure ⟨S4,.inl ⟨_,_,rfl,fst _ _ _ N1 p0 (by simpa using e4)⟩⟩) (fun e4=>?_)
        have p4:2<=kb-1:=by simp at e4;lia
        refine wpS_bind (elem_lab (by lia) ?_)
        refine wpS_bind (gal (m:=kb-1) (by':=fun i=>r (lab lb (0+i)) (lab la (pa-1))) (by lia) (fun i hi Q qq=>byd R (S4.kd.trans hk) (T.al (by lia)) (by lia) (T.bl (by lia)) (T.ne (by lia) (by lia)) (by simpa using qq)) ?_ fun qb hkk g5 g6=>?_)
        ·intro i j hij hj hb
         by_cases e:i=j
         ·rw[e];exact hb
         ·cases z : r (lab lb (0 + i)) (lab la (pa - 1)) with
          | true=>rfl
          | false =>
           have:=R.tr _ _ _ (T.al (i:=pa-1) (by lia)) (T.bl (i:=0+i) (by lia)) (T.bl (i:=0+j) (by lia)) z (pw_lab T.bu (by lia) (by lia))
           rw[this] at hb
           cases hb
        ·simp only [Nat.zero_add] at g5 g6
         have p6:∀ j,j<qb->r (lab la (pa-1)) (lab lb j)=false:=fun j hj=>R.asy _ _ (T.bl (by lia)) (T.al (by lia)) (g5 j hj)
         dsimp only
         refine wpS_ite (fun e5=>?_) (fun e5=>?_)
         case' refine_1 =>
          have N2:=N1.addB (k:=qb) hkk p0 (by lia) (fun i i1 i2 j hj=>hB _ _ (by lia) (by lia) (g6 i i1 i2) j (by lia))
          refine wpS_ite (fun e6=>wpS_pure ⟨S4,.inl ⟨_,_,rfl,fst _ _ _ N2 p0 (by simpa using e6)⟩⟩) (fun e6=>?_)
          refine wpS_ite (fun e8=>wpS_pure ⟨S4,.inl ⟨_,_,rfl,don _ _ _ N2 p0 (by lia) (.inr (by simpa using e8))⟩⟩) (fun e8=>?_)
          have p5:2<=qb:=by simp at e6 e8;lia
         case' refine_2 =>
          have N2:=N1
          obtain rfl:qb=kb-1:=by lia
         all_goals
          have N3:=N2.pushA (by lia) (by lia) (by lia) p6
          refine wpS_bind (elem_lab (by lia) ?_)
          refine wpS_ite (fun e7=>wpS_pure ⟨S4,.inl ⟨_,_,rfl,don _ _ _ N3 (by lia) (by lia) (.inl (by simpa using e7))⟩⟩) (fun e7=>?_)
          have p8:1<=pa-1:=by simp at e7;lia
          exact wpS_ite (fun _=>wpS_pure ⟨S4,.inr ⟨_,_,_,_,_,_,rfl,N3,p8,by lia,by lia,by lia,by lia⟩⟩) (fun _=>wpS_pure ⟨S4,_,_,_,_,_,_,rfl,N3,p8,by lia,by lia,by lia,by lia⟩)
    ·rintro c t3 ⟨S3, ka, kb, out, mg, ac, bc, rfl, M, k1, k2, k3, k4, k5⟩
     exfalso;lia
    ·rintro c t3 ⟨S3, ⟨o2, c2, rfl, G⟩ | ⟨ka, kb, out, mg, ac, bc, rfl, M, k1, k2, k3, k4, k5⟩⟩
     ·exact wpS_pure ⟨S3,o2,_,rfl,G⟩
     ·dsimp only
      refine wpS_bind ?_
      rw[setMinGallop'_eq]
      exact wpS_modify (wpS_pure ⟨S3.gal _,ka,kb,out,_,rfl,M,k1,k2,k3,k4,by lia⟩)
 ·rintro c t' ⟨S, na, nb, out, mg, rfl, M, i1, i2, i3, i4, i5⟩
  exfalso;lia
 ·rintro c t' ⟨S, o2, c2, rfl, G⟩
  exact wpS_pure (q _ _ S G)
end
end L2.Srt
namespace L2.Srt
open PySem PyProof.Rows
private theorem put_back{α:Type}:∀ (l:List α) (arr:Array α) (sa k:Nat),sa+k+l.length<=arr.size->((l.zipIdx k).foldl (fun a (p:α × Nat)=>a.setIfInBounds (sa+p.2) p.1) arr).toList=arr.toList.take (sa+k)++l++arr.toList.drop (sa+k+l.length)
 | [],arr,sa,k,h=>by simp
 | x :: l, arr, sa, k, h => by
  rw[length_cons] at h
  have hi:sa+k<arr.toList.length:=by rw[Array.length_toList];lia
  rw[zipIdx_cons,List.foldl_cons,put_back l _ sa (k+1) (by rw[Array.size_setIfInBounds];lia),Array.toList_setIfInBounds]
  have e1:(arr.toList.set (sa+k) x).take (sa+(k+1))=arr.toList.take (sa+k)++[x]:=by
   rw[<- Nat.add_assoc,take_add_one,List.take_set_of_le (Nat.le_refl _),getElem?_set_self hi]
   rfl
  have e2:(arr.toList.set (sa+k) x).drop (sa+(k+1)+l.length)=arr.toList.drop (sa+k+(l.length+1)):=by
   rw[List.drop_set_of_lt (by lia)]
   congr 1;lia
  rw[e1,e2,length_cons]
  simp
private theorem wpS_set{M:Model}{A:Around}{E:Value->Shared->Prop}{s:Shared}{σ:Type}{st':σ}{Q:PUnit->σ->Prop}{st:σ}(h:Q ⟨⟩ st'):wpS M A E s (set st':StateT σ Sem PUnit) Q st:=by
 unfold wpS;rw[StateT.run_set];exact wpAny_pure ⟨rfl,h⟩
structure Nw(n:Nat)(item:Nat->Keyed)(kd:SortKind)(ls:Array Nat)(t:SortSt):Prop where
 arr:arrOf t=ls.map item
 kd:kindOf t=kd
 ok:failedOf t=none
 perm:ls.Perm (Array.range n)
def Seg(r:Nat->Nat->Bool)(ls:Array Nat)(s m:Nat):Prop:=∀ i j,s<=i->i<j->j<s+m->r (lab ls j) (lab ls i)=false
section
variable {n:Nat} {item:Nat->Keyed} {kd:SortKind} {r:Nat->Nat->Bool} {ls:Array Nat} {t:SortSt}
private theorem perm_nodup(h:ls.Perm (Array.range n)):ls.toList.Nodup:=(Array.perm_iff_toList_perm.mp h).nodup_iff.mpr (by rw[Array.toList_range];exact List.nodup_range)
private theorem Nw.size(N:Nw n item kd ls t):ls.size=n:=by rw[N.perm.size_eq,Array.size_range]
private theorem perm_lt(h:ls.Perm (Array.range n)){x:Nat}(hx:x∈ls.toList):x<n:=by
 have:=((Array.perm_iff_toList_perm.mp h).mem_iff).mp hx
 rwa [Array.toList_range,List.mem_range] at this
private theorem Nw.lt(N:Nw n item kd ls t){i:Nat}(h:i<n):lab ls i<n:=perm_lt N.perm (mem_lab (by rw[N.size];exact h))
private theorem nd_ne(h:ls.toList.Nodup){i j:Nat}(hij:i<j)(hj:j<ls.size):lab ls i≠lab ls j:=by
 have hi':i<ls.toList.length:=by rw[Array.length_toList];lia
 have hj':j<ls.toList.length:=by rw[Array.length_toList];exact hj
 have:=List.pairwise_iff_getElem.mp h i j hi' hj' hij
 have e1:=lab_get (ls:=ls) (i:=i) (by lia)
 have e2:=lab_get (ls:=ls) hj
 rw[<- Array.getElem?_toList,getElem?_eq_getElem hi'] at e1
 rw[<- Array.getElem?_toList,getElem?_eq_getElem hj'] at e2
 rw[<- Option.some.inj e1,<- Option.some.inj e2]
 exact this
private theorem Nw.ne(N:Nw n item kd ls t){i j:Nat}(hi:i<n)(hj:j<n)(h:i≠j):lab ls i≠lab ls j:=by
 have:=N.size
 rcases Nat.lt_or_gt_of_ne h with g | g
 ·exact nd_ne (perm_nodup N.perm) g (by lia)
 ·exact(nd_ne (perm_nodup N.perm) g (by lia)).symm
private theorem lab_ext{a b i:Nat}(h:b<=ls.size)(hi:a+i<b):lab (ls.extract a b) i=lab ls (a+i):=by
 refine lab_of_get ?_
 rw[Array.getElem?_extract,if_pos (by lia),lab_get (by lia)]
private theorem mem_ext2{a b x:Nat}(h:b<=ls.size)(hx:x∈(ls.extract a b).toList):∃ i,a<=i/\i<b/\x=lab ls i:=by
 have hx':x∈(ls.extract a b).toList.drop 0:=by rwa [drop_zero]
 obtain⟨i,_,h2,rfl⟩:=mem_drop.mp hx'
 rw[Array.size_extract] at h2
 exact⟨a+i,by lia,by lia,lab_ext h (by lia)⟩
private theorem seg_pw{a b:Nat}(h:b<=ls.size)(S:Seg r ls a (b-a)):(ls.extract a b).toList.Pairwise fun x y=>r y x=false:=by
 refine List.pairwise_iff_getElem.mpr fun i j hi hj hij=>?_
 rw[Array.length_toList,Array.size_extract] at hi hj
 have e:∀ k (hk:k<(ls.extract a b).toList.length),(ls.extract a b).toList[k]=lab ls (a+k):=fun k hk=>by
  rw[Array.length_toList] at hk
  have e1:=lab_get (ls:=ls.extract a b) hk
  rw[<- Array.getElem?_toList,getElem?_eq_getElem (by rw[Array.length_toList];exact hk)] at e1
  rw[Option.some.inj e1,lab_ext h (by rw[Array.size_extract] at hk;lia)]
 rw[e,e]
 exact S _ _ (by lia) (by lia) (by lia)
end
section
variable {prog:Program} {w:World} {A:Around} {E:Value->Shared->Prop} {s:Shared} {t:SortSt} {n:Nat} {item:Nat->Keyed} {kd:SortKind} {r:Nat->Nat->Bool} {ls:Array Nat}
private theorem back{a b c:Nat}{M:Array Nat}(N:Nw n item kd ls t)(hab:a<=b)(hbc:b<=c)(hc:c<=n)(p:M.toList.Perm ((ls.extract a b).toList++(ls.extract b c).toList)) :
  ∃ ls':Array Nat,(((M.map item).toList.zipIdx.foldl (fun x (y:Keyed × Nat)=>x.setIfInBounds (a+y.2) y.1) (ls.map item))=ls'.map item)/\ls'.Perm (Array.range n)/\(∀ k,k<a\/c<=k->lab ls' k=lab ls k)/\∀ i,a<=i->i<c->lab ls' i=lab M (i-a):=by
 have hs:=N.size
 have hM:M.size=c-a:=by
  have:=p.length_eq
  rw[Array.length_toList,length_append,Array.length_toList,Array.length_toList,Array.size_extract,Array.size_extract] at this
  lia
 have el:((ls.toList.take a++M.toList++ls.toList.drop c).toArray).size=ls.size:=by
  rw[size_toArray,length_append,length_append,length_take,length_drop,Array.length_toList,Array.length_toList]
  lia
 refine⟨(ls.toList.take a++M.toList++ls.toList.drop c).toArray,?_,?_,?_,?_⟩
 ·apply Array.ext'
  rw[put_back _ _ a 0 (by rw[Array.length_toList,Array.size_map,Array.size_map];lia)]
  simp only[Nat.add_zero,Array.length_toList,Array.size_map,Array.toList_map,hM,map_append,map_take,map_drop,List.map_toArray]
  congr 2
  rw[length_map,Array.length_toList];lia
 ·refine Array.perm_iff_toList_perm.mpr ?_
  refine List.Perm.trans ?_ (Array.perm_iff_toList_perm.mp N.perm)
  have e:ls.toList=ls.toList.take a++((ls.extract a b).toList++(ls.extract b c).toList)++ls.toList.drop c:=by
   rw[Array.toList_extract,Array.toList_extract,extract_eq_take_drop,extract_eq_take_drop]
   have e1:(ls.toList.drop a).take (b-a)++(ls.toList.drop b).take (c-b)=(ls.toList.drop a).take (c-a):=by
    rw[show c-a=(b-a)+(c-b) by lia,List.take_add,drop_drop,show a+(b-a)=b by lia]
   rw[e1,append_assoc]
   conv=>lhs;rw[<- take_append_drop a ls.toList]
   congr 1
   conv=>lhs;rw[<- take_append_drop (c-a) (ls.toList.drop a)]
   rw[drop_drop,show a+(c-a)=c by lia]
  conv=>rhs;rw[e]
  exact(p.append_left _).append_right _
 ·intro k hk
  rcases Nat.lt_or_ge k ls.size with hk2 | hk2
  ·refine lab_of_get ?_
   rw[<- lab_get hk2,List.getElem?_toArray]
   rcases hk with hk | hk
   ·rw[append_assoc,getElem?_append_left (by rw[length_take,Array.length_toList];lia),getElem?_take,if_pos hk,Array.getElem?_toList]
   ·rw [List.getElem?_append_right (by rw [List.length_append, List.length_take, Array.length_toList, Array.length_toList]; lia), List.getElem?_drop, Array.getElem?_toList]
    congr 1
    rw[length_append,length_take,Array.length_toList,Array.length_toList];lia
  ·have e1 : lab ls k = 0 := by unfold lab; rw [Array.getD_eq_getD_getElem?, Array.getElem?_eq_none hk2]; rfl
   rw[e1];unfold lab;rw[Array.getD_eq_getD_getElem?,Array.getElem?_eq_none (by rw[el];exact hk2)];rfl
 ·intro i h1 h2
  refine lab_of_get ?_
  rw[<- lab_get (by lia),List.getElem?_toArray,getElem?_append_left (by rw[length_append,length_take,Array.length_toList,Array.length_toList];lia),getElem?_append_right (by rw[length_take,Array.length_toList];lia),Array.getElem?_toList]
  congr 1
  rw[length_take,Array.length_toList];lia
private theorem mat(R:WRule prog w A s n item kd r)(N:Nw n item kd ls t){i sa na p sb nb p2:Nat}(hp:(pendingOf t)[i]?=some (sa,na,p))(hq:(pendingOf t)[i+1]?=some (sb,nb,p2))(hsb:sb=sa+na)(h1:1<=na)(h2:1<=nb)(hn:sb+nb<=n)(SA:Seg r ls sa na)(SB:Seg r ls sb nb)
  {Q:Bool->SortSt->Prop} (q:∀ ls' t',Nw n item kd ls' t'->pendingOf t'=((pendingOf t).setIfInBounds i (sa,na+nb,p)).eraseIdxIfInBounds (i+1)->(∀ k,k<sa\/sb+nb<=k->lab ls' k=lab ls k)->Seg r ls' sa (na+nb)->Q true t'):wpS (model prog w) A E s (mergeAt' i) Q t:=by
 have hs:=N.size
 rw[mergeAt'_eq]
 refine wpS_bind (wpS_get ?_)
 rw[hp,hq]
 dsimp only
 refine wpS_bind (wpS_set ?_)
 have N1:Nw n item kd ls (setPending t (((pendingOf t).setIfInBounds i (sa,na+nb,p)).eraseIdxIfInBounds (i+1))):=⟨N.arr,N.kd,N.ok,N.perm⟩
 have P1:pendingOf (setPending t (((pendingOf t).setIfInBounds i (sa,na+nb,p)).eraseIdxIfInBounds (i+1)))=((pendingOf t).setIfInBounds i (sa,na+nb,p)).eraseIdxIfInBounds (i+1):=rfl
 rw[N.arr]
 generalize ((pendingOf t).setIfInBounds i (sa,na+nb,p)).eraseIdxIfInBounds (i+1)=pend at P1 N1 q ⊢
 generalize setPending t pend=t1 at P1 N1 ⊢
 have le3:∀ {x y z:Nat},x<n->y<n->z<n->r (lab ls y) (lab ls x)=false->r (lab ls z) (lab ls y)=false->r (lab ls z) (lab ls x)=false:=fun hx hy hz=>R.tr _ _ _ (N.lt hx) (N.lt hy) (N.lt hz)
 refine wpS_bind (elem_lab (by lia) ?_)
 refine wpS_bind (gal (m:=na) (by':=fun i=>!r (lab ls sb) (lab ls (sa+i))) (by lia) (fun i hi Q qq=>byd R N1.kd (N.lt (by lia)) (by lia) (N.lt (by lia)) (N.ne (by lia) (by lia) (by lia)) (by simpa using qq)) ?_ fun k hk g1 g2=>?_)
 ·intro i j hij hj hb
  by_cases e:i=j
  ·rw[e];exact hb
  ·have hb' : r (lab ls sb) (lab ls (sa + j)) = false := by simpa using hb
   have:=le3 (by lia) (by lia) (by lia) (SA (sa+i) (sa+j) (by lia) (by lia) (by lia)) hb'
   show(!r (lab ls sb) (lab ls (sa+i)))=true
   rw[this];rfl
 have F1:∀ i j,sa<=i->i<sa+k->sb<=j->j<sb+nb->r (lab ls j) (lab ls i)=false:=fun i j a1 a2 b1 b2=>by
  have z:r (lab ls sb) (lab ls i)=false:=by
   have:=g1 (i-sa) (by lia)
   rw[show sa+(i-sa)=i by lia] at this
   simpa using this
  by_cases e:j=sb
  ·rw[e];exact z
  ·exact le3 (by lia) (by lia) (by lia) z (SB sb j (by lia) (by lia) b2)
 dsimp only
 refine wpS_ite (fun e=>wpS_pure (q ls t1 N1 P1 (fun _ _=>rfl) fun i j a1 a2 a3=>?_)) (fun e=>?_)
 ·have ek : k = na := by simp at e; lia
  by_cases c1:j<sb
  ·exact SA i j a1 a2 (by lia)
  ·by_cases c2 : i < sb
   ·exact F1 i j a1 (by lia) (by lia) (by lia)
   ·exact SB i j (by lia) a2 (by lia)
 have hk':k<na:=by simp at e;lia
 have g2':r (lab ls sb) (lab ls (sa+k))=true:=by simpa using g2 k (Nat.le_refl _) hk'
 have el:sa+k+(na-k)-1=sb-1:=by lia
 rw[el]
 refine wpS_bind (elem_lab (by lia) ?_)
 refine wpS_bind (gal (m:=nb) (by':=fun i=>r (lab ls (sb+i)) (lab ls (sb-1))) (by lia) (fun i hi Q qq=>byd R N1.kd (N.lt (by lia)) (by lia) (N.lt (by lia)) (N.ne (by lia) (by lia) (by lia)) (by simpa using qq)) ?_ fun m hm g3 g4=>?_)
 ·intro i j hij hj hb
  by_cases e:i=j
  ·rw[e];exact hb
  ·cases z : r (lab ls (sb + i)) (lab ls (sb - 1)) with
   | true=>rfl
   | false =>
    have:=le3 (by lia) (by lia) (by lia) z (SB (sb+i) (sb+j) (by lia) (by lia) (by lia))
    rw[this] at hb
    cases hb
 have F3:∀ i j,sa<=i->i<sb->sb+m<=j->j<sb+nb->r (lab ls j) (lab ls i)=false:=fun i j a1 a2 b1 b2=>by
  have z:r (lab ls j) (lab ls (sb-1))=false:=by
   have:=g4 (j-sb) (by lia) (by lia)
   rwa [show sb+(j-sb)=j by lia] at this
  by_cases e:i=sb-1
  ·rw[e];exact z
  ·exact le3 (by lia) (by lia) (by lia) (SA i (sb-1) a1 (by lia) (by lia)) z
 dsimp only
 refine wpS_ite (fun e=>wpS_pure (q ls t1 N1 P1 (fun _ _=>rfl) fun i j a1 a2 a3=>?_)) (fun e=>?_)
 ·have ek : m = 0 := by simpa using e
  by_cases c1:j<sb
  ·exact SA i j a1 a2 (by lia)
  ·by_cases c2 : i < sb
   ·exact F3 i j a1 (by lia) (by lia) (by lia)
   ·exact SB i j (by lia) a2 (by lia)
 have hm':1<=m:=by simp at e;lia
 have eX:(ls.map item).extract (sa+k) sb=(ls.extract (sa+k) sb).map item:=by rw[Array.map_extract]
 have eY:(ls.map item).extract sb (sb+m)=(ls.extract sb (sb+m)).map item:=by rw[Array.map_extract]
 rw[eX,eY]
 have zX:(ls.extract (sa+k) sb).size=sb-(sa+k):=by rw[Array.size_extract];lia
 have zY:(ls.extract sb (sb+m)).size=m:=by rw[Array.size_extract];lia
 have T:Two n r (ls.extract (sa+k) sb) (ls.extract sb (sb+m)):=by
  refine⟨fun x hx=>?_,fun x hx=>?_,fun x hx y hy=>?_,seg_pw (by lia) fun i j a b c=>SA i j (by lia) b (by lia),seg_pw (by lia) fun i j a b c=>SB i j (by lia) b (by lia)⟩
  ·obtain⟨i,_,h2,rfl⟩:=mem_ext2 (by lia) hx;exact N.lt (by lia)
  ·obtain⟨i,_,h2,rfl⟩:=mem_ext2 (by lia) hx;exact N.lt (by lia)
  ·obtain ⟨i, _, h2, rfl⟩ := mem_ext2 (by lia) hx
   obtain⟨j,h3,h4,rfl⟩:=mem_ext2 (by lia) hy
   exact N.ne (by lia) (by lia) (by lia)
 have c1:r (lab (ls.extract sb (sb+m)) 0) (lab (ls.extract (sa+k) sb) 0)=true:=by
  rw[lab_ext (by lia) (by lia),lab_ext (by lia) (by lia)]
  exact g2'
 have c2:∀ y∈(ls.extract sb (sb+m)).toList,r y (lab (ls.extract (sa+k) sb) ((ls.extract (sa+k) sb).size-1))=true:=fun y hy=>by
  obtain⟨j,h3,h4,rfl⟩:=mem_ext2 (by lia) hy
  rw[zX,lab_ext (by lia) (by lia),show sa+k+(sb-(sa+k)-1)=sb-1 by lia]
  have:=g3 (j-sb) (by lia)
  rwa [show sb+(j-sb)=j by lia] at this
 have fin : ∀ out t2, Same t1 t2 -> Good item r (ls.extract (sa + k) sb) (ls.extract sb (sb + m)) out -> wpS (model prog w) A E s (do
   modify fun s=>setArr s (out.toList.zipIdx.foldl (fun a (p,j)=>a.setIfInBounds (sa+k+j) p) (arrOf s))
   return (failedOf (<- get)).isNone) Q t2:=fun out t2 S ⟨M,eM,pM,uM⟩=>by
  refine wpS_bind (wpS_modify (wpS_bind (wpS_get ?_)))
  have ef:(failedOf (setArr t2 (out.toList.zipIdx.foldl (fun a (p,j)=>a.setIfInBounds (sa+k+j) p) (arrOf t2)))).isNone=true:=by
   show(failedOf t2).isNone=true
   rw[S.ok,N1.ok];rfl
  rw[ef]
  obtain⟨ls',b1,b2,b3,b4⟩:=back (a:=sa+k) (b:=sb) (c:=sb+m) N (by lia) (by lia) (by lia) pM
  refine wpS_pure (q ls' _ ⟨?_,S.kd.trans N1.kd,S.ok.trans N1.ok,b2⟩ (S.pend.trans P1) (fun k' hk'=>b3 k' (by lia)) fun i j a1 a2 a3=>?_)
  ·show out.toList.zipIdx.foldl (fun a (p, j) => a.setIfInBounds (sa + k + j) p) (arrOf t2) = _
   rw[S.arr,N1.arr,eM]
   exact b1
  ·have zM : M.size = sb + m - (sa + k) := by
    have:=pM.length_eq
    rw[Array.length_toList,length_append,Array.length_toList,Array.length_toList,zX,zY] at this
    lia
   have inM:∀ i,sa+k<=i->i<sb+m->∃ i',sa+k<=i'/\i'<sb+m/\lab ls' i=lab ls i':=fun i x1 x2=>by
    rw[b4 i x1 x2]
    have:lab M (i-(sa+k))∈(ls.extract (sa+k) sb).toList++(ls.extract sb (sb+m)).toList:=pM.mem_iff.mp (mem_lab (by lia))
    rcases List.mem_append.mp this with h | h
    ·obtain⟨i',y1,y2,e⟩:=mem_ext2 (by lia) h;exact⟨i',y1,by lia,e⟩
    ·obtain⟨i',y1,y2,e⟩:=mem_ext2 (by lia) h;exact⟨i',by lia,y2,e⟩
   by_cases ci:i<sa+k
   ·rw [b3 i (.inl ci)]
    by_cases cj:j<sa+k
    ·rw [b3 j (.inl cj)]
     exact SA i j a1 a2 (by lia)
    ·by_cases cj2 : j < sb + m
     ·obtain ⟨j', y1, y2, e⟩ := inM j (by lia) cj2
      rw[e]
      by_cases c3:j'<sb
      ·exact SA i j' a1 (by lia) (by lia)
      ·exact F1 i j' a1 ci (by lia) (by lia)
     ·rw [b3 j (.inr (by lia))]
      exact F1 i j a1 ci (by lia) (by lia)
   ·by_cases ci2 : i < sb + m
    ·by_cases cj2 : j < sb + m
     ·rw [b4 i (by lia) ci2, b4 j (by lia) cj2]
      exact pw_lab uM (by lia) (by lia)
     ·rw [b3 j (.inr (by lia))]
      obtain⟨i',y1,y2,e⟩:=inM i (by lia) ci2
      rw[e]
      by_cases c3:i'<sb
      ·exact F3 i' j (by lia) c3 (by lia) (by lia)
      ·exact SB i' j (by lia) (by lia) (by lia)
    ·rw [b3 i (.inr (by lia)), b3 j (.inr (by lia))]
     exact SB i j (by lia) a2 (by lia)
 refine wpS_ite (fun e=>?_) (fun e=>?_)
 ·exact wpS_bind (mlo R N1.kd T (by lia) (by lia) c1 c2 fin)
 ·exact wpS_bind (mhi R N1.kd T (by lia) (by lia) c1 c2 fin)
end
end L2.Srt
namespace L2.Srt
open PySem PyProof.Rows
section
variable {n:Nat} {item:Nat->Keyed} {kd:SortKind} {r:Nat->Nat->Bool} {ls:Array Nat} {t:SortSt}
private theorem Nw.mir(N:Nw n item kd ls t){i j:Nat}(hj:j<=n):Nw n item kd (mirror ls i j ((j-i)/2)) (setArr t (mirror (arrOf t) i j ((j-i)/2))) :=
 ⟨by show mirror (arrOf t) i j _=_;rw[N.arr];exact mir_map (by rw[N.size];exact hj),N.kd,N.ok,(mirror_perm _ _ _ _).trans N.perm⟩
private theorem Nw.bub(N:Nw n item kd ls t){src d:Nat}(hs:src<n)(hd:d<=src):Nw n item kd (bubble ls src d) (setArr t (bubble (arrOf t) src d)) :=
 ⟨by show bubble (arrOf t) src d=_;rw[N.arr];exact bub_map (by rw[N.size];exact hs) hd,N.kd,N.ok,(bubble_perm _ _ _).trans N.perm⟩
structure Kp(lo:Nat)(ls:Array Nat)(t:SortSt)(ls':Array Nat)(t':SortSt):Prop where
 p:pendingOf t'=pendingOf t
 l:∀ k,k<lo->lab ls' k=lab ls k
def Dn(r:Nat->Nat->Bool)(ls:Array Nat)(s m:Nat):Prop:=∀ i j,s<=i->i<j->j<s+m->r (lab ls i) (lab ls j)=false
def Eqb(r:Nat->Nat->Bool)(ls:Array Nat)(a b:Nat):Prop:=∀ i j,a<=i->i<b->a<=j->j<b->r (lab ls i) (lab ls j)=false
private theorem mir_at{a b k:Nat}(hb:b<=ls.size)(hk:k<ls.size):∃ k',lab (mirror ls a b ((b-a)/2)) k=lab ls k'/\(a<=k/\k<b->a<=k'/\k'<b)/\(¬(a<=k/\k<b)->k'=k):=by
 by_cases h:a<=k/\k<b
 ·exact⟨a+b-1-k,by rw[mir_lab hb hk,if_pos h],fun _=>by lia,fun g=>absurd h g⟩
 ·exact⟨k,by rw[mir_lab hb hk,if_neg h],fun g=>absurd g h,fun _=>rfl⟩
private theorem dn_mir{lo x e:Nat}(hx:lo+x<=ls.size)(D:Dn r ls lo x)(he:e+1<=x)(Q:Eqb r ls (lo+x-(e+1)) (lo+x)):Dn r (mirror ls (lo+x-(e+1)) (lo+x) ((lo+x-(lo+x-(e+1)))/2)) lo x:=fun i j h1 h2 h3=>by
 obtain⟨i',e1,f1,f2⟩:=mir_at (ls:=ls) (a:=lo+x-(e+1)) (b:=lo+x) (k:=i) hx (by lia)
 obtain⟨j',e2,g1,g2⟩:=mir_at (ls:=ls) (a:=lo+x-(e+1)) (b:=lo+x) (k:=j) hx (by lia)
 rw[e1,e2]
 by_cases c1:lo+x-(e+1)<=i/\i<lo+x
 ·have := f1 c1
  have:=g1 (by lia)
  exact Q _ _ (by lia) (by lia) (by lia) (by lia)
 ·have c3 := f2 c1
  by_cases c2:lo+x-(e+1)<=j/\j<lo+x
  ·have := g1 c2
   exact D _ _ (by lia) (by lia) (by lia)
  ·have := g2 c2
   exact D _ _ (by lia) (by lia) (by lia)
end
section
variable {prog:Program} {w:World} {A:Around} {E:Value->Shared->Prop} {s:Shared} {n:Nat} {item:Nat->Keyed} {kd:SortKind} {r:Nat->Nat->Bool} {ls:Array Nat} {t:SortSt}
private theorem at_l(R:WRule prog w A s n item kd r)(N:Nw n item kd ls t){i j:Nat}(hi:i<n)(hj:j<n)(hij:i≠j){Q:Option Bool->SortSt->Prop}(q:Q (some (r (lab ls i) (lab ls j))) t):wpS (model prog w) A E s (ltAt' i j) Q t:=by
 have hs:=N.size
 rw[ltAt'_eq]
 refine wpS_bind (wpS_get ?_)
 dsimp only
 rw[N.arr]
 exact wpS_bind (elem_lab (by lia) (wpS_bind (elem_lab (by lia) (lt_lab R N.kd (N.lt hi) (N.lt hj) (N.ne hi hj hij) q))))
private theorem WRule.irr(R:WRule prog w A s n item kd r){a:Nat}(h:a<n):r a a=false:=by
 cases z:r a a with
 | false=>rfl
 | true=>have:=R.asy a a h h z;rw[z] at this;exact this
private theorem rev_l{i j:Nat}{Q:Unit->SortSt->Prop}(q:Q () (setArr t (mirror (arrOf t) i j ((j-i)/2)))):wpS (model prog w) A E s (reverseSlice' i j) Q t:=by
 rw[reverseSlice'_eq]
 exact wpS_modify q
private theorem asc_l(R:WRule prog w A s n item kd r)(N:Nw n item kd ls t){lo a nrem:Nat}(h1:1<=a)(ha:a<=nrem)(hn:lo+nrem<=n)(U:Seg r ls lo a){x:Nat}(hx:x<nrem)(hax:a<=x)(V:Seg r ls lo x){Q:Option Bool->SortSt->Prop}
  (q1:r (lab ls (lo+x)) (lab ls (lo+x-1))=true->Q (some true) t) (q2:Seg r ls lo (x+1)->Q (some false) t):wpS (model prog w) A E s (ltAt' (lo+x) (lo+x-1)) Q t:=by
 refine at_l R N (by lia) (by lia) (by lia) ?_
 cases z:r (lab ls (lo+x)) (lab ls (lo+x-1)) with
 | true=>exact q1 z
 | false =>
  refine q2 fun i j i1 i2 i3=>?_
  by_cases hj:j<lo+x
  ·exact V i j i1 i2 hj
  ·obtain rfl : j = lo + x := by lia
   by_cases hi:i=lo+x-1
   ·rw[hi];exact z
   ·exact R.tr _ _ _ (N.lt (by lia)) (N.lt (i:=lo+x-1) (by lia)) (N.lt (by lia)) (V i (lo+x-1) i1 (by lia) (by lia)) z
private theorem tail_l(R:WRule prog w A s n item kd r)(N:Nw n item kd ls t){lo a nrem:Nat}(h1:1<=a)(ha:a<=nrem)(hn:lo+nrem<=n)(D:Dn r ls lo a){Q:Option Nat->SortSt->Prop}
  (q:∀ m ls' t',1<=m->m<=nrem->Nw n item kd ls' t'->Kp lo ls t ls' t'->Seg r ls' lo m->Q (some m) t'):wpS (model prog w) A E s (tailAsc lo a nrem) Q t:=by
 have hs:=N.size
 unfold tailAsc
 refine wpS_bind (rev_l ?_)
 have N':=N.mir (i:=lo) (j:=lo+a) (by lia)
 have K':Kp lo ls t (mirror ls lo (lo+a) ((lo+a-lo)/2)) (setArr t (mirror (arrOf t) lo (lo+a) ((lo+a-lo)/2))):=⟨rfl,fun k hk=>by rw[mir_lab (by lia) (by lia),if_neg (by lia)]⟩
 have U:Seg r (mirror ls lo (lo+a) ((lo+a-lo)/2)) lo a:=fun i j i1 i2 i3=>by
  rw[mir_lab (by lia) (by lia),mir_lab (by lia) (by lia),if_pos (by lia),if_pos (by lia)]
  exact D _ _ (by lia) (by lia) (by lia)
 generalize mirror ls lo (lo+a) ((lo+a-lo)/2)=ls' at N' K' U
 generalize setArr t (mirror (arrOf t) lo (lo+a) ((lo+a-lo)/2))=t' at N' K' ⊢
 refine wpS_bind (wpS_mono (wpS_forRange (fun x c t2=>t2=t'/\c=(none,x)/\Seg r ls' lo x) (Q:=fun c t2=>t2=t'/\∃ m,c=(none,m)/\a<=m/\m<=nrem/\Seg r ls' lo m) ?_ ?_ ⟨rfl,rfl,U⟩) ?_)
 ·rintro x c t2 hx hxn ⟨rfl, rfl, V⟩
  dsimp only
  exact wpS_bind (asc_l R N' h1 ha hn U hxn hx V (fun _=>wpS_pure ⟨rfl,x,rfl,hx,by lia,V⟩) (fun V'=>wpS_pure ⟨rfl,rfl,V'⟩))
 ·rintro c t2 ⟨rfl, rfl, V⟩
  rw[show max a nrem=nrem by lia] at V ⊢
  exact⟨rfl,nrem,rfl,ha,Nat.le_refl _,V⟩
 ·rintro c t2 ⟨rfl, m, rfl, m1, m2, V⟩
  exact wpS_pure (q m ls' t2 (by lia) m2 N' K' V)
private theorem desc_l(R:WRule prog w A s n item kd r)(N:Nw n item kd ls t){lo a nrem:Nat}(h1:1<=a)(ha:a<nrem)(hn:lo+nrem<=n)(D:Dn r ls lo (a+1)){Q:Option Nat->SortSt->Prop}
  (q:∀ m ls' t',1<=m->m<=nrem->Nw n item kd ls' t'->Kp lo ls t ls' t'->Seg r ls' lo m->Q (some m) t'):wpS (model prog w) A E s (descRest lo a nrem) Q t:=by
 have hs:=N.size
 unfold descRest
 refine wpS_bind (wpS_lift (wpAny_rule ⟨rfl,?_⟩))
 refine wpS_bind (wpS_mono (wpS_forRange (fun x c t2=>∃ (ls2:Array Nat) (e:Nat),c=(none,x,e)/\Nw n item kd ls2 t2/\Kp lo ls t ls2 t2/\Dn r ls2 lo x/\e+1<=x/\Eqb r ls2 (lo+x-(e+1)) (lo+x))
  (Q:=fun c t2=>∃ (ls2:Array Nat) (x e:Nat),c=(none,x,e)/\1<=x/\x<=nrem/\Nw n item kd ls2 t2/\Kp lo ls t ls2 t2/\Dn r ls2 lo x/\e+1<=x/\Eqb r ls2 (lo+x-(e+1)) (lo+x)) ?_ ?_ ⟨ls,0,rfl,N,⟨rfl,fun _ _=>rfl⟩,D,by lia,?_⟩) ?_)
 ·rintro x c t2 hx hxn ⟨ls2, e, rfl, N2, K2, D2, he, Q2⟩
  have hs2:=N2.size
  dsimp only
  have one:∀ (l3:Array Nat) (t3:SortSt),Nw n item kd l3 t3->Eqb r l3 (lo+(x+1)-(0+1)) (lo+(x+1)):=fun l3 t3 N3 i j i1 i2 j1 j2=>by
   obtain⟨rfl,rfl⟩:i=lo+x/\j=lo+x:=by lia
   exact R.irr (N3.lt (by lia))
  refine wpS_bind (at_l R N2 (by lia) (by lia) (by lia) ?_)
  cases z:r (lab ls2 (lo+x)) (lab ls2 (lo+x-1)) with
  | true =>
   simp only[if_true]
   have below:∀ p,lo<=p->p<lo+x->r (lab ls2 p) (lab ls2 (lo+x))=false:=fun p p1 p2=>by
    have z':=R.asy _ _ (N2.lt (by lia)) (N2.lt (by lia)) z
    by_cases ep:p=lo+x-1
    ·rw[ep];exact z'
    ·exact R.tr _ _ _ (N2.lt (by lia)) (N2.lt (i:=lo+x-1) (by lia)) (N2.lt (by lia)) z' (D2 p (lo+x-1) p1 (by lia) (by lia))
   refine wpS_ite (fun h0=>?_) (fun h0=>?_)
   ·refine wpS_bind (rev_l (wpS_pure ?_))
    have N3:=N2.mir (i:=lo+x-(e+1)) (j:=lo+x) (by lia)
    refine⟨_,0,rfl,N3,⟨K2.p,fun k hk=>?_⟩,fun i j i1 i2 i3=>?_,by lia,one _ _ N3⟩
    ·rw[mir_lab (by lia) (by lia),if_neg (by lia)];exact K2.l k hk
    ·by_cases hj : j < lo + x
     ·exact dn_mir (by lia) D2 he Q2 i j i1 i2 hj
     ·obtain rfl : j = lo + x := by lia
      obtain⟨i',e1,f1,f2⟩:=mir_at (ls:=ls2) (a:=lo+x-(e+1)) (b:=lo+x) (k:=i) (by lia) (by lia)
      obtain⟨j',e2,g1,g2⟩:=mir_at (ls:=ls2) (a:=lo+x-(e+1)) (b:=lo+x) (k:=lo+x) (by lia) (by lia)
      rw[e1,e2,g2 (by lia)]
      by_cases c1:lo+x-(e+1)<=i/\i<lo+x
      ·have := f1 c1
       exact below i' (by lia) (by lia)
      ·rw[f2 c1];exact below i i1 (by lia)
   ·refine wpS_pure ⟨ls2, 0, rfl, N2, K2, fun i j i1 i2 i3 => ?_, by lia, one _ _ N2⟩
    by_cases hj:j<lo+x
    ·exact D2 i j i1 i2 hj
    ·obtain rfl : j = lo + x := by lia
     exact below i i1 (by lia)
  | false =>
   simp only[Bool.false_eq_true,if_false]
   refine wpS_bind (at_l R N2 (by lia) (by lia) (by lia) ?_)
   cases z2:r (lab ls2 (lo+x-1)) (lab ls2 (lo+x)) with
   | true=>exact wpS_pure ⟨ls2,x,e,rfl,by lia,by lia,N2,K2,D2,he,Q2⟩
   | false =>
    have up:∀ p,lo+x-(e+1)<=p->p<lo+x->r (lab ls2 p) (lab ls2 (lo+x))=false/\r (lab ls2 (lo+x)) (lab ls2 p)=false:=fun p p1 p2=>by
     have y1:=Q2 p (lo+x-1) p1 p2 (by lia) (by lia)
     have y2:=Q2 (lo+x-1) p (by lia) (by lia) p1 p2
     exact⟨R.tr _ _ _ (N2.lt (by lia)) (N2.lt (i:=lo+x-1) (by lia)) (N2.lt (by lia)) z2 y1,R.tr _ _ _ (N2.lt (by lia)) (N2.lt (i:=lo+x-1) (by lia)) (N2.lt (by lia)) y2 z⟩
    refine wpS_pure ⟨ls2,e+1,rfl,N2,K2,fun i j i1 i2 i3=>?_,by lia,fun i j i1 i2 j1 j2=>?_⟩
    ·by_cases hj : j < lo + x
     ·exact D2 i j i1 i2 hj
     ·obtain rfl : j = lo + x := by lia
      by_cases hi:i=lo+x-1
      ·rw[hi];exact z2
      ·exact R.tr _ _ _ (N2.lt (by lia)) (N2.lt (i:=lo+x-1) (by lia)) (N2.lt (by lia)) z2 (D2 i (lo+x-1) i1 (by lia) (by lia))
    ·by_cases c1 : i = lo + x
     ·by_cases c2 : j = lo + x
      ·rw[c1,c2];exact R.irr (N2.lt (by lia))
      ·rw[c1];exact(up j (by lia) (by lia)).2
     ·by_cases c2 : j = lo + x
      ·rw[c2];exact(up i (by lia) (by lia)).1
      ·exact Q2 i j (by lia) (by lia) (by lia) (by lia)
 ·rintro c t2 ⟨ls2, e, rfl, N2, K2, D2, he, Q2⟩
  rw[show max (a+1) nrem=nrem by lia] at D2 he Q2 ⊢
  exact⟨ls2,nrem,e,rfl,by lia,Nat.le_refl _,N2,K2,D2,he,Q2⟩
 ·intro i j i1 i2 j1 j2
  obtain⟨rfl,rfl⟩:i=lo+a/\j=lo+a:=by lia
  exact R.irr (N.lt (by lia))
 ·rintro c t2 ⟨ls2, x, e, rfl, x1, x2, N2, K2, D2, he, Q2⟩
  have hs2:=N2.size
  dsimp only
  have goon:∀ (l3:Array Nat) (t3:SortSt),Nw n item kd l3 t3->Kp lo ls t l3 t3->Dn r l3 lo x->wpS (model prog w) A E s (tailAsc lo x nrem) Q t3:=fun l3 t3 N3 K3 D3 =>
   tail_l R N3 x1 x2 hn D3 fun m ls' t' m1 m2 N' K' S'=>q m ls' t' m1 m2 N' ⟨K'.p.trans K3.p,fun k hk=>(K'.l k hk).trans (K3.l k hk)⟩ S'
  refine wpS_ite (fun h0=>?_) (fun h0=>goon ls2 t2 N2 K2 D2)
  refine wpS_bind (rev_l ?_)
  refine goon _ _ (N2.mir (by lia)) ⟨K2.p,fun k hk=>?_⟩ (dn_mir (by lia) D2 he Q2)
  rw[mir_lab (by lia) (by lia),if_neg (by lia)];exact K2.l k hk
end
end L2.Srt
namespace L2.Srt
open PySem PyProof.Rows
section
variable {prog:Program} {w:World} {A:Around} {E:Value->Shared->Prop} {s:Shared} {n:Nat} {item:Nat->Keyed} {kd:SortKind} {r:Nat->Nat->Bool} {ls:Array Nat} {t:SortSt}
private theorem run_l(R:WRule prog w A s n item kd r)(N:Nw n item kd ls t){lo nrem:Nat}(h1:1<=nrem)(hn:lo+nrem<=n){Q:Option Nat->SortSt->Prop}
  (q:∀ m ls' t',1<=m->m<=nrem->Nw n item kd ls' t'->Kp lo ls t ls' t'->Seg r ls' lo m->Q (some m) t'):wpS (model prog w) A E s (countRun' lo nrem) Q t:=by
 have hs:=N.size
 rw[countRun'_eq]
 have U:Seg r ls lo 1:=fun i j a b c=>by lia
 refine wpS_bind (wpS_mono (wpS_forRange (fun x c t2=>t2=t/\c=(none,x)/\Seg r ls lo x) (Q:=fun c t2=>t2=t/\∃ m,c=(none,m)/\1<=m/\m<=nrem/\Seg r ls lo m/\(m<nrem->r (lab ls (lo+m)) (lab ls (lo+m-1))=true)) ?_ ?_ ⟨rfl,rfl,U⟩) ?_)
 ·rintro x c t2 hx hxn ⟨rfl, rfl, V⟩
  dsimp only
  exact wpS_bind (asc_l R N (Nat.le_refl _) h1 hn U hxn hx V (fun z=>wpS_pure ⟨rfl,x,rfl,hx,by lia,V,fun _=>z⟩) (fun V'=>wpS_pure ⟨rfl,rfl,V'⟩))
 ·rintro c t2 ⟨rfl, rfl, V⟩
  rw[show max 1 nrem=nrem by lia] at V ⊢
  exact⟨rfl,nrem,rfl,h1,Nat.le_refl _,V,fun h=>by lia⟩
 ·rintro c t2 ⟨rfl, m, rfl, m1, m2, V, z⟩
  dsimp only
  have K0:Kp lo ls t2 ls t2:=⟨rfl,fun _ _=>rfl⟩
  refine wpS_ite (fun e=>wpS_pure (q m ls t2 m1 m2 N K0 V)) (fun e=>?_)
  have hm:m<nrem:=by simp at e;lia
  have z:=z hm
  have z':=R.asy _ _ (N.lt (by lia)) (N.lt (by lia)) z
  have low:∀ (l3:Array Nat) (t3:SortSt),Nw n item kd l3 t3->Kp lo ls t2 l3 t3->Dn r l3 lo (m+1)->wpS (model prog w) A E s (descRest lo m nrem) Q t3:=fun l3 t3 N3 K3 D3 =>
   desc_l R N3 m1 hm hn D3 fun m ls' t' m1 m2 N' K' S'=>q m ls' t' m1 m2 N' ⟨K'.p.trans K3.p,fun k hk=>(K'.l k hk).trans (K3.l k hk)⟩ S'
  refine wpS_ite (fun g=>?_) (fun g=>?_)
  ·refine wpS_bind (at_l R N (by lia) (by lia) (by lia) ?_)
   cases z2:r (lab ls lo) (lab ls (lo+m-1)) with
   | true=>exact wpS_pure (q m ls t2 m1 m2 N K0 V)
   | false =>
    simp only[Bool.false_eq_true,if_false]
    refine wpS_bind (rev_l ?_)
    have ge:∀ p,lo<=p->p<lo+m->r (lab ls lo) (lab ls p)=false:=fun p p1 p2=>by
     by_cases ep:p=lo+m-1
     ·rw[ep];exact z2
     ·exact R.tr _ _ _ (N.lt (by lia)) (N.lt (i:=lo+m-1) (by lia)) (N.lt (by lia)) (V p (lo+m-1) p1 (by lia) (by lia)) z2
    have Q2:Eqb r ls lo (lo+m):=fun i j i1 i2 j1 j2=>by
     rcases Nat.lt_trichotomy i j with c | c | c
     ·by_cases ei : i = lo
      ·rw[ei];exact ge j j1 j2
      ·exact R.tr _ _ _ (N.lt (by lia)) (N.lt (i:=lo) (by lia)) (N.lt (by lia)) (ge j j1 j2) (V lo i (by lia) (by lia) i2)
     ·rw[c];exact R.irr (N.lt (by lia))
     ·exact V j i j1 c i2
    have below:∀ p,lo<=p->p<lo+m->r (lab ls p) (lab ls (lo+m))=false:=fun p p1 p2 =>
     R.tr _ _ _ (N.lt (by lia)) (N.lt (i:=lo+m-1) (by lia)) (N.lt (by lia)) z' (Q2 p (lo+m-1) p1 p2 (by lia) (by lia))
    refine low _ _ (N.mir (by lia)) ⟨rfl,fun k hk=>?_⟩ fun i j i1 i2 i3=>?_
    ·rw[mir_lab (by lia) (by lia),if_neg (by lia)]
    ·obtain ⟨i', e1, f1, f2⟩ := mir_at (ls := ls) (a := lo) (b := lo + m) (k := i) (by lia) (by lia)
     obtain⟨j',e2,g1,g2⟩:=mir_at (ls:=ls) (a:=lo) (b:=lo+m) (k:=j) (by lia) (by lia)
     rw[e1,e2]
     have fi:=f1 (by lia)
     by_cases c2:j<lo+m
     ·have gj := g1 (by lia)
      exact Q2 _ _ (by lia) (by lia) (by lia) (by lia)
     ·rw [g2 (by lia), show j = lo + m by lia]
      exact below i' (by lia) (by lia)
  ·obtain rfl : m = 1 := by lia
   refine low ls t2 N K0 fun i j i1 i2 i3=>?_
   obtain⟨rfl,rfl⟩:i=lo/\j=lo+1:=by lia
   exact z'
private theorem put_l(R:WRule prog w A s n item kd r)(N:Nw n item kd ls t){lo m f:Nat}(hm:m<=f)(hf:lo+f<=n)(U:Seg r ls lo m){Q:Bool->SortSt->Prop}(q:∀ ls' t',Nw n item kd ls' t'->Kp lo ls t ls' t'->Seg r ls' lo f->Q true t'):wpS (model prog w) A E s (binarySort' lo f m) Q t:=by
 rw[binarySort'_eq]
 refine wpS_bind (wpS_mono (wpS_forRange (fun k c t'=>c=(none,())/\∃ ls',Nw n item kd ls' t'/\Kp lo ls t ls' t'/\Seg r ls' lo (min k f)) (Q:=fun c t'=>c=(none,())/\∃ ls',Nw n item kd ls' t'/\Kp lo ls t ls' t'/\Seg r ls' lo f) ?_ ?_ ⟨rfl,ls,N,⟨rfl,fun _ _=>rfl⟩,fun i j i1 i2 i3=>?_⟩) ?_)
 ·rintro k c t' hk hkn ⟨rfl, ls', N', K', U'⟩
  rw[show min k f=k by lia] at U'
  have hsz:=N'.size
  refine wpS_bind (wpS_mono (wpS_forRange (fun x c t2=>t2=t'/\∃ l h,c=(none,l,h)/\l<=h/\h<=k/\h-l<=k-x/\(∀ i,i<l->r (lab ls' (lo+k)) (lab ls' (lo+i))=false)/\∀ i,h<=i->i<k->r (lab ls' (lo+i)) (lab ls' (lo+k))=false)
   (Q:=fun c t2=>t2=t'/\∃ l h,c=(none,l,h)/\l<=k/\(∀ i,i<l->r (lab ls' (lo+k)) (lab ls' (lo+i))=false)/\∀ i,l<=i->i<k->r (lab ls' (lo+i)) (lab ls' (lo+k))=false) ?_ ?_ ⟨rfl,0,k,rfl,by lia,by lia,by lia,fun i hi=>by lia,fun i h1 h2=>by lia⟩) ?_)
  ·rintro x c t2 _ hx ⟨rfl, l, h, rfl, g1, g2, g3, g4, g5⟩
   dsimp only
   refine wpS_ite (fun hd=>wpS_pure ⟨rfl,l,h,rfl,by lia,g4,fun i i1 i2=>g5 i (by lia) i2⟩) (fun hd=>?_)
   refine wpS_bind (at_l R N' (by lia) (by lia) (by lia) ?_)
   cases z:r (lab ls' (lo+k)) (lab ls' (lo+(l+h)/2))
   ·refine wpS_pure ⟨rfl, (l + h) / 2 + 1, h, rfl, by lia, by lia, by lia, fun i hi => ?_, g5⟩
    by_cases e:i=(l+h)/2
    ·rw[e];exact z
    ·exact R.tr _ _ _ (N'.lt (by lia)) (N'.lt (i:=lo+(l+h)/2) (by lia)) (N'.lt (by lia)) (U' (lo+i) (lo+(l+h)/2) (by lia) (by lia) (by lia)) z
   ·have z' := R.asy _ _ (N'.lt (by lia)) (N'.lt (by lia)) z
    refine wpS_pure ⟨rfl,l,(l+h)/2,rfl,by lia,by lia,by lia,g4,fun i i1 i2=>?_⟩
    by_cases e:i=(l+h)/2
    ·rw[e];exact z'
    ·exact R.tr _ _ _ (N'.lt (by lia)) (N'.lt (i:=lo+(l+h)/2) (by lia)) (N'.lt (by lia)) z' (U' (lo+(l+h)/2) (lo+i) (by lia) (by lia) (by lia))
  ·rintro c t2 ⟨rfl, l, h, rfl, g1, g2, g3, g4, g5⟩
   exact⟨rfl,l,h,rfl,by lia,g4,fun i i1 i2=>g5 i (by lia) i2⟩
  ·rintro c t2 ⟨rfl, l, h, rfl, g1, g2, g3⟩
   show wpS (model prog w) A E s (moveDown' (lo+k) (lo+l) >>= fun _=>pure (ForInStep.yield (none,()))) _ t2
   rw[moveDown'_eq]
   refine wpS_bind (wpS_modify (wpS_pure ⟨rfl,_,N'.bub (src:=lo+k) (d:=lo+k-(lo+l)) (by lia) (by lia),⟨K'.p,fun p hp=>?_⟩,?_⟩))
   ·rw [bub_lab (by lia) (by lia) (by lia), if_neg (by lia), if_neg (by lia)]
    exact K'.l p hp
   ·rw [show min (k + 1) f = k + 1 by lia]
    intro i j i1 hij hj
    have el:lo+k-(lo+k-(lo+l))=lo+l:=by lia
    have F2:∀ i,lo<=i->i<lo+l->r (lab ls' (lo+k)) (lab ls' i)=false:=fun i i1 i2=>by
     have:=g2 (i-lo) (by lia)
     rwa [show lo+(i-lo)=i by lia] at this
    have F3:∀ i,lo+l<=i->i<lo+k->r (lab ls' i) (lab ls' (lo+k))=false:=fun i i1 i2=>by
     have:=g3 (i-lo) (by lia) (by lia)
     rwa [show lo+(i-lo)=i by lia] at this
    rw[bub_lab (by lia) (by lia) (by lia),bub_lab (by lia) (by lia) (by lia),el]
    by_cases c1:i=lo+l
    ·rw [if_neg (show ¬ j = lo + l by lia), if_pos (show lo + l < j /\ j <= lo + k by lia), if_pos c1]
     exact F3 _ (by lia) (by lia)
    ·rw [if_neg c1]
     by_cases c2:j=lo+l
     ·rw [if_pos c2, if_neg (show ¬ (lo + l < i /\ i <= lo + k) by lia)]
      exact F2 _ i1 (by lia)
     ·rw [if_neg c2]
      by_cases c3:lo+l<i/\i<=lo+k
      ·rw [if_pos c3, if_pos (show lo + l < j /\ j <= lo + k by lia)]
       exact U' _ _ (by lia) (by lia) (by lia)
      ·rw [if_neg c3]
       by_cases c4:lo+l<j/\j<=lo+k
       ·rw[if_pos c4];exact U' _ _ (by lia) (by lia) (by lia)
       ·rw[if_neg c4];exact U' _ _ (by lia) (by lia) (by lia)
 ·rintro c t' ⟨rfl, ls', N', K', U'⟩
  rw[show min (max (max m 1) f) f=f by lia] at U'
  exact⟨rfl,ls',N',K',U'⟩
 ·exact U i j i1 i2 (by lia)
 ·rintro c t' ⟨rfl, ls', N', K', U'⟩
  exact wpS_pure (q ls' t' N' K' U')
end
end L2.Srt
namespace L2.Srt
open PySem PyProof.Rows
def Ch(r:Nat->Nat->Bool)(ls:Array Nat):Nat->List (Nat × Nat)->Nat->Prop
 | a,[],b=>a=b
 | a,(s,m)::rest,b=>s=a/\1<=m/\Seg r ls s m/\Ch r ls (a+m) rest b
def prs(p:Array (Nat × Nat × Nat)):List (Nat × Nat):=p.toList.map fun x=>(x.1,x.2.1)
section
variable {r:Nat->Nat->Bool} {ls ls':Array Nat}
private theorem Ch.len:∀ {l:List (Nat × Nat)} {a b:Nat},Ch r ls a l b->a+l.length<=b
 | [],a,b,h=>by rw[show a=b from h];exact Nat.le_refl _
 | (s,m)::l,a,b,h=>by have:=h.2.2.2.len;have:=h.2.1;rw[length_cons];lia
private theorem Ch.split:∀ {l1 l2:List (Nat × Nat)} {a b:Nat},Ch r ls a (l1++l2) b->∃ c,Ch r ls a l1 c/\Ch r ls c l2 b
 | [],l2,a,b,h=>⟨a,rfl,h⟩
 | (s,m)::l1,l2,a,b,h=>by
  obtain⟨c,h1,h2⟩:=h.2.2.2.split
  exact⟨c,⟨h.1,h.2.1,h.2.2.1,h1⟩,h2⟩
private theorem Ch.join:∀ {l1 l2:List (Nat × Nat)} {a b c:Nat},Ch r ls a l1 c->Ch r ls c l2 b->Ch r ls a (l1++l2) b
 | [],l2,a,b,c,h,g=>by rw[show a=c from h];exact g
 | (s,m)::l1,l2,a,b,c,h,g=>⟨h.1,h.2.1,h.2.2.1,h.2.2.2.join g⟩
private theorem Seg.same{s m:Nat}(h:Seg r ls s m)(e:∀ k,s<=k->k<s+m->lab ls' k=lab ls k):Seg r ls' s m:=fun i j i1 i2 i3=>by
 rw[e i i1 (by lia),e j (by lia) i3];exact h i j i1 i2 i3
private theorem Ch.same:∀ {l:List (Nat × Nat)} {a b:Nat},Ch r ls a l b->(∀ k,a<=k->k<b->lab ls' k=lab ls k)->Ch r ls' a l b
 | [],a,b,h,_=>h
 | (s,m)::l,a,b,h,e=>by
  have z:=h.2.2.2.len
  have hsa:=h.1
  exact⟨h.1,h.2.1,h.2.2.1.same fun k k1 k2=>e k (by lia) (by lia),h.2.2.2.same fun k k1 k2=>e k (by lia) k2⟩
end
section
variable {prog:Program} {w:World} {A:Around} {E:Value->Shared->Prop} {s:Shared} {n:Nat} {item:Nat->Keyed} {kd:SortKind} {r:Nat->Nat->Bool} {ls:Array Nat} {t:SortSt}
private theorem mat_ch(R:WRule prog w A s n item kd r)(N:Nw n item kd ls t){lo i:Nat}(hlo:lo<=n)(C:Ch r ls 0 (prs (pendingOf t)) lo)(hi:i+1<(pendingOf t).size){Q:Bool->SortSt->Prop}
  (q:∀ ls' t',Nw n item kd ls' t'->Ch r ls' 0 (prs (pendingOf t')) lo->(pendingOf t').size+1=(pendingOf t).size->(∀ k,lo<=k->lab ls' k=lab ls k)->Q true t'):wpS (model prog w) A E s (mergeAt' i) Q t:=by
 have hl:(pendingOf t).toList.length=(pendingOf t).size:=Array.length_toList
 have e1:(pendingOf t).toList=(pendingOf t).toList.take i++(pendingOf t)[i]::(pendingOf t)[i+1]::(pendingOf t).toList.drop (i+2):=by
  conv=>lhs;rw[<- take_append_drop i (pendingOf t).toList]
  congr 1
  rw[drop_eq_getElem_cons (by lia),drop_eq_getElem_cons (by lia)]
  simp
 rcases ha:(pendingOf t)[i] with ⟨sa,na,p⟩
 rcases hb:(pendingOf t)[i+1] with ⟨sb,nb,p2⟩
 rw[ha,hb] at e1
 have C':=C
 unfold prs at C'
 rw[e1,map_append] at C'
 obtain⟨c,c1,c2⟩:=C'.split
 obtain⟨rfl,na1,sga,c3⟩:=c2
 obtain⟨rfl,nb1,sgb,c4⟩:=c3
 dsimp only at na1 nb1 sga sgb c4
 have z4:=c4.len
 refine mat R N (by rw[Array.getElem?_eq_getElem (by lia),ha]) (by rw[Array.getElem?_eq_getElem (by lia),hb]) rfl na1 nb1 (by lia) sga sgb fun ls' t' N' P' S' G'=>?_
 have e2:(pendingOf t').toList=(pendingOf t).toList.take i++(sa,na+nb,p)::(pendingOf t).toList.drop (i+2):=by
  rw[P',Array.toList_eraseIdxIfInBounds,Array.toList_setIfInBounds]
  have hti:((pendingOf t).toList.take i).length=i:=by rw[length_take];lia
  generalize (pendingOf t).toList.take i=l1 at e1 hti ⊢
  generalize (pendingOf t).toList.drop (i+2)=l2 at e1 ⊢
  rw[e1,List.set_append_right _ _ (by lia),hti,Nat.sub_self,List.set_cons_zero,List.eraseIdx_append_of_length_le (by lia),hti,Nat.add_sub_cancel_left]
  rfl
 have hsz:(pendingOf t').size+1=(pendingOf t).size:=by
  rw[<- Array.length_toList,e2,length_append,length_cons,length_take,length_drop]
  lia
 refine q ls' t' N' ?_ hsz fun k hk=>S' k (.inr (Nat.le_trans (by lia) hk))
 unfold prs
 rw[e2,map_append]
 refine Ch.join (c1.same fun k k1 k2=>S' k (.inl k2)) ⟨rfl,Nat.le_trans na1 (Nat.le_add_right ..),G',?_⟩
 rw[<- Nat.add_assoc]
 exact c4.same fun k k1 k2=>S' k (.inr k1)
private theorem ite_dec{c:Prop}[Decidable c]{x:Nat}:(if c then x-1 else x)<=x:=by split<;>lia
private theorem prs_mod{p:Array (Nat × Nat × Nat)}{i g:Nat}:prs (p.modify i fun x=>(x.1,x.2.1,g))=prs p:=by
 unfold prs
 rw[Array.toList_modify]
 refine List.ext_getElem? fun k=>?_
 rw[getElem?_map,getElem?_map,List.getElem?_modify]
 cases p.toList[k]? with
 | none=>rfl
 | some x=>by_cases h:i=k<;>simp[h]
private theorem all_l(R:WRule prog w A s n item kd r)(N:Nw n item kd ls t)(hp:pendingOf t=#[])(h2:2<=n){Q:Unit->SortSt->Prop}(q:∀ ls' t',arrOf t'=ls'.map item->failedOf t'=none->ls'.Perm (Array.range n)->Seg r ls' 0 n->Q () t'):wpS (model prog w) A E s sortRuns' Q t:=by
 rw[sortRuns'_eq]
 refine wpS_bind (wpS_get ?_)
 have esz:(arrOf t).size=n:=by rw[N.arr,Array.size_map,N.size]
 dsimp only
 simp only[esz]
 generalize minRun' n n 0=mr
 refine wpS_bind (wpS_mono (wpS_forRange (fun x c t'=>∃ (ls':Array Nat) (lo:Nat),c=(none,lo)/\Nw n item kd ls' t'/\Ch r ls' 0 (prs (pendingOf t')) lo/\lo<=n/\x<=lo) (Q:=fun c t'=>∃ ls':Array Nat,c=(none,n)/\Nw n item kd ls' t'/\Ch r ls' 0 (prs (pendingOf t')) n) ?_ ?_ ⟨ls,0,rfl,N,?_,by lia,by lia⟩) ?_)
 ·rintro x c t' _ hx ⟨ls1, lo, rfl, N1, C1, l1, l2⟩
  dsimp only
  refine wpS_ite (fun e=>?_) (fun e=>?_)
  ·obtain rfl : lo = n := by lia
   exact wpS_pure ⟨ls1,rfl,N1,C1⟩
  ·refine wpS_bind (run_l R N1 (by lia) (by lia) fun m ls2 t2 m1 m2 N2 K2 S2 => ?_)
   dsimp only
   have C2:Ch r ls2 0 (prs (pendingOf t2)) lo:=by rw[K2.p];exact C1.same fun k _ hk=>K2.l k hk
   have close:∀ (m:Nat) (l3:Array Nat) (t3:SortSt),1<=m->m<=n-lo->Nw n item kd l3 t3->Ch r l3 0 (prs (pendingOf t3)) lo->Seg r l3 lo m ->
     ∃ (l':Array Nat) (lo':Nat),((none,lo+m):Option Unit × Nat)=(none,lo')/\Nw n item kd l' (setPending t3 ((pendingOf t3).push (lo,m,0)))/\Ch r l' 0 (prs (pendingOf (setPending t3 ((pendingOf t3).push (lo,m,0))))) lo'/\lo'<=n/\x+1<=lo':=fun m l3 t3 m1 m2 N3 C3 S3=>by
    refine⟨l3,lo+m,rfl,⟨N3.arr,N3.kd,N3.ok,N3.perm⟩,?_,by lia,by lia⟩
    show Ch r l3 0 (prs ((pendingOf t3).push (lo,m,0))) (lo+m)
    unfold prs at C3 ⊢
    rw[Array.toList_push,map_append]
    exact C3.join ⟨rfl,m1,S3,rfl⟩
   have step:∀ (pw:Nat) (m:Nat) (l3:Array Nat) (t3:SortSt),Nw n item kd l3 t3->Ch r l3 0 (prs (pendingOf t3)) lo->Seg r l3 lo m->lo+m<=n->∀ (i:Nat) (Q:Bool->SortSt->Prop),i+1<(pendingOf t3).size->(∀ l4 t4,Nw n item kd l4 t4->Ch r l4 0 (prs (pendingOf t4)) lo->Seg r l4 lo m->Q true t4)->wpS (model prog w) A E s (mergeAt' i) Q t3:=fun pw m l3 t3 N3 C3 S3 hm i Q hi hQ =>
    mat_ch R N3 l1 C3 hi fun l4 t4 N4 C4 _ K4=>hQ l4 t4 N4 C4 (S3.same fun k k1 _=>K4 k k1)
   refine wpS_ite (fun g=>wpS_bind (wpS_lift (wpAny_rule ⟨rfl,wpS_bind (put_l R N2 (by lia) (by lia) S2 fun l3 t3 N3 K3 S3=>?_)⟩))) (fun g=>?_)
   case' refine_1 =>
    simp only[Bool.not_true,Bool.false_eq_true,if_false]
    have C3:Ch r l3 0 (prs (pendingOf t3)) lo:=by rw[K3.p];exact C2.same fun k _ hk=>K3.l k hk
    have m3:1<=min (n-lo) mr:=by lia
    have m4:min (n-lo) mr<=n-lo:=Nat.min_le_left ..
    generalize min (n-lo) mr=f at m3 m4 S3 ⊢
    clear N2 K2 S2 C2 K3
   case' refine_2 =>
    have N3:=N2
    have C3:=C2
    have S3:=S2
    have m3:=m1
    have m4:=m2
    clear N2 K2 S2 C2
    generalize ls2=l3 at *
    generalize t2=t3 at *
    generalize m=f at *
   all_goals
    refine wpS_bind (wpS_get ?_)
    cases hbk:(pendingOf t3).back? with
    | none=>exact wpS_bind (wpS_modify (wpS_pure (close f l3 t3 m3 m4 N3 C3 S3)))
    | some y =>
     obtain⟨s1,n1,p1⟩:=y
     dsimp only
     generalize power' n (2*s1+n1) (2*s1+n1+n1+f) n=pw
     refine wpS_bind (wpS_mono (wpS_forRange (fun x c t4=>c=(none,())/\∃ l4,Nw n item kd l4 t4/\Ch r l4 0 (prs (pendingOf t4)) lo/\Seg r l4 lo f) (Q:=fun c t4=>c=(none,())/\∃ l4,Nw n item kd l4 t4/\Ch r l4 0 (prs (pendingOf t4)) lo/\Seg r l4 lo f) ?_ (fun _ _ h=>h) ⟨rfl,l3,N3,C3,S3⟩) ?_)
     ·rintro x c t4 _ _ ⟨rfl, l4, N4, C4, S4⟩
      refine wpS_bind (wpS_get ?_)
      by_cases hsz:(pendingOf t4).size > 1
      ·rw [if_pos hsz, Array.getElem?_eq_getElem (by lia)]
       rcases(pendingOf t4)[(pendingOf t4).size-2] with ⟨a,b,older⟩
       dsimp only
       refine wpS_ite (fun _=>wpS_pure ⟨rfl,l4,N4,C4,S4⟩) (fun _=>?_)
       refine wpS_bind (step pw f l4 t4 N4 C4 S4 (by lia) _ _ (by lia) fun l5 t5 N5 C5 S5=>?_)
       exact wpS_pure ⟨rfl,l5,N5,C5,S5⟩
      ·rw [if_neg hsz]
       exact wpS_pure ⟨rfl,l4,N4,C4,S4⟩
     ·rintro c t4 ⟨rfl, l4, N4, C4, S4⟩
      dsimp only
      refine wpS_bind (wpS_modify (wpS_bind (wpS_modify (wpS_pure (close f l4 _ m3 m4 ⟨N4.arr,N4.kd,N4.ok,N4.perm⟩ ?_ S4)))))
      show Ch r l4 0 (prs ((pendingOf t4).modify ((pendingOf t4).size-1) fun x=>(x.1,x.2.1,pw))) lo
      rw[prs_mod]
      exact C4
 ·rintro c t' ⟨ls1, lo, rfl, N1, C1, l1, l2⟩
  obtain rfl:lo=n:=by lia
  exact⟨ls1,rfl,N1,C1⟩
 ·rw[hp];rfl
 ·rintro c t' ⟨ls1, rfl, N1, C1⟩
  dsimp only
  have z0:=C1.len
  have zp:∀ t2:SortSt,(prs (pendingOf t2)).length=(pendingOf t2).size:=fun t2=>by unfold prs;rw[length_map,Array.length_toList]
  rw[zp] at z0
  refine wpS_bind (wpS_mono (wpS_forRange (fun x c t2=>c=(none,())/\∃ l2,Nw n item kd l2 t2/\Ch r l2 0 (prs (pendingOf t2)) n/\(pendingOf t2).size+x<=n) (Q:=fun c t2=>c=(none,())/\∃ l2,Nw n item kd l2 t2/\Ch r l2 0 (prs (pendingOf t2)) n/\(pendingOf t2).size<=1) ?_ ?_ ⟨rfl,ls1,N1,C1,by lia⟩) ?_)
  ·rintro x c t2 _ hx ⟨rfl, l2, N2, C2, zx⟩
   refine wpS_bind (wpS_get ?_)
   refine wpS_ite (fun h=>wpS_pure ⟨rfl,l2,N2,C2,h⟩) (fun h=>?_)
   refine wpS_bind (mat_ch R N2 (Nat.le_refl _) C2 ?_ fun l3 t3 N3 C3 z3 _=>wpS_pure ⟨rfl,l3,N3,C3,by lia⟩)
   exact Nat.lt_of_le_of_lt (Nat.add_le_add_right ite_dec 1) (by lia)
  ·rintro c t2 ⟨rfl, l2, N2, C2, zx⟩
   exact⟨rfl,l2,N2,C2,by lia⟩
  ·rintro c t2 ⟨rfl, l2, N2, C2, zx⟩
   rw[<- zp] at zx
   refine wpS_pure (q l2 t2 N2.arr N2.ok N2.perm ?_)
   revert C2 zx
   generalize prs (pendingOf t2)=l
   intro C2 zx
   match l,zx with
   | [],_=>exact absurd (show 0=n from C2) (by lia)
   | [(s1,m1)],_ =>
    obtain⟨rfl,_,S,e⟩:=C2
    have e:0+m1=n:=e
    rw[Nat.zero_add] at e
    rw[<- e];exact S
end
end L2.Srt
namespace L2.Srt
open PySem PyProof.Rows
section
variable {prog:Program} {w:World} {A:Around} {E:Value->Shared->Prop} {s:Shared} {n:Nat} {item:Nat->Keyed} {kd:SortKind} {r:Nat->Nat->Bool} {ls:Array Nat} {t:SortSt}
private theorem Rule.weak(R:Rule prog w A s n item kd r):WRule prog w A s n item kd fun a b=>!decide (a=b)&&r a b where
 asy:=fun a b ha hb h=>by
  by_cases e:a=b
  ·simp[e] at h
  ·have e' : ¬ b = a := fun z => e z.symm
   simp[e] at h
   have:=R.tot b a hb ha e'
   rw[h] at this
   simp[this]
 tr := fun a b c ha hb hc h1 h2 => by
  by_cases e1:b=a
  ·rw[e1] at h2;exact h2
  ·by_cases e2 : c = b
   ·rw[e2];exact h1
   ·by_cases e3 : c = a
    ·simp[e3]
    ·simp [e1] at h1
     simp[e2] at h2
     simp[e3]
     have g1:=R.tot b a hb ha e1
     have g2:=R.tot c b hc hb e2
     have g3:=R.tot c a hc ha e3
     rw[h1] at g1
     rw[h2] at g2
     have g4:=R.tr a b c ha hb hc (by simpa using g1.symm) (by simpa using g2.symm)
     rw[g3,g4];rfl
 cmp:=fun a b ha hb h E Q q=>R.cmp a b ha hb h E Q (by simpa [h] using q)
end
end L2.Srt
namespace L2.Srt
open PySem PyProof.Rows
abbrev pairAt(vs:List Value):Nat->Keyed:=fun i=>(vs.getD i .none,vs.getD i .none)
private theorem range_pairs(vs:List Value):vs.toArray.zip vs.toArray=(Array.range vs.length).map (pairAt vs):=by
 refine Array.ext_getElem? fun k=>?_
 rw[Array.getElem?_map]
 by_cases h:k<vs.length
 ·have e1 : (Array.range vs.length)[k]? = some k := by rw [Array.getElem?_range, if_pos h]
  rw[e1]
  have e2:(vs.toArray.zip vs.toArray)[k]?=some (vs[k],vs[k]):=by
   rw[Array.getElem?_eq_getElem (by simpa using h)]
   simp
  rw[e2]
  simp[pairAt,getD_eq_getElem?_getD,h]
 ·rw [Array.getElem?_eq_none (by simp; lia), Array.getElem?_eq_none (by simp; lia)]
  rfl
section
variable {prog:Program} {w:World} {A:Around} {E:Value->Shared->Prop} {s:Shared} {r:Nat->Nat->Bool} {kd:SortKind}
abbrev during(h:Heap)(a:Addr)(vs:List Value):Heap:=((h.update a (Obj.mapSeq fun _=>#[])).push (seqObj "tuple" vs.toArray 0)).push (seqObj "list" #[] 0)
private theorem inPlace{a:Addr}{vs:List Value}{k:Nat}(at0:s.heap.get? a=some (seqObj "list" vs.toArray k))(h64:vs.length<2000)
  (hk:2<=vs.length->∀ (E:Value->Shared->Prop) (Q:SortKind->Shared->Prop),Q kd { s with heap:=during s.heap a vs }->wpAny (model prog w) A (keyKind' vs.toArray) Q E { s with heap:=during s.heap a vs })
  (hR:2<=vs.length->WRule prog w A { s with heap:=during s.heap a vs } vs.length (pairAt vs) kd r) {Q:Fin->Shared->Prop}
  (q:∀ ls:Array Nat,ls.Perm (Array.range vs.length)->Seg r ls 0 vs.length->Q (.done (.ret .none)) { s with heap:=sortedHeap s.heap a vs (ls.map fun i=>vs.getD i .none) }) :
  wpAny (model prog w) A (Builtin.«list.sort» ⟨[.ref a],[]⟩) Q E s:=by
 have la:=Heap.lt_size at0
 obtain⟨e1,at1⟩:∃ e1,(s.heap.update a (Obj.mapSeq fun _=>#[])).get? a=some (seqObj "list" #[] e1):=⟨_,get?_update_seq at0 _⟩
 have at2:(during s.heap a vs).get? a=some (seqObj "list" #[] e1):=by
  have n1:a≠((s.heap.update a (Obj.mapSeq fun _=>#[])).push (seqObj "tuple" vs.toArray 0)).objs.size:=by rw[size_push',Heap.size_update];exact Nat.ne_of_lt (Nat.lt_succ_of_lt la)
  have n2:a≠(s.heap.update a (Obj.mapSeq fun _=>#[])).objs.size:=by rw[Heap.size_update];exact Nat.ne_of_lt la
  exact(Heap.get?_push_ne _ _ _ n1).trans ((Heap.get?_push_ne _ _ _ n2).trans at1)
 rw[list_sort_plain]
 refine wpAny_bind (listItems_at at0 rfl ?_)
 refine wpAny_bind (listUpdate_at at0 rfl (wpAny_bind (seqEpoch_at at1 rfl ?_)))
 refine wpAny_bind (wpAny_newTuple (wpAny_bind (wpAny_newList (wpAny_holding ?_))))
 show wpAny (model prog w) A _ Q E { s with heap:=during s.heap a vs }
 dsimp only
 have fin:∀ (t:SortSt) (ls:Array Nat),arrOf t=ls.map (pairAt vs)->failedOf t=none->ls.Perm (Array.range vs.length)->Seg r ls 0 vs.length ->
   wpAny (model prog w) A (do
    let touched:=(<- seqEpoch a) != e1
    Builtin.List.listUpdate (.ref a) fun _=>(arrOf t).map (·.2)
    if let some e:=failedOf t then rule "list.sort.comparison-raised";throw e
    if touched then rule "list.sort.modified";raiseError "ValueError" "list modified during sort"
    ret .none) Q E { s with heap:=during s.heap a vs }:=fun t ls h1 h2 h3 h4=>by
  have ea:(arrOf t).map (·.2)=ls.map fun i=>vs.getD i .none:=by rw[h1,Array.map_map];rfl
  have es:((arrOf t).map (·.2)).size<=2000:=by rw[ea,Array.size_map,h3.size_eq,Array.size_range];lia
  refine wpAny_bind (seqEpoch_at at2 rfl ?_)
  refine wpAny_bind (listUpdate_at at2 rfl ?_ (hsz2:=by rw[sizeLine_eq];exact Nat.le_trans es (by decide)))
  rw[h2,ea]
  simp only[bne_self_eq_false,Bool.false_eq_true,if_false]
  exact wpAny_pure (q ls h3 h4)
 by_cases c:vs.toArray.size<2
 ·rw [if_pos c, if_pos c]
  refine wpAny_bind (wpAny_pure ?_)
  rw[StateT.run_pure]
  refine wpAny_bind (wpAny_pure (fin _ (Array.range vs.length) (range_pairs vs) rfl (Array.Perm.refl _) fun i j i1 hij hj=>?_))
  have:vs.length<2:=by simpa using c
  lia
 ·rw [if_neg c, if_neg c]
  have h2:2<=vs.length:=by simpa using c
  refine wpAny_bind (hk h2 _ _ ?_)
  have N0:Nw vs.length (pairAt vs) kd (Array.range vs.length) (SortSt.mk' kd (vs.toArray.zip vs.toArray) #[] 7 none):=⟨range_pairs vs,rfl,rfl,Array.Perm.refl _⟩
  refine wpAny_bind (wpAny_mono (all_l (hR h2) N0 rfl h2 (Q:=fun _ t=>∃ ls:Array Nat,arrOf t=ls.map (pairAt vs)/\failedOf t=none/\ls.Perm (Array.range vs.length)/\Seg r ls 0 vs.length) fun ls t a1 a2 a3 a4=>⟨ls,a1,a2,a3,a4⟩) ?_ fun _ _ e=>e)
  rintro⟨_,t⟩ s' ⟨rfl,ls,a1,a2,a3,a4⟩
  exact fin t ls a1 a2 a3 a4
private theorem sortedAnyW{l:Addr}{vs:List Value}(hl:s.heap.IsList l vs.toArray)(h64:vs.length<2000)
    (hk:2<=vs.length->∀ (h':Heap),(∀ b o,s.heap.get? b=some o->h'.get? b=some o)->∀ (B:Around),B.units<=A.units+3->∀ (E:Value->Shared->Prop) (Q:SortKind->Shared->Prop),Q kd { s with heap:=h' }->wpAny (model prog w) B (keyKind' vs.toArray) Q E { s with heap:=h' })
    (hR:2<=vs.length->∀ (h':Heap),(∀ b o,s.heap.get? b=some o->h'.get? b=some o)->∀ (B:Around),B.units<=A.units+3->WRule prog w B { s with heap:=h' } vs.length (pairAt vs) kd r) {Q:Value->Shared->Prop}
    (q:∀ ls:Array Nat,ls.Perm (Array.range vs.length)->Seg r ls 0 vs.length->Q (.ref (s.heap.objs.size+1)) { s with heap:=sortedAll s.heap vs (ls.map fun i=>vs.getD i .none) }) :
    wpAny (model prog w) A (call (.builtin "sorted") [.ref l]) Q E s:=by
  refine Calls.call_function_entry kind_sorted plain_sorted entry_sorted (args_sorted1 _) ?_
  unfold Builtin.«sorted»
  refine wpAny_bind (m:=checkCount "sorted" 1 1 _) (wpAny_pure (wpAny_bind (collect_list hl (wpAny_bind (wpAny_newList ?_)))))
  have z1:((s.heap.push (seqObj "list" #[] 0)).update s.heap.objs.size (Obj.mapSeq (·++vs.toArray))).objs.size=s.heap.objs.size+1:=by rw[Heap.size_update,size_push']
  let h1:Heap:=((s.heap.push (seqObj "list" #[] 0)).update s.heap.objs.size (Obj.mapSeq (·++vs.toArray))).push (seqObj "list" vs.toArray 0)
  have at1:h1.get? (s.heap.objs.size+1)=some (seqObj "list" vs.toArray 0):=by rw[<- z1];exact Heap.get?_push_size _ rfl
  have old1:∀ b o,s.heap.get? b=some o->h1.get? b=some o:=fun b o e=>by
    have lb:=Heap.lt_size e
    refine Heap.get?_push_of_some _ ?_
    rw[Heap.get?_update_ne _ _ _ _ (Nat.ne_of_lt lb)]
    exact Heap.get?_push_of_some _ e
  have old2:∀ b o,s.heap.get? b=some o->(during h1 (s.heap.objs.size+1) vs).get? b=some o:=fun b o e=>by
    have lb:=Heap.lt_size e
    refine Heap.get?_push_of_some _ (Heap.get?_push_of_some _ ?_)
    rw[Heap.get?_update_ne _ _ _ _ (Nat.ne_of_lt (Nat.lt_succ_of_lt lb))]
    exact old1 b o e
  have eH:∀ out:Array Value,sortedHeap h1 (s.heap.objs.size+1) vs out=sortedAll s.heap vs out:=fun _=>rfl
  have body:∀ B:Around,B.units<=A.units+3->∀ (E:Value->Shared->Prop) (P:Fin->Shared->Prop),(∀ ls:Array Nat,ls.Perm (Array.range vs.length)->Seg r ls 0 vs.length->P (.done (.ret .none)) { s with heap:=sortedAll s.heap vs (ls.map fun i=>vs.getD i .none) }) ->
      wpAny (model prog w) B (Builtin.«list.sort» ⟨[.ref (s.heap.objs.size+1)],[]⟩) P E { s with heap:=h1 }:=fun B hB E P p =>
    inPlace (s:={ s with heap:=h1 }) at1 h64 (fun h2 E Q q=>hk h2 _ old2 B hB E Q q) (fun h2=>hR h2 _ old2 B hB) fun ls a1 a2=>by
      show P _ { s with heap:=sortedHeap h1 (s.heap.objs.size+1) vs _ }
      rw[eH]
      exact p ls a1 a2
  show wpAny _ _ _ _ _ { s with heap:=h1 }
  rw[z1]
  clear_value h1
  refine wpAny_bind (wpAny_holding (wpAny_call_entry slot_list_sort ⟨_,at1,rfl⟩ entry_list_sort (body _ ?_ _ _ fun ls a1 a2=>⟨_,rfl,wpAny_pure ⟨_,rfl,q ls a1 a2⟩⟩) (args_list_sort _)))
  show A.units+1+1<=A.units+3
  lia
private theorem sortedAny{l:Addr}{vs:List Value}(hl:s.heap.IsList l vs.toArray)(h64:vs.length<2000)
  (hk:2<=vs.length->∀ (h':Heap),(∀ b o,s.heap.get? b=some o->h'.get? b=some o)->∀ (B:Around),B.units<=A.units+3->∀ (E:Value->Shared->Prop) (Q:SortKind->Shared->Prop),Q kd { s with heap:=h' }->wpAny (model prog w) B (keyKind' vs.toArray) Q E { s with heap:=h' })
  (hR:2<=vs.length->∀ (h':Heap),(∀ b o,s.heap.get? b=some o->h'.get? b=some o)->∀ (B:Around),B.units<=A.units+3->Rule prog w B { s with heap:=h' } vs.length (pairAt vs) kd r) {Q:Value->Shared->Prop}
  (q:∀ ls:Array Nat,ls.Perm (Array.range vs.length)->Up r ls vs.length->Q (.ref (s.heap.objs.size+1)) { s with heap:=sortedAll s.heap vs (ls.map fun i=>vs.getD i .none) }) :
  wpAny (model prog w) A (call (.builtin "sorted") [.ref l]) Q E s :=
 sortedAnyW hl h64 hk (fun h2 h' o B hB=>(hR h2 h' o B hB).weak) fun ls h4 h5=>q ls h4 fun i j hij hj=>by
  have R:=hR (by lia) s.heap (fun _ _ e=>e) A (by lia)
  have hs:ls.size=vs.length:=by rw[h4.size_eq,Array.size_range]
  have hne:lab ls i≠lab ls j:=nd_ne (perm_nodup h4) hij (by lia)
  have z:=h5 i j (by lia) hij (by lia)
  have hne':¬ lab ls j=lab ls i:=fun e=>hne e.symm
  simp[hne'] at z
  rw[R.tot _ _ (perm_lt h4 (mem_lab (by lia))) (perm_lt h4 (mem_lab (by lia))) hne,z];rfl
end
end L2.Srt
namespace L2
open PySem PySem.Spec PyProof.Rows PySem.SeqAt
private theorem ints_at:∀ {vs:List Value} {ns:List Int},IntsAre vs ns->∀ {i:Nat},i<vs.length->∃ t,vs.getD i .none=.int (ns.getD i 0) t
 | _,_,.cons n t h,0,_=>⟨t,rfl⟩
 | _,_,.cons n t h,i+1,hi=>by
  obtain⟨u,e⟩:=ints_at h (i:=i) (by simpa using hi)
  exact⟨u,by simpa using e⟩
private theorem ints_len:∀ {vs:List Value} {ns:List Int},IntsAre vs ns->vs.length=ns.length
 | _,_,.nil=>rfl
 | _,_,.cons n t h=>by simp[ints_len h]
private theorem ints_pick{vs:List Value}{ns:List Int}(h:IntsAre vs ns):∀ {ls:List Nat},(∀ i∈ls,i<vs.length)->IntsAre (ls.map fun i=>vs.getD i .none) (ls.map fun i=>ns.getD i 0)
 | [],_=>.nil
 | i::ls,hl=>by
  obtain⟨t,e⟩:=ints_at h (hl i (mem_cons_self ..))
  rw[map_cons,map_cons,e]
  exact .cons _ t (ints_pick h fun j hj=>hl j (mem_cons_of_mem _ hj))
private theorem kind_ints:∀ {vs:List Value} {ns:List Int},IntsAre vs ns->2<=vs.length->keyKind' vs.toArray=pure oneType'
 | _::_::_,_,h,_=>keyKind_ints h
 | [],_,_,h=>by simp at h
 | [_],_,_,h=>by simp at h
section
variable {prog:Program} {w:World} {A:Around} {E:Value->Shared->Prop} {s:Shared}
private theorem sorted_intsB{l : Addr}{vs : List Value}{ns : List Int}{Q : Value -> Shared -> Prop}(hl : s.heap.IsList l vs.toArray)(hI : IntsAre vs ns)(h9 : vs.length < 2000)
    (h:∀ (out:Array Value) (ns':List Int),IntsAre out.toList ns'->ns'.Perm ns->ns'.Pairwise (·<=·)->Q (.ref (s.heap.objs.size+1)) { s with heap:=sortedAll s.heap vs out }) :
    wpAny (model prog w) A (call (.builtin "sorted") [.ref l]) Q E s:=by
  have len:=ints_len hI
  refine Srt.sortedAnyW (kd:=oneType') (r:=fun a b=>decide (ns.getD a 0<ns.getD b 0)) hl h9 (fun h2 h' o B hB E Q q=>?_) (fun h2 h' o B hB=>⟨fun a b _ _ z=>?_,fun a b c _ _ _ z1 z2=>?_,fun a b ha hb _ E Q q=>?_⟩) fun ls hp hs=>?_
  · rw [kind_ints hI h2]
    exact wpAny_pure q
  · simp at z ⊢;lia
  · simp at z1 z2 ⊢;lia
  · obtain ⟨t, e1⟩ := ints_at hI ha
    obtain⟨u,e2⟩:=ints_at hI hb
    show wpAny (model prog w) B (keyLt' oneType' (vs.getD a .none) (vs.getD b .none)) Q E _
    rw[e1,e2,keyLt'_oneType]
    exact oneLt_int q
  · have hm : ∀ i ∈ ls.toList, i < vs.length := fun i hi => Srt.perm_lt hp hi
    have hsz:ls.size=vs.length:=by rw[hp.size_eq,Array.size_range]
    refine h _ (ls.toList.map fun i=>ns.getD i 0) (by rw[Array.toList_map];exact ints_pick hI hm) ?_ ?_
    · have e : (List.range vs.length).map (fun i => ns.getD i 0) = ns := by
        refine List.ext_getElem (by simp[len]) fun i h1 h2=>?_
        rw[List.getElem_map,List.getElem_range,getD_eq_getElem?_getD,getElem?_eq_getElem h2];rfl
      have:=(Array.perm_iff_toList_perm.mp hp).map fun i=>ns.getD i 0
      rw[Array.toList_range,e] at this
      exact this
    · rw [List.pairwise_map]
      refine List.pairwise_iff_getElem.mpr fun i j hi hj hij=>?_
      rw[Array.length_toList] at hi hj
      have z:=hs i j (by lia) hij (by lia)
      have ei:=Srt.lab_get (ls:=ls) hi
      have ej:=Srt.lab_get (ls:=ls) hj
      rw[<- Array.getElem?_toList,getElem?_eq_getElem (by rw[Array.length_toList];exact hi)] at ei
      rw[<- Array.getElem?_toList,getElem?_eq_getElem (by rw[Array.length_toList];exact hj)] at ej
      rw[Option.some.inj ei,Option.some.inj ej]
      simp at z
      exact z
end
section
variable {X:Cx} {A:AC}
private theorem call_sortedB:CallR X (.builtin "sorted") (fun xs H Q=>∃ (p:Addr) (ns:List Int),xs=[.ref p]/\SqL X.K H p (ns.map V.int)/\ns.length<2000/\∀ ms:List Int,ms.Perm ns->ms.Pairwise (·<=·)->∀ l,H l=none->Q (.ref l) (upd H l (.lst (ms.map V.int)))):=by
  intro pins s σ H xs us Q I r h
  obtain⟨p,ns,rfl,hq,hn,q⟩:=h
  cases r with
  | cons r rr =>
    cases rr
    cases r
    obtain⟨its,rv,pl,_⟩:=I.list hq
    have hl:=pl.isList
    have hsz:its.length=ns.length:=by have:=rv.length;simpa using this.symm
    refine sorted_intsB hl (intsAre_of rv) (by lia) fun out ms hi hp hs=>?_
    obtain⟨e,he⟩:=sortedAll_at s.heap its out
    have hml:ms.length=ns.length:=hp.length_eq
    have hf:H (s.heap.objs.size+1)=none:=I.hok.fresh (Nat.le_succ _)
    refine⟨.ref (s.heap.objs.size+1),_,I.laid (t':=s.toks) (o:=.lst (ms.map V.int)) (fun b u e=>sortedAll_old e) (Nat.le_succ _) ?_,rfl,q ms hp hs _ hf⟩
    exact⟨by rw[length_map];exact Nat.le_trans (show ms.length<=2000 by lia) (by decide),out.toList,e,vals_of_ints hi,he⟩
def kSortedB:List D->(D->Prop)->Prop:=fun es k=>∃ ns:List Int,es=[.lst (ns.map D.int)]/\ns.length<2000/\∀ ms:List Int,ms.Perm ns->ms.Pairwise (·<=·)->k (.lst (ms.map D.int))
private theorem cr_sortedB:CallRel A (fun xs H Q=>∃ (p:Addr) (ns:List Int),xs=[.ref p]/\SqL A.K H p (ns.map V.int)/\ns.length<2000/\∀ ms:List Int,ms.Perm ns->ms.Pairwise (·<=·)->∀ l,H l=none->Q (.ref l) (upd H l (.lst (ms.map V.int)))) kSortedB:=by
  rintro os n rho sg H ds vs es ws k Q I rs ⟨ns,rfl,hn,q⟩ hQ
  obtain⟨v,rfl,r⟩:=reps1 rs
  obtain⟨a,xs,rfl,sq,rr⟩:=r.lst_inv
  have e:=reps_intsV rr
  subst e
  exact⟨a,ns,rfl,sq.sq,hn,fun ms h1 h2 l hl=>hQ _ _ _ ⟨os,I.newLst reps_ints hl⟩ (q ms h1 h2)⟩
end
end L2
namespace L2.Srt
open PySem PyProof.Rows PySem.SeqAt
section
variable {prog:Program} {w:World} {M:Model} {A:Around} {E:Value->Shared->Prop} {s:Shared}
private theorem wp_mapM{α β:Type}{f:α->Sem β}{g:α->β}:∀ {l:List α} {Q:List β->Shared->Prop},(∀ a∈l,∀ Q:β->Shared->Prop,Q (g a) s->wpAny M A (f a) Q E s)->Q (l.map g) s->wpAny M A (l.mapM f) Q E s
 | [],Q,_,q=>by rw[List.mapM_nil];exact wpAny_pure q
 | a::l,Q,h,q=>by
  rw[List.mapM_cons]
  refine wpAny_bind (h a (mem_cons_self ..) _ (wpAny_bind (wp_mapM (fun b hb=>h b (mem_cons_of_mem _ hb)) (wpAny_pure q))))
private theorem wp_mapA{α β:Type}{f:α->Sem β}{g:α->β}{l:List α}{Q:Array β->Shared->Prop}(h:∀ a∈l,∀ Q:β->Shared->Prop,Q (g a) s->wpAny M A (f a) Q E s)(q:Q (l.map g).toArray s):wpAny M A (l.toArray.mapM f) Q E s:=by
 rw[List.mapM_toArray]
 show wpAny M A (List.toArray <$> l.mapM f) Q E s
 rw[map_eq_pure_bind]
 exact wpAny_bind (wp_mapM h (wpAny_pure q))
private theorem firstOfTuple'_eq(v:Value):firstOfTuple' v=(do
  if (<- typeOf v) != .type "tuple" then return none
  return (<- Builtin.List.listItems v)[0]?):=rfl
def Tup(h:Heap)(v:Value)(p:Value)(rest:List Value):Prop:=∃ a,v=.ref a/\IsTup h a (p::rest).toArray
private theorem Tup.type{v p:Value}{rest:List Value}(t:Tup s.heap v p rest):s.TypeIs v "tuple" := by
 obtain⟨a,rfl,o,ho,hc,_⟩:=t
 exact⟨o,ho,hc⟩
private theorem Tup.items{v p:Value}{rest:List Value}(t:Tup s.heap v p rest){Q:Array Value->Shared->Prop}(q:Q (p::rest).toArray s):wpAny M A (Builtin.List.listItems v) Q E s:=by
 obtain⟨a,rfl,o,ho,hc,n,hd⟩:=t
 exact listItems_at ho hd q
private theorem kind_tuples{vs : List Value}{fst : Value -> Value}{T : String}(h2 : 2 <= vs.length)(ht : ∀ v ∈ vs, ∃ rest, Tup s.heap v (fst v) rest)(hT : ∀ v ∈ vs, s.TypeIs (fst v) T){Q : SortKind -> Shared -> Prop}(q : Q (tuples' (Value.type T != Value.type "tuple")) s) : wpAny M A (keyKind' vs.toArray) Q E s := by
  rw[keyKind'_eq]
  refine wpAny_bind (wp_mapA (g:=fun v=>some (fst v)) (fun v hv Q q=>?_) ?_)
  · obtain ⟨rest, t⟩ := ht v hv
    rw[firstOfTuple'_eq]
    refine wpAny_bind (wpAny_typeOf t.type ?_)
    have e:(Value.type "tuple" != Value.type "tuple")=false:=by rfl
    rw[e]
    exact wpAny_bind (t.items (wpAny_pure q))
  · have e : (vs.map fun v => some (fst v)).toArray.all (·.isSome) = true := by simp
    rw[if_pos e]
    refine wpAny_bind (wpAny_rule ?_)
    have e2:((vs.map fun v=>some (fst v)).toArray.filterMap id)=(vs.map fst).toArray:=by
      simp[List.filterMap_map]
    rw[e2,oneTypeOnly'_eq]
    refine wpAny_bind (wpAny_bind (wp_mapA (g:=fun _=>Value.type T) (fun v hv Q q=>?_) ?_))
    · obtain ⟨u, hu, rfl⟩ := List.mem_map.mp hv
      exact wpAny_typeOf (hT u hu) q
    · have e3 : ((vs.map fst).map fun _ => Value.type T).toArray[0]? = some (Value.type T) := by
        cases vs with
        | nil=>simp at h2
        | cons v vs=>simp
      have e4:(((vs.map fst).map fun _=>Value.type T).toArray.all (· == Value.type T))=true:=by
        simp only[List.all_toArray,all_map,all_eq_true]
        intro _ _
        show(Value.type T == Value.type T)=true
        simp
      rw[e3]
      dsimp only
      rw[e4]
      exact wpAny_pure (wpAny_pure q)
private theorem keyLt'_tuples(f:Bool)(x y:Value):keyLt' (tuples' f) x y=(do
  let xs <- Builtin.List.listItems x
  let ys <- Builtin.List.listItems y
  for ((p,q),i) in (xs.toList.zip ys.toList).zipIdx do
   if !(<- eqBool p q) then return <- oneLt' (f&&i == 0) p q
  return xs.size<ys.size):=rfl
inductive Lex(A:Around)(s:Shared)(f:Bool)(b:Bool):Nat->List Value->List Value->Prop
 | alike {i:Nat} {p q:Value} {ps qs:List Value}:EqAt A s p q true->Lex A s f b (i+1) ps qs->Lex A s f b i (p::ps) (q::qs)
 | here {i:Nat} {p q:Value} {ps qs:List Value}:EqAt A s p q false->(∀ (prog:Program) (w:World) (E:Value->Shared->Prop) (Q:Bool->Shared->Prop),Q b s->wpAny (model prog w) A (oneLt' (f&&i == 0) p q) Q E s)->Lex A s f b i (p::ps) (q::qs)
private theorem keyLt_lex{f b:Bool}{x y p q:Value}{ps qs:List Value}(tx:Tup s.heap x p ps)(ty:Tup s.heap y q qs)(L:Lex A s f b 0 (p::ps) (q::qs)){Q:Bool->Shared->Prop}(h:Q b s):wpAny (model prog w) A (keyLt' (tuples' f) x y) Q E s:=by
 rw[keyLt'_tuples]
 refine wpAny_bind (tx.items (wpAny_bind (ty.items ?_)))
 refine wpAny_bind (wpAny_forIn_list _ (fun rest c s'=>s'=s/\c.1=none/\∃ i xs ys,rest=(xs.zip ys).zipIdx i/\Lex A s f b i xs ys) (fun c s'=>s'=s/\c.1=some b) ?turn ?fin _ _ ⟨rfl,rfl,0,p::ps,q::qs,by simp,L⟩ |> fun z=>wpAny_mono z ?post fun _ _ e=>e)
 case turn =>
  rintro⟨⟨u,v⟩,k⟩ rest c s' ⟨rfl,hc,i,xs,ys,e,L⟩
  cases L with
  | alike he L =>
   rw[zip_cons_cons,zipIdx_cons] at e
   injection e with e1 e2
   injection e1 with e1 e3
   injection e1 with e4 e5
   subst e3 e4 e5
   refine wpAny_bind (he prog w _ _ ?_)
   simp only[Bool.not_true,Bool.false_eq_true,if_false]
   exact wpAny_pure ⟨rfl,rfl,_,_,_,e2,L⟩
  | here he ho =>
   rw[zip_cons_cons,zipIdx_cons] at e
   injection e with e1 e2
   injection e1 with e1 e3
   injection e1 with e4 e5
   subst e3 e4 e5
   refine wpAny_bind (he prog w _ _ ?_)
   simp only[Bool.not_false,if_true]
   exact wpAny_bind (ho prog w _ _ (wpAny_pure ⟨rfl,rfl⟩))
 case fin =>
  rintro c s' ⟨_,_,i,xs,ys,e,L⟩
  cases L<;>(rw[zip_cons_cons,zipIdx_cons] at e;cases e)
 case post =>
  rintro c s' ⟨rfl,hc⟩
  obtain⟨c1,c2⟩:=c
  simp only at hc
  subst hc
  exact wpAny_pure h
private theorem oneLt_false_int{i j:Int}{t u:Tok}{Q:Bool->Shared->Prop}(h:Q (decide (i<j)) s):wpAny (model prog w) A (oneLt' false (.int i t) (.int j u)) Q E s:=by
 rw[oneLt'_eq]
 simp only[Bool.false_eq_true,if_false]
 exact wpAny_bind (show wpAny (model prog w) A (compareOp .Lt (.int i t) (.int j u)) _ _ _ from PyProof.Rows.lt_int (wpAny_truthy_bool h))
private theorem oneLt_false_tup{a b:Addr}{xs ys:Array Value}{ns ms:List Int}(ha:IsTup s.heap a xs)(hb:IsTup s.heap b ys)(hi:IntsAre xs.toList ns)(hj:IntsAre ys.toList ms)(hu:A.units<cLine){Q:Bool->Shared->Prop}(h:Q (HT.lexLt ns ms) s):wpAny (model prog w) A (oneLt' false (.ref a) (.ref b)) Q E s:=by
 rw[oneLt'_eq]
 simp only[Bool.false_eq_true,if_false]
 exact wpAny_bind (show wpAny (model prog w) A (compareOp .Lt (.ref a) (.ref b)) _ _ _ from HT.lt_tupInts ha hb hi hj hu (wpAny_truthy_bool h))
private theorem oneLt_any_int(f:Bool){i j:Int}{t u:Tok}{Q:Bool->Shared->Prop}(h:Q (decide (i<j)) s):wpAny (model prog w) A (oneLt' f (.int i t) (.int j u)) Q E s:=by
 cases f with
 | true=>exact oneLt_int h
 | false=>exact oneLt_false_int h
end
end L2.Srt
namespace L2
open PySem PySem.Spec PyProof.Rows PySem.SeqAt
def RowV(X:Cx)(H:Hp)(f:Bool)(y:V):Prop:=∀ pins s σ v,Inv X pins σ H s->RelV y v->∃ p rest,Srt.Tup s.heap v p rest/\s.TypeIs p (if f then "int" else "tuple")
def CmpV(X:Cx)(H:Hp)(f:Bool)(y z:V)(b:Bool):Prop:=∀ pins s σ u v,Inv X pins σ H s->RelV y u->RelV z v->∀ A:Around,A.units+60<cLine->∃ p ps q qs,Srt.Tup s.heap u p ps/\Srt.Tup s.heap v q qs/\Srt.Lex A s f b 0 (p::ps) (q::qs)
def rSortT(X:Cx):List V->Hp->VK->Prop:=fun xs H Q=>∃ (p:Addr) (ys:List V) (f:Bool) (r:Nat->Nat->Bool),xs=[.ref p]/\SqL X.K H p ys/\ys.length<900 /\
 (∀ a b,a<ys.length->b<ys.length->a≠b->r a b=!r b a)/\(∀ a b c,a<ys.length->b<ys.length->c<ys.length->r a b=true->r b c=true->r a c=true) /\
 (∀ a,a<ys.length->RowV X H f (ys.getD a .non))/\(∀ a b,a<ys.length->b<ys.length->a≠b->CmpV X H f (ys.getD a .non) (ys.getD b .non) (r a b)) /\
 ∀ ls:Array Nat,ls.Perm (Array.range ys.length)->Srt.Up r ls ys.length->∀ l,H l=none->Q (.ref l) (upd H l (.lst (ls.toList.map fun i=>ys.getD i .non)))
private theorem Vals.getD{xs:List V}{us:List Value}(h:Vals xs us){i:Nat}(hi:i<xs.length):RelV (xs.getD i .non) (us.getD i .none):=by
 obtain⟨u,e,r⟩:=h.get (getElem?_eq_getElem hi)
 rw[getD_eq_getElem?_getD,getD_eq_getElem?_getD,e,getElem?_eq_getElem hi]
 exact r
private theorem vals_pick{xs:List V}{us:List Value}(h:Vals xs us):∀ {ls:List Nat},(∀ i∈ls,i<xs.length)->Vals (ls.map fun i=>xs.getD i .non) (ls.map fun i=>us.getD i .none)
 | [],_=>.nil
 | i::ls,hl=>.cons (h.getD (hl i (mem_cons_self ..))) (vals_pick h fun j hj=>hl j (mem_cons_of_mem _ hj))
section
variable {X:Cx}
private theorem call_sortT{n:Nat}(hr:Room n X.A):CallR X (.builtin "sorted") (rSortT X):=by
 classical
 intro pins s σ H xs us Q I r h
 obtain⟨p,ys,f,rr,rfl,hq,hn,tot,tr,row,cmp,q⟩:=h
 obtain⟨u,rfl,hu⟩:=vals1 r
 have hu':u=.ref p:=hu
 subst hu'
 obtain⟨its,rv,pl,_⟩:=I.list hq
 have len:=rv.length
 have un:=hr.un
 have ixd:∀ v∈its,∃ i,i<ys.length/\v=its.getD i .none:=fun v hv=>by
  obtain⟨i,hi,e⟩:=List.getElem_of_mem hv
  exact⟨i,by lia,by rw[getD_eq_getElem?_getD,getElem?_eq_getElem hi,e];rfl⟩
 refine Srt.sortedAny (r:=rr) (kd:=tuples' f) pl.isList (by lia) (fun h2 h' keep B hB E Q q=>?_) (fun h2 h' keep B hB=>?_) (fun ls hp hU=>?_)
 ·have I' : Inv X pins σ H { s with heap := h' } := I.kept (t' := s.toks) keep
  have each:∀ v∈its,∃ p rest,Srt.Tup h' v p rest/\Shared.TypeIs { s with heap:=h' } p (if f then "int" else "tuple"):=fun v hv=>by
   obtain⟨i,hi,rfl⟩:=ixd v hv
   exact row i hi pins _ σ _ I' (rv.getD hi)
  refine Srt.kind_tuples (s:={ s with heap:=h' }) (T:=if f then "int" else "tuple") (fst:=fun v=>if h:∃ p rest,Srt.Tup h' v p rest/\Shared.TypeIs { s with heap:=h' } p (if f then "int" else "tuple") then h.choose else v) (by lia) (fun v hv=>?_) (fun v hv=>?_) ?_
  ·have e := each v hv
   obtain⟨rest,t,_⟩:=e.choose_spec
   exact⟨rest,by rw[dif_pos e];exact t⟩
  ·have e := each v hv
   obtain⟨rest,_,t⟩:=e.choose_spec
   show Shared.TypeIs _ (if h:_ then _ else _) _
   rw[dif_pos e];exact t
  ·cases f
   ·exact q
   ·exact q
 ·have I' : Inv X pins σ H { s with heap := h' } := I.kept (t' := s.toks) keep
  refine⟨fun a b ha hb=>tot a b (by lia) (by lia),fun a b c ha hb hc=>tr a b c (by lia) (by lia) (by lia),fun a b ha hb hab E Q q=>?_⟩
  obtain⟨p1,ps,p2,qs,t1,t2,L⟩:=cmp a b (by lia) (by lia) hab pins _ σ _ _ I' (rv.getD (by lia)) (rv.getD (by lia)) B (by lia)
  exact Srt.keyLt_lex t1 t2 L q
 ·obtain ⟨e, he⟩ := sortedAll_at s.heap its (ls.map fun i => its.getD i .none)
  have hf:H (s.heap.objs.size+1)=none:=I.hok.fresh (Nat.le_succ _)
  have hls:∀ i∈ls.toList,i<ys.length:=fun i hi=>by
   have:=(hp.mem_iff).mp (Array.mem_toList_iff.mp hi)
   rw[Array.mem_range] at this
   lia
  rw[<- len] at hp hU
  refine⟨.ref (s.heap.objs.size+1),_,I.laid (t':=s.toks) (o:=.lst (ls.toList.map fun i=>ys.getD i .non)) (fun b u e=>sortedAll_old e) (Nat.le_succ _) ?_,rfl,q ls hp hU _ hf⟩
  refine⟨?_,(ls.toList.map fun i=>its.getD i .none),e,vals_pick rv hls,?_⟩
  ·rw [List.length_map, Array.length_toList, hp.size_eq, Array.size_range]
   exact Nat.le_trans (Nat.le_of_lt hn) (by decide)
  ·have ea : (ls.toList.map fun i => its.getD i .none).toArray = ls.map fun i => its.getD i .none := by rw [<- Array.toList_map, Array.toArray_toList]
   rw[ea]
   exact he
end
inductive SKey where
 | n (i:Int) | t (ns:List Int)
 deriving DecidableEq
def SKey.d:SKey->D
 | .n i=>.int i
 | .t ns=>.tup (ns.map D.int)
def SKey.num:SKey->Bool
 | .n _=>true
 | .t _=>false
def SKey.lt:SKey->SKey->Bool
 | .n i,.n j=>decide (i<j)
 | .t ns,.t ms=>HT.lexLt ns ms
 | _,_=>false
structure SRow where
 key:SKey
 name:Int
 rest:List D
def SRow.d(x:SRow):D:=.tup (x.key.d::.int x.name::x.rest)
def SRow.lt(x y:SRow):Bool:=if x.key=y.key then decide (x.name<y.name) else x.key.lt y.key
private theorem lex_anti:∀ (xs ys:List Int),xs≠ys->HT.lexLt xs ys=!HT.lexLt ys xs
 | [],[],h=>absurd rfl h
 | [],y::ys,_=>rfl
 | x::xs,[],_=>rfl
 | x :: xs, y :: ys, h => by
  rw[HT.lexLt_cons,HT.lexLt_cons]
  by_cases e:x=y
  ·subst e
   rw[if_pos rfl,if_pos rfl]
   exact lex_anti xs ys fun z=>h (by rw[z])
  ·rw [if_neg e, if_neg (Ne.symm e)]
   by_cases l:x<y
   ·rw[decide_eq_true l,decide_eq_false (by lia)];rfl
   ·rw[decide_eq_false l,decide_eq_true (by lia)];rfl
private theorem lex_irr:∀ (xs:List Int),HT.lexLt xs xs=false
 | []=>rfl
 | x::xs=>by rw[HT.lexLt_cons,if_pos rfl];exact lex_irr xs
private theorem lex_trans:∀ (xs ys zs:List Int),HT.lexLt xs ys=true->HT.lexLt ys zs=true->HT.lexLt xs zs=true
 | [],[],_,h,_=>by cases h
 | [],_::_,[],_,h=>by cases h
 | [],_::_,_::_,_,_=>rfl
 | _::_,[],_,h,_=>by cases h
 | _::_,_::_,[],_,h=>by cases h
 | x :: xs, y :: ys, z :: zs, h1, h2 => by
  rw[HT.lexLt_cons] at h1 h2 ⊢
  by_cases e1:x=y
  ·subst e1
   rw[if_pos rfl] at h1
   by_cases e2:x=z
   ·subst e2
    rw[if_pos rfl] at h2 ⊢
    exact lex_trans xs ys zs h1 h2
   ·rw [if_neg e2] at h2 ⊢
    exact h2
  ·rw [if_neg e1] at h1
   have l1:=of_decide_eq_true h1
   by_cases e2:y=z
   ·subst e2
    rw[if_neg e1];exact h1
   ·rw [if_neg e2] at h2
    have l2:=of_decide_eq_true h2
    rw[if_neg (by lia)]
    exact decide_eq_true (by lia)
private theorem SKey.lt_anti{x y:SKey}(hn:x.num=y.num)(h:x≠y):x.lt y=!y.lt x:=by
 cases x with
 | n i =>
  cases y with
  | n j =>
   have:i≠j:=fun z=>h (by rw[z])
   simp only[SKey.lt]
   by_cases l:i<j
   ·rw[decide_eq_true l,decide_eq_false (by lia)];rfl
   ·rw[decide_eq_false l,decide_eq_true (by lia)];rfl
  | t ms=>cases hn
 | t ns =>
  cases y with
  | n j=>cases hn
  | t ms=>exact lex_anti ns ms fun z=>h (by rw[z])
private theorem SKey.lt_irr(x:SKey):x.lt x=false:=by
 cases x with
 | n i=>simp[SKey.lt]
 | t ns=>exact lex_irr ns
private theorem SKey.lt_trans{x y z:SKey}(h1:x.lt y=true)(h2:y.lt z=true):x.lt z=true:=by
 cases x<;>cases y<;>cases z<;>first
  | (cases h1;done) | (cases h2;done)
  | (simp only[SKey.lt,decide_eq_true_eq] at h1 h2 ⊢;lia)
  | exact lex_trans _ _ _ h1 h2
private theorem SRow.lt_anti{x y:SRow}(hn:x.key.num=y.key.num)(h:x.name≠y.name):x.lt y=!y.lt x:=by
 unfold SRow.lt
 by_cases e:x.key=y.key
 ·rw [if_pos e, if_pos e.symm]
  by_cases l:x.name<y.name
  ·rw[decide_eq_true l,decide_eq_false (by lia)];rfl
  ·rw[decide_eq_false l,decide_eq_true (by lia)];rfl
 ·rw [if_neg e, if_neg (Ne.symm e)]
  exact SKey.lt_anti hn e
private theorem SRow.lt_trans{x y z:SRow}(h1:x.lt y=true)(h2:y.lt z=true):x.lt z=true:=by
 unfold SRow.lt at *
 by_cases e1:x.key=y.key
 ·rw [if_pos e1] at h1
  by_cases e2:y.key=z.key
  ·rw [if_pos e2] at h2
   rw[if_pos (e1.trans e2)]
   simp only[decide_eq_true_eq] at *
   lia
  ·rw [if_neg e2] at h2
   rw[if_neg (by rw[e1];exact e2),e1]
   exact h2
 ·rw [if_neg e1] at h1
  by_cases e2:y.key=z.key
  ·rw [if_neg (by rw [<- e2]; exact e1), <- e2]
   exact h1
  ·rw [if_neg e2] at h2
   have h3:=SKey.lt_trans h1 h2
   by_cases e3:x.key=z.key
   ·rw [e3, SKey.lt_irr] at h3
    cases h3
   ·rw[if_neg e3];exact h3
end L2
namespace L2
open PySem PySem.Spec PyProof.Rows PySem.SeqAt
def row0:SRow:=⟨.n 0,0,[]⟩
def kSortT:List D->(D->Prop)->Prop:=fun es k=>∃ (rows:List SRow) (f:Bool),es=[.lst (rows.map SRow.d)]/\rows.length<900/\(∀ x∈rows,x.key.num=f)/\(rows.map SRow.name).Nodup/\∀ rows':List SRow,rows'.Perm rows->rows'.Pairwise (fun x y=>x.lt y=true)->k (.lst (rows'.map SRow.d))
private theorem eqDs_ints:∀ (xs ys:List Int),eqDs (xs.map D.int) (ys.map D.int)=decide (xs=ys)
 | [],[]=>by unfold eqDs;rfl
 | [],y::ys=>by unfold eqDs;simp
 | x::xs,[]=>by unfold eqDs;simp
 | x::xs,y::ys=>by
  rw[map_cons,map_cons]
  unfold eqDs
  rw[eqDs_ints xs ys]
  unfold eqD
  by_cases e:x=y
  ·subst e;simp
  ·simp[e]
private theorem eqD_key{x y:SKey}(h:x.num=y.num):eqD x.d y.d=decide (x=y):=by
 cases x with
 | n i =>
  cases y with
  | n j =>
   show eqD (.int i) (.int j)=_
   unfold eqD
   by_cases e:i=j
   ·subst e;simp
   ·simp[e]
  | t ms=>cases h
 | t ns =>
  cases y with
  | n j=>cases h
  | t ms =>
   show eqD (.tup _) (.tup _)=_
   unfold eqD
   rw[eqDs_ints]
   by_cases e:ns=ms
   ·subst e;simp
   ·simp[e]
private theorem okE_key(x:SKey):okE x.d 20=true:=by
 cases x with
 | n i=>exact okE_int
 | t ns =>
  refine(okE_tup (k:=19)).mpr fun d hd=>?_
  obtain⟨x,_,rfl⟩:=List.mem_map.mp hd
  exact okE_int
section
variable {X:Cx} {pins:List (Addr × Obj)} {σ:St} {H:Hp} {s:Shared} {G:Option Addr} {Z:Addr->Prop}
private theorem vals_two{a b:V}{xs:List V}{its:List Value}(h:Vals (a::b::xs) its):∃ p q r,its=p::q::r/\RelV a p/\RelV b q:=by
 cases h with
 | cons h0 t =>
  cases t with
  | cons h1 t1=>exact⟨_,_,_,rfl,h0,h1⟩
structure RowAt(X:Cx)(G:Option Addr)(Z:Addr->Prop)(H:Hp)(s:Shared)(x:SRow)(u p:Value)(rest:List Value):Prop where
 tup:∃ q,Srt.Tup s.heap u p (q::rest)/\∃ t,q=.int x.name t
 key:∃ z,Rep X.K G Z H x.key.d z/\RelV z p
private theorem row_at(I:Inv X pins σ H s){x:SRow}{v:V}{u:Value}(r:Rep X.K G Z H x.d v)(q:RelV v u):∃ p rest,RowAt X G Z H s x u p rest:=by
 unfold SRow.d at r
 obtain⟨a,xs,rfl,sq,rs⟩:=r.tup_inv
 have e:u=.ref a:=q
 subst e
 obtain⟨its,rv,pl,_⟩:=I.tuple sq.sq
 obtain⟨z0,xs1,rfl,r0,rs1⟩:=rs.split
 obtain⟨z1,xs2,rfl,r1,rs2⟩:=rs1.split
 have e1:=r1.int_inv
 subst e1
 obtain⟨p0,p1,its2,rfl,h0,t,rfl⟩:=vals_two rv
 exact⟨p0,its2,⟨_,⟨a,rfl,pl⟩,t,rfl⟩,z0,r0,h0⟩
private theorem row_type(I:Inv X pins σ H s){x:SRow}{u p:Value}{rest:List Value}(R:RowAt X G Z H s x u p rest):s.TypeIs p (if x.key.num then "int" else "tuple"):=by
 obtain⟨z,r,q⟩:=R.key
 cases h:x.key with
 | n i =>
  rw[h] at r
  have e:z=.int i:=r.int_inv
  subst e
  obtain⟨t,rfl⟩:=q
  exact typeIs_int s i t
 | t ns =>
  rw[h] at r
  obtain⟨a,xs,rfl,sq,rs⟩:=Rep.tup_inv (show Rep X.K G Z H (.tup (ns.map D.int)) z from r)
  have e:p=.ref a:=q
  subst e
  obtain⟨its,rv,⟨o,ho,hc,_⟩,_⟩:=I.tuple sq.sq
  exact⟨o,ho,hc⟩
private theorem row_cmp(I:Inv X pins σ H s){x y:SRow}{u v p q:Value}{ps qs:List Value}(hn:x.key.num=y.key.num)(hd:x.name≠y.name)(R:RowAt X G Z H s x u p ps)(R':RowAt X G Z H s y v q qs){A:Around}(hu:A.units+60<cLine) :
  ∃ p ps q qs,Srt.Tup s.heap u p ps/\Srt.Tup s.heap v q qs/\Srt.Lex A s x.key.num (x.lt y) 0 (p::ps) (q::qs):=by
 obtain⟨n1,t1,tk1,rfl⟩:=R.tup
 obtain⟨n2,t2,tk2,rfl⟩:=R'.tup
 obtain⟨z1,r1,q1⟩:=R.key
 obtain⟨z2,r2,q2⟩:=R'.key
 have E:=(eq_rep I 20 x.key.d y.key.d z1 z2 p q A (okE_key _) (okE_key _) r1 r2 q1 q2 (by lia)).1
 rw[eqD_key hn] at E
 refine⟨p,_,q,_,t1,t2,?_⟩
 by_cases e:x.key=y.key
 ·rw [decide_eq_true e] at E
  refine .alike E (.here ?_ ?_)
  ·have := EqAt.int_int (A := A) (s := s) x.name tk1 y.name tk2
   have e2:(x.name == y.name)=false:=by simpa using hd
   rw[e2] at this
   exact this
  ·intro prog w E Q h
   unfold SRow.lt at h
   rw[if_pos e] at h
   exact Srt.oneLt_any_int _ h
 ·rw [decide_eq_false e] at E
  refine .here E ?_
  intro prog w E Q h
  unfold SRow.lt at h
  rw[if_neg e] at h
  cases hx:x.key with
  | n i =>
   cases hy:y.key with
   | n j =>
    rw[hx] at r1 h
    rw[hy] at r2 h
    have e1:z1=.int i:=r1.int_inv
    have e2:z2=.int j:=r2.int_inv
    subst e1 e2
    obtain⟨a1,rfl⟩:=q1
    obtain⟨a2,rfl⟩:=q2
    exact Srt.oneLt_any_int _ h
   | t ms=>rw[hx,hy] at hn;cases hn
  | t ns =>
   cases hy:y.key with
   | n j=>rw[hx,hy] at hn;cases hn
   | t ms =>
    rw[hx] at r1 h
    rw[hy] at r2 h
    obtain⟨a,xs,rfl,sq,rs⟩:=Rep.tup_inv (show Rep X.K G Z H (.tup (ns.map D.int)) z1 from r1)
    obtain⟨b,ys,rfl,sq',rs'⟩:=Rep.tup_inv (show Rep X.K G Z H (.tup (ms.map D.int)) z2 from r2)
    have e1:p=.ref a:=q1
    have e2:q=.ref b:=q2
    subst e1 e2
    obtain⟨its,rv,pl,_⟩:=I.tuple sq.sq
    obtain⟨its',rv',pl',_⟩:=I.tuple sq'.sq
    rw[reps_intsV rs] at rv
    rw[reps_intsV rs'] at rv'
    show wpAny _ _ (oneLt' (false&&_) _ _) _ _ _
    exact Srt.oneLt_false_tup pl pl' (intsAre_of rv) (intsAre_of rv') (by lia) h
end
private theorem Reps.getD{K:W.Frag}{G:Option Addr}{Z:Addr->Prop}{H:Hp}{α:Type}{enc:α->D}{rows:List α}{a0:α}{xs:List V}(rs:Reps K G Z H (rows.map enc) xs){i:Nat}(hi:i<rows.length):Rep K G Z H (enc (rows.getD i a0)) (xs.getD i .non):=by
 obtain⟨v,e,r⟩:=rs.get (i:=i) (d:=enc rows[i]) (by rw[getElem?_map,getElem?_eq_getElem hi];rfl)
 rw[getD_eq_getElem?_getD,getD_eq_getElem?_getD,e,getElem?_eq_getElem hi]
 exact r
private theorem reps_pick{K:W.Frag}{G:Option Addr}{Z:Addr->Prop}{H:Hp}{α:Type}{enc:α->D}{rows:List α}{a0:α}{xs:List V}(rs:Reps K G Z H (rows.map enc) xs):∀ {ls:List Nat},(∀ i∈ls,i<rows.length)->Reps K G Z H ((ls.map fun i=>rows.getD i a0).map enc) (ls.map fun i=>xs.getD i .non)
 | [],_=>.nil
 | i::ls,hl=>.cons (rs.getD (hl i (mem_cons_self ..))) (reps_pick rs fun j hj=>hl j (mem_cons_of_mem _ hj))
private theorem map_range{α:Type}(a0:α)(rows:List α):(List.range rows.length).map (fun i=>rows.getD i a0)=rows:=by
 apply List.ext_getElem
 ·simp
 ·intro i h1 h2
  simp[getD_eq_getElem?_getD,h2]
private theorem cr_sortT{A:AC}{X:Cx}(hK:X.K=A.K):CallRel A (rSortT X) kSortT:=by
 rintro os n rho sg H ds vs es ws k Q I rs ⟨rows,f,rfl,hl,hf,hnd,q⟩ hQ
 obtain⟨v,rfl,r⟩:=reps1 rs
 obtain⟨a,xs,rfl,sq,rr⟩:=r.lst_inv
 have len:xs.length=rows.length:=by rw[rr.length,length_map]
 have mem:∀ i,i<rows.length->rows.getD i row0∈rows:=fun i hi=>by
  rw[getD_eq_getElem?_getD,getElem?_eq_getElem hi];exact getElem_mem hi
 have dist:∀ i j,i<rows.length->j<rows.length->i≠j->(rows.getD i row0).name≠(rows.getD j row0).name:=fun i j hi hj hij e=>by
  have g:∀ i (hi:i<rows.length),(rows.map SRow.name)[i]'(by simpa using hi)=(rows.getD i row0).name:=fun i hi=>by
   rw[List.getElem_map,getD_eq_getElem?_getD,getElem?_eq_getElem hi];rfl
  have f:=List.pairwise_iff_getElem.mp hnd
  rcases Nat.lt_or_gt_of_ne hij with l | l
  ·exact f i j (by simpa using hi) (by simpa using hj) l (by rw[g i hi,g j hj,e])
  ·exact f j i (by simpa using hj) (by simpa using hi) l (by rw[g i hi,g j hj,e])
 have num:∀ i,i<rows.length->(rows.getD i row0).key.num=f:=fun i hi=>hf _ (mem i hi)
 rw[<- hK] at rr
 refine⟨a,xs,f,fun i j=>(rows.getD i row0).lt (rows.getD j row0),rfl,by rw[hK];exact sq.sq,by lia,fun i j hi hj hij=>SRow.lt_anti (by rw[num i (by lia),num j (by lia)]) (dist i j (by lia) (by lia) hij),fun i j l _ _ _ h1 h2=>SRow.lt_trans h1 h2,fun i hi=>?_,fun i j hi hj hij=>?_,fun ls hp hU l hl'=>?_⟩
 ·intro pins s σ u J ru
  obtain⟨p,rest,R⟩:=row_at J (rr.getD (enc:=SRow.d) (a0:=row0) (by lia)) ru
  obtain⟨z,t,_⟩:=R.tup
  have ty:=row_type J R
  rw[num i (by lia)] at ty
  exact⟨p,_,t,ty⟩
 ·intro pins s σ u v J ru rv B hB
  obtain⟨p,ps,R⟩:=row_at J (rr.getD (enc:=SRow.d) (a0:=row0) (by lia)) ru
  obtain⟨p',ps',R'⟩:=row_at J (rr.getD (enc:=SRow.d) (a0:=row0) (by lia)) rv
  have c:=row_cmp J (by rw[num i (by lia),num j (by lia)]) (dist i j (by lia) (by lia) hij) R R' hB
  rw[num i (by lia)] at c
  exact c
 ·rw [len] at hp hU
  have hls:∀ i∈ls.toList,i<rows.length:=fun i hi=>by
   have:=(hp.mem_iff).mp (Array.mem_toList_iff.mp hi)
   rwa [Array.mem_range] at this
  have hsz:ls.size=rows.length:=by rw[hp.size_eq,Array.size_range]
  rw[hK] at rr
  refine hQ _ _ _ ⟨os,I.newLst (reps_pick (a0:=row0) rr hls) hl'⟩ (q _ ?_ ?_)
  ·have p1 : ls.toList.Perm (List.range rows.length) := by
    have:=Array.perm_iff_toList_perm.mp hp
    rwa [Array.toList_range] at this
   have p2:=p1.map fun i=>rows.getD i row0
   rwa [map_range] at p2
  ·rw [List.pairwise_map, List.pairwise_iff_getElem]
   intro i j hi hj hij
   have hi':i<ls.size:=by simpa using hi
   have hj':j<ls.size:=by simpa using hj
   have u:=hU i j hij (by lia)
   have g:∀ i (hi:i<ls.size),Srt.lab ls i=ls.toList[i]'(by simpa using hi):=fun i hi=>by
    refine Srt.lab_of_get ?_
    rw[<- Array.getElem?_toList,getElem?_eq_getElem (by simpa using hi)]
   rw[g i hi',g j hj'] at u
   exact u
end L2
namespace L2
open PySem PySem.Spec PyProof.Rows PySem.SeqAt
private theorem call_sum{X:Cx}(hc:X.calm=true):CallR X (.builtin "sum") (fun xs H Q=>∃ (p:Addr) (ns:List Int),xs=[.ref p]/\SqL X.K H p (ns.map V.int)/\Q (.int ns.sum) H):=by
 intro pins s σ H xs us Q I r h
 obtain⟨p,ns,rfl,hq,q⟩:=h
 obtain⟨u,rfl,hu⟩:=vals1 r
 have e:u=.ref p:=hu
 subst e
 obtain⟨its,rv,pl,_⟩:=I.list hq
 have hi:=intsAre_of rv
 obtain⟨ys,hys⟩:=hi.allInts.items
 have hl:=pl.isList
 rw[hys] at hl
 refine sum_intListG (I.ok.hd hc) hl fun h' tk t' hk=>?_
 refine⟨.int ns.sum,H,I.kept hk,⟨t',?_⟩,q⟩
 rw[preSum_eq,take_of_length_le (by simp)]
 have e2:=nums_intItems ys
 rw[<- hys] at e2
 rw[<- e2]
 show Value.int (numsOf its.toArray.toList).sum t'=_
 rw[show its.toArray.toList=its from rfl,hi.numsOf]
def kSum:List D->(D->Prop)->Prop:=fun es k=>∃ ns:List Int,es=[.lst (ns.map D.int)]/\k (.int ns.sum)
private theorem cr_sum{A:AC}:CallRel A (fun xs H Q=>∃ (p:Addr) (ns:List Int),xs=[.ref p]/\SqL A.K H p (ns.map V.int)/\Q (.int ns.sum) H) kSum:=by
 rintro os n rho sg H ds vs es ws k Q I rs ⟨ns,rfl,q⟩ hQ
 obtain⟨v,rfl,r⟩:=reps1 rs
 obtain⟨a,xs,rfl,sq,rr⟩:=r.lst_inv
 have e:=reps_intsV rr
 subst e
 exact⟨a,ns,rfl,sq.sq,hQ _ _ _ ⟨os,I.push (Rep.ofS (d:=.int ns.sum) rfl)⟩ q⟩
structure Blt2(mg:Str->Option Value):Prop where
 sum:mg "sum" = none
private theorem bt_sum:bootBuiltins "sum" = some (.builtin "sum"):=by decide +kernel
section
variable {A:AC} {X:Cx} {a:Expr} {ta:TD} {pos:Pos}
def lstAt(d:D)(k:List D->Prop):Prop:=∃ fs,(d=.lst fs\/d=.fz fs)/\k fs
@[simp] private theorem q_lstAt{fs:List D}{k}:lstAt (.lst fs) k↔k fs:=⟨fun⟨_,e,h⟩=>by rcases e with e | e<;>cases e;exact h,fun h=>⟨_,.inl rfl,h⟩⟩
def dSlV(ta:TD)(tl th:TOD):TD:=fun rho n P=>ta rho n fun d n1=>tl rho n1 fun lo n2=>th rho n2 fun hi n3=>lstAt d fun fs=>P (.lst (cutL fs lo hi)) n3
@[simp] private theorem q_dSlV{ta tl th rho n P}:dSlV ta tl th rho n P=ta rho n fun d n1=>tl rho n1 fun lo n2=>th rho n2 fun hi n3=>lstAt d fun fs=>P (.lst (cutL fs lo hi)) n3:=rfl
private theorem pd_slV{le he:Option Expr}{tl th:TOD}{p2:Pos}(hK:X.K=A.K)(ha:PD A X a ta)(hl:POD A X le tl)(hh:POD A X he th):PD A X (.Subscript a (.Slice le he none p2) pos) (dSlV ta tl th):=by
 with_unfolding_all
  exact(pe_slice sl_list ha hl hh).imp fun sg H Q h=>by
   obtain⟨rho,n,P,ds,vs,I,ht,hQ⟩:=h
   refine⟨rho,n,_,ds,vs,I,ht,fun v H1 n1 d J1 h1=>⟨rho,n1,_,_,_,J1,h1,fun lo H2 n2 J2 h2=>⟨rho,n2,_,_,_,J2,h2,fun hi H3 n3 ⟨os,J3⟩ h3=>?_⟩⟩⟩
   obtain⟨fs,hd,k⟩:=h3
   obtain⟨J4,r⟩:=J3.pop
   rw[hK]
   rcases hd with rfl | rfl
   ·obtain ⟨l, xs, rfl, sq, rs⟩ := r.lst_inv
    exact⟨l,xs,rfl,sq.sq,fun p hp=>hQ _ _ n3 _ ⟨os,J4.newLst (reps_cut rs lo hi) hp⟩ k⟩
   ·obtain ⟨l, xs, rfl, sq, rs⟩ := r.fz_inv
    exact⟨l,xs,rfl,sq,fun p hp=>hQ _ _ n3 _ ⟨os,J4.newLst (reps_cut rs lo hi) hp⟩ k⟩
def dOwnNe(i:Nat):TD:=fun rho n P=>∃ es,rho[i]?=some (some (.own es))/\okE (.lst es) 20=true/\P (.bl (!eqDs es [])) n
@[simp] private theorem q_dOwnNe{i rho n P}:dOwnNe i rho n P=∃ es,rho[i]?=some (some (.own es))/\okE (.lst es) 20=true/\P (.bl (!eqDs es [])) n:=rfl
private theorem tOp_ownNe{i:Nat}(hK:X.K=A.K){sg:St}{H:Hp}{Q:VK}(h:tOf A (dOwnNe i) sg H Q):tOp (rDne X) (tVar i) (tOf A (dLst aNil)) sg H Q:=by
 obtain⟨rho,n,P,ds,vs,⟨os,I⟩,⟨es,hi,ok,q⟩,hQ⟩:=h
 obtain⟨a,xs,e1,hH,rs,_⟩:=I.own (es':=es) (xs':=[]) hi
 refine⟨.ref a,e1,rho,n,fun d n1=>d=.lst []/\n1=n,ds,vs,⟨os,I⟩,⟨Nat.zero_le _,rfl,rfl⟩,fun v2 H2 n2 d2 ⟨os2,J⟩ k=>?_⟩
 obtain⟨rfl,rfl⟩:=k
 obtain⟨J1,r2⟩:=J.pop
 obtain⟨a',xs',e2,hH',rs',_⟩:=J1.own (es':=es) (xs':=[]) hi
 rw[e1] at e2
 cases e2
 have no:∀ b,H2 b≠none->False->Zof A os2 b:=fun _ _ z=>z.elim
 have rA:Rep X.K A.G (fun _=>False) H2 (.lst es) (.ref a):=by
  rw[hK]
  exact .lst_mk ⟨fun z=>z,hH'⟩ (Reps.mono no (fun _ _ _ e=>e) _ _ rs')
 have rB:Rep X.K A.G (fun _=>False) H2 (.lst []) v2:=by
  rw[hK]
  exact Rep.mono no (fun _ _ _ e=>e) _ _ r2
 have ok0:okE (.lst []) 20=true:=by unfold okE;rfl
 refine⟨eqD (.lst es) (.lst []),fun pins s σ v u J rx ry B hu=>eq_rep J 20 _ _ _ _ v u B ok ok0 rA rB rx ry (by lia),?_⟩
 have eqe:eqD (.lst es) (.lst [])=eqDs es []:=by unfold eqD;rfl
 rw[eqe]
 exact hQ _ H2 _ _ ⟨os2,J1.push (Rep.ofS (d:=.bl (!eqDs es [])) rfl)⟩ q
private theorem ptd_ownNe{i:Nat}{x:Str}{px p2:Pos}{n:Nat}(hr:Room n X.A)(hK:X.K=A.K)(hN:X.N[i]?=some x:=by rfl)(hv:Vis X.env.scope x:=by first | exact Or.inl rfl | exact Or.inr (Or.inl rfl) | exact Or.inr (Or.inr rfl))(hd:(x == ("__debug__" : Str))=false:=by decide)
  (hcd:(x == ("__classdict__" : Str))=false:=by decide):PTD A X (.Compare (.Name x px) [.NotEq] [.List [] p2] pos) (dTest (dOwnNe i)):=by
 with_unfolding_all
  exact(pt_cmpR (op_dne hr) (pe_var hN hv hd hcd) (pd_lst (A:=A) pad_nil) (nomark _)).imp fun _ _ _=>tTest_of fun _ _ _=>tOp_ownNe hK
end
end L2
namespace L2
open PySem PySem.Spec PyProof.Rows PySem.SeqAt
mutual
def toPy:D->PyData
 | .int i=>.int i
 | .tup ds=>.tuple (toPys ds)
 | _=>.none
def toPys:List D->List PyData
 | []=>[]
 | d::ds=>toPy d::toPys ds
end
mutual
def okS:D->Nat->Bool
 | .int i,_=>decide (i.natAbs.log2<1920)
 | .tup ds,k=>match k with
  | 0=>false
  | k+1=>okSs ds k
 | _,_=>false
def okSs:List D->Nat->Bool
 | [],_=>true
 | d::ds,k=>okS d k&&okSs ds k
end
mutual
def nodes:D->Nat
 | .tup ds=>nodess ds+1
 | _=>1
def nodess:List D->Nat
 | []=>0
 | d::ds=>nodes d+nodess ds
end
def showD(d:D):Str:=(toPy d).shown
section
variable {X:Cx} {pins:List (Addr × Obj)} {σ:St} {H:Hp} {s:Shared} {G:Option Addr} {Z:Addr->Prop}
end
def kStrT:List D->(D->Prop)->Prop:=fun es k=>∃ ds,es=[.tup ds]/\okS (.tup ds) 15=true/\nodes (.tup ds)<=8000/\k (.str (showD (.tup ds)))
@[simp] private theorem q_kStrT{ds k}:kStrT [.tup ds] k↔(okS (.tup ds) 15=true/\nodes (.tup ds)<=8000/\k (.str (showD (.tup ds)))):=⟨fun⟨_,e,h⟩=>by cases e;exact h,fun h=>⟨_,rfl,h⟩⟩
end L2
namespace L2
section
variable {X:Cx} {A:AC}
def rdRepZ:RD2:=fun d1 d2 k=>∃ es i,d1=.tup es/\d2=.int i/\es≠[]/\0<=i/\es.length*i.toNat<=sizeLine/\k (.tup (replicate i.toNat es).flatten)
@[simp] private theorem q_rdRepZ{es i k}:rdRepZ (.tup es) (.int i) k↔(es≠[]/\0<=i/\es.length*i.toNat<=sizeLine/\k (.tup (replicate i.toNat es).flatten)):=⟨fun⟨_,_,e,e',h⟩=>by cases e;cases e';exact h,fun h=>⟨_,_,rfl,rfl,h⟩⟩
end
end L2
namespace L2.Srt
open PySem PyProof.Rows
section
variable {prog:Program} {w:World} {A:Around} {E:Value->Shared->Prop} {s:Shared}
end
end L2.Srt
namespace L2
section
variable {X:Cx} {A:AC} {pos:Pos} {e:Expr} {t1:TAD}
def sNever:TSD:=fun _ _ _=>False
@[simp] private theorem q_never{F:EndsD}{rho:Rho}{n:Nat}:sNever F rho n↔False:=Iff.rfl
end
end L2
namespace L2
section
variable {K:W.Frag} {G G':Option Addr} {Z:Addr->Prop} {H:Hp}
end
section
variable {A:AC} {X:Cx} {e:Expr} {es:List Expr} {t1:TAD} {t2:TSD} {pos p:Pos}
end
end L2
namespace L2
def hasK(ks:List Key)(k:Key):Bool:=ks.any fun j=>decide (j=k)
def putKs(ks:List Key)(k:Key):List Key:=if hasK ks k=true then ks else ks++[k]
def putG{α:Type}(ks:List Key)(xs:List α)(k:Key)(x:α):List α:=if hasK ks k=true then List.zipWith (fun j y=>if j=k then x else y) ks xs else xs++[x]
private theorem kvs_any:∀ (ks:List Key) (xs:List V) (k:Key),ks.length=xs.length->((kvsV ks xs).any fun kv=>decide (kv.1=k))=hasK ks k
 | [],xs,k,_=>rfl
 | j::ks,[],k,h=>by simp at h
 | j::ks,x::xs,k,h=>by
  have ih:=kvs_any ks xs k (by simpa using h)
  show(decide (j=k)||(kvsV ks xs).any _)=(decide (j=k)||hasK ks k)
  rw[ih]
private theorem kvs_map:∀ (ks:List Key) (xs:List V) (k:Key) (v:V),(kvsV ks xs).map (fun kv=>if kv.1=k then(kv.1,v) else kv)=kvsV ks (List.zipWith (fun j y=>if j=k then v else y) ks xs)
 | [],xs,k,v=>by simp[kvsV]
 | j::ks,[],k,v=>by simp[kvsV]
 | j::ks,x::xs,k,v=>by
  have ih:=kvs_map ks xs k v
  show(if j=k then(j,v) else(j,x))::(kvsV ks xs).map _=(j,if j=k then v else x)::kvsV ks _
  rw[ih]
  by_cases e:j=k<;>simp[e]
private theorem kvs_snoc{ks:List Key}{xs:List V}(k:Key)(v:V)(h:ks.length=xs.length):kvsV ks xs++[(k,v)]=kvsV (ks++[k]) (xs++[v]):=by
 unfold kvsV
 rw[List.zipWith_append h];rfl
private theorem kvs_put{ks:List Key}{xs:List V}(k:Key)(v:V)(h:ks.length=xs.length):putK (kvsV ks xs) k v=kvsV (putKs ks k) (putG ks xs k v):=by
 unfold putK putKs putG
 rw[kvs_any ks xs k h]
 by_cases e:hasK ks k=true
 ·rw[if_pos e,if_pos e,if_pos e,kvs_map]
 ·rw[if_neg e,if_neg e,if_neg e,kvs_snoc k v h]
private theorem put_len{α:Type}{ks:List Key}{xs:List α}(k:Key)(x:α)(h:ks.length=xs.length):(putKs ks k).length=(putG ks xs k x).length:=by
 unfold putKs putG
 split
 ·rw[List.length_zipWith,<- h];lia
 ·simp[h]
private theorem put_le{α:Type}{ks:List Key}{xs:List α}(k:Key)(x:α)(h:ks.length=xs.length):(putKs ks k).length<=ks.length+1:=by
 unfold putKs
 split<;>simp
section
variable {K:W.Frag} {G:Option Addr} {Z:Addr->Prop} {H:Hp}
private theorem Reps.zipPut{d:D}{v:V}(r:Rep K G Z H d v)(k:Key):∀ {ks:List Key} {es:List D} {xs:List V},Reps K G Z H es xs->Reps K G Z H (List.zipWith (fun j y=>if j=k then d else y) ks es) (List.zipWith (fun j y=>if j=k then v else y) ks xs)
 | [],es,xs,h=>.nil
 | j::ks,[],xs,h=>by rw[h.nil_inv];exact .nil
 | j::ks,e::es,xs,h=>by
  obtain⟨x,xr,rfl,q,t⟩:=h.split
  have ih:=Reps.zipPut r k (ks:=ks) t
  show Reps K G Z H ((if j=k then d else e)::_) ((if j=k then v else x)::_)
  by_cases z:j=k
  ·rw[if_pos z,if_pos z];exact .cons r ih
  ·rw[if_neg z,if_neg z];exact .cons q ih
private theorem Reps.put{d:D}{v:V}{ks:List Key}{es:List D}{xs:List V}(h:Reps K G Z H es xs)(r:Rep K G Z H d v)(k:Key):Reps K G Z H (putG ks es k d) (putG ks xs k v):=by
 unfold putG
 split
 ·exact Reps.zipPut r k h
 ·exact h.append (.cons r .nil)
end
def keyOf:D->Option Key
 | .int i=>some (Sum.inl i)
 | .str x=>some (Sum.inr x)
 | _=>none
@[simp] private theorem keyOf_int{i:Int}:keyOf (.int i)=some (Sum.inl i):=rfl
@[simp] private theorem keyOf_str{i:Str}:keyOf (.str i)=some (Sum.inr i):=rfl
private theorem keyOf_rep{K:W.Frag}{G:Option Addr}{Z:Addr->Prop}{H:Hp}{d:D}{v:V}{k:Key}(h:Rep K G Z H d v)(e:keyOf d=some k):v=kV k:=by
 cases d with
 | int i=>cases e;exact h.int_inv
 | str i=>cases e;exact h.toS rfl
 | _=>simp[keyOf] at e
section
variable {A:AC} {X:Cx} {tg iter kx vx:Expr} {ifs:List Expr} {scope:Scope} {own M:List Str} {pos:Pos} {it:TID} {g:TGD} {tt:TBD} {tk tv:TD}
def dcompIn(own:Nat)(g:TGD)(tt:TBD)(tk tv:TD)(rho:Rho)(P:D->Nat->Prop)(items:List D)(n1:Nat):Prop:=items.length<=sizeLine/\∃ J:Nat->List Key->List D->Nat->Prop,J 0 [] [] n1 /\
 (∀ i d ks es n,items[i]?=some d->J i ks es n->g d (replicate own none++rho) fun rho'=>rho'.drop own=rho/\tt rho' n fun c n2=>if c=true then tk rho' n2 fun dk n3=>tv rho' n3 fun dv n4=>∃ k,keyOf dk=some k/\J (i+1) (putKs ks k) (putG ks es k dv) n4 else J (i+1) ks es n2) /\
 ∀ ks es n,J items.length ks es n->P (.dct ks es) n
def dDComp(it:TID)(own:Nat)(g:TGD)(tt:TBD)(tk tv:TD):TD:=fun rho n P=>it rho n (dcompIn own g tt tk tv rho P)
@[simp] private theorem q_dDComp{it own g tt tk tv rho n P}:dDComp it own g tt tk tv rho n P=it rho n (dcompIn own g tt tk tv rho P):=rfl
private theorem AmO.newDct{os n rho sg H ds vs}{ks:List Key}{es:List D}{xs:List V}{p:Addr}(I:AmO A os n rho sg H ds vs)(r:Reps A.K A.G (Zof A os) H es xs)(hp:H p=none):AmO A os n rho sg (upd H p (.dK (kvsV ks xs))) (.dct ks es::ds) (.ref p::vs):=by
 have hf:∀ a u,H a=some u->upd H p (.dK (kvsV ks xs)) a=some u:=fun a u e=>by
  rw[upd_ne fun z=>by rw[z,hp] at e;cases e];exact e
 refine⟨I.len,fun i d e=>?_,?_,I.nd,fun q hq=>?_,fun a e=>?_,I.gz,fun a u h e=>hf a u (I.fr a u h e),I.z0⟩
 ·obtain ⟨v, e1, e2⟩ := I.slot i d e
  exact⟨v,e1,SlotR.mono (fun _ _ z=>z) (fun a u _ e=>hf a u e) (fun a xs m q=>⟨m,hf a _ q⟩) _ _ e2⟩
 ·refine .cons ?_ (Reps.mono (fun _ _ z => z) (fun a u _ e => hf a u e) _ _ I.pend)
  unfold Rep
  refine⟨p,xs,rfl,⟨fun z=>?_,upd_same⟩,Reps.mono (fun _ _ z=>z) (fun a u _ e=>hf a u e) _ _ r⟩
  exact absurd hp (I.zH p z)
 ·obtain ⟨f1, f2, f3⟩ := I.fresh q hq
  refine⟨f1,f2,?_⟩
  cases e:H q.2 with
  | none=>exact absurd e f3
  | some u=>rw[hf _ _ e];simp
 ·obtain ⟨x, y, z, q, r⟩ := I.st a e
  exact⟨x,y,z,hf _ _ q,r⟩
private theorem tDComp_of{sg:St}{H:Hp}{Q:VK}{m:Nat}(h:tOf A (dDComp it m g tt tk tv) sg H Q):tDComp (iOf A it) m (gOf A m g) (ttOf A tt) (tOf A tk) (tOf A tv) sg H Q:=by
 obtain⟨rho,n,P,ds,vs,I,ht,hQ⟩:=h
 refine⟨rho,n,_,ds,vs,I,ht,fun J H' n' items es ws I1 hl hJ k=>?_⟩
 obtain⟨hsz,W,w0,turn,fin⟩:=k
 refine⟨fun i mm acc H=>mm=items.length-i/\i<=items.length/\∃ ks accD xs n,acc=kvsV ks xs/\ks.length=xs.length/\ks.length<=i/\xs.length=accD.length/\Am A n rho sg H (es++(accD++ds)) (ws++(xs++vs))/\W i ks accD n,
  ⟨items.length,rfl,Nat.zero_le _,[],[],[],n',rfl,rfl,Nat.le_refl _,rfl,I1,w0⟩,?_⟩
 rintro i mm acc H3 ⟨rfl,hi,ks,accD,xs,n3,rfl,hkl,hai,hal,⟨os,I3⟩,w3⟩
 have hlk:(kvsV ks xs).length=ks.length:=by unfold kvsV;rw[List.length_zipWith];lia
 obtain⟨j1,j2⟩:=hJ n3 rho sg H3 (accD++ds) (xs++vs) i ⟨os,I3⟩
 by_cases hlt:i<items.length
 ·refine .inr ⟨(j1 items[i] (by simp [hlt])).1, by lia, fun x H4 y => ?_⟩
  obtain⟨os4,I4⟩:=(j1 items[i] (by simp[hlt])).2 x H4 y
  refine⟨replicate m none++rho,n3,_,items[i],es++(accD++ds),ws++(xs++vs),⟨_,I4.front m⟩,turn i items[i] ks accD n3 (by simp[hlt]) w3,fun rho' sg' ⟨os5,I5⟩ e5 k5=>?_⟩
  obtain⟨k5,k6⟩:=k5
  have e6:sg'.drop m=sg:=by rw[e5,drop_left' (by simp)]
  refine⟨e6,rho',n3,_,es++(accD++ds),ws++(xs++vs),⟨os5,I5⟩,k6,fun c H6 n6 ⟨os6,I6⟩ k7=>?_⟩
  cases c with
  | false =>
   obtain⟨os7,I7⟩:=I6.back k5 e6
   exact⟨items.length-(i+1),by lia,rfl,hlt,ks,accD,xs,n6,rfl,hkl,by lia,hal,⟨os7,I7⟩,k7⟩
  | true =>
   rw[if_pos rfl] at k7 ⊢
   refine⟨rho',n6,_,es++(accD++ds),ws++(xs++vs),⟨os6,I6⟩,k7,fun vk H8 n8 dk I8 k8=>?_⟩
   refine⟨rho',n8,_,dk::(es++(accD++ds)),vk::(ws++(xs++vs)),I8,k8,fun v H9 n9 d ⟨os9,I9⟩ k9=>?_⟩
   obtain⟨kk,ek,w9⟩:=k9
   obtain⟨os10,I10⟩:=I9.back k5 e6
   obtain⟨I11,rv⟩:=I10.pop
   obtain⟨I12,rk⟩:=I11.pop
   obtain⟨I13,r1⟩:=I12.split hl
   obtain⟨I14,r2⟩:=I13.split hal
   refine⟨kk,items.length-(i+1),keyOf_rep rk ek,by lia,rfl,hlt,putKs ks kk,putG ks accD kk d,putG ks xs kk v,n9,kvs_put kk v hkl,put_len kk v hkl,?_,?_,⟨os10,(I14.join (r2.put rv kk)).join r1⟩,w9⟩
   ·have:=put_le kk v hkl;lia
   ·rw[<- put_len kk v hkl,<- put_len kk d (by lia)]
 ·have e : i = items.length := by lia
  subst e
  refine .inl ⟨j2 (Nat.le_refl _),by lia,fun D hD=>?_⟩
  obtain⟨I4,r1⟩:=I3.split hl
  obtain⟨I5,r2⟩:=I4.split hal
  exact hQ _ _ n3 _ ⟨os,I5.newDct r2 hD⟩ (fin ks accD n3 w3)
private theorem pd_dcomp(ok:CompOk X scope M)(hc:X.calm=true)(hi:PID A X tg iter it)(hg:∀ C s2 H2 fp,PGD A (cxComp X scope own M C s2 H2 fp) own.length tg g)(ht:∀ C s2 H2 fp,PTs (cxComp X scope own M C s2 H2 fp) ifs (ttOf A tt))
  (hk:∀ C s2 H2 fp,PD A (cxComp X scope own M C s2 H2 fp) kx tk) (he:∀ C s2 H2 fp,PD A (cxComp X scope own M C s2 H2 fp) vx tv) (hs:∀ x,foldedSetIterable iter X.env x=pure x:=by intro _;rfl):PD A X (.DictComp kx vx [⟨tg,iter,ifs,0⟩] scope pos) (dDComp it own.length g tt tk tv):=by
 with_unfolding_all
  exact(pe_dcomp ok hc hi hg ht hk he hs).imp fun _ _ _=>tDComp_of
end
def atK:List Key->List D->Key->Option D
 | k::ks,d::ds,x=>if k=x then some d else atK ks ds x
 | _,_,_=>none
private theorem atK_val{K:W.Frag}{G:Option Addr}{Z:Addr->Prop}{H:Hp}:∀ {ks:List Key} {ds:List D} {xs:List V} {x:Key},Reps K G Z H ds xs ->
  (∀ d,atK ks ds x=some d->∃ v,valV (kvsV ks xs) x=some v/\Rep K G Z H d v)/\(atK ks ds x=none->valV (kvsV ks xs) x=none)
 | [],ds,xs,x,r=>⟨fun d h=>by simp[atK] at h,fun _=>rfl⟩
 | k::ks,[],xs,x,r=>by rw[r.nil_inv];exact⟨fun d h=>by simp[atK] at h,fun _=>rfl⟩
 | k :: ks, e :: ds, xs, x, r => by
  obtain⟨v,rs,rfl,q,t⟩:=r.split
  obtain⟨i1,i2⟩:=atK_val (ks:=ks) (x:=x) t
  unfold atK
  by_cases c:k=x
  ·rw [if_pos c]
   exact⟨fun d h=>by cases h;exact⟨v,valV_pos (p:=(k,v)) c,q⟩,fun h=>by cases h⟩
  ·rw [if_neg c]
   have e2:valV (kvsV (k::ks) (v::rs)) x=valV (kvsV ks rs) x:=valV_neg (p:=(k,v)) c
   rw[e2]
   exact⟨i1,i2⟩
section
variable {A:AC} {X:Cx} {a b:Expr} {ta tb:TD} {pos:Pos}
def rDx:R2:=fun x y H Q=>∃ a v,x=.ref a/\DGet H a y (some v)/\Q v H
def rdDx:RD2:=fun d1 d2 k=>∃ ks ds x d,d1=.dct ks ds/\keyOf d2=some x/\atK ks ds x=some d/\k d
@[simp] private theorem q_rdDxI{ks ds x k}:rdDx (.dct ks ds) (.int x) k↔∃ d,atK ks ds (Sum.inl x)=some d/\k d:=⟨fun⟨_,_,_,d,e,e',h⟩=>by cases e;cases e';exact⟨d,h⟩,fun⟨d,h⟩=>⟨_,_,_,d,rfl,rfl,h⟩⟩
private theorem re_dx:OpRel A rDx rdDx:=by
 rintro os n rho sg H ds vs d1 d2 v1 v2 k Q I ⟨ks,es,x,d,rfl,hk,hx,q⟩ hQ
 obtain⟨I1,r2⟩:=I.pop
 obtain⟨I2,r1⟩:=I1.pop
 have e2:=keyOf_rep r2 hk
 subst e2
 unfold Rep at r1
 obtain⟨a,xs,rfl,⟨hz,hH⟩,rs⟩:=r1
 obtain⟨v,hv,rv⟩:=(atK_val rs).1 d hx
 exact⟨a,v,rfl,by rw[<- hv];exact DGet.k hH,hQ _ _ _ ⟨os,I2.push rv⟩ q⟩
private theorem pd_dix(hu:X.A.units+1<cLine)(ha:PD A X a ta)(hb:PD A X b tb)(hs:NoSl b):PD A X (.Subscript a b pos) (dOp rdDx ta tb):=by
 with_unfolding_all
  exact(pe_dget hu ha hb hs).imp fun _ _ _=>tOp_of (r:=rDx) re_dx
def rdDin(neg:Bool):RD2:=fun d1 d2 k=>∃ ks ds x,d2=.dct ks ds/\keyOf d1=some x/\k (.bl ((atK ks ds x).isSome != neg))
@[simp] private theorem q_rdDinI{neg ks ds x k}:rdDin neg (.int x) (.dct ks ds) k↔k (.bl ((atK ks ds (Sum.inl x)).isSome != neg)):=⟨fun⟨_,_,_,e,e',h⟩=>by cases e;cases e';exact h,fun h=>⟨_,_,_,rfl,rfl,h⟩⟩
def sPop(i:Nat)(g:TGD):TSD:=fun F rho n=>∃ es d,rho[i]?=some (some (.own (es++[d])))/\g d (rho.set i (some (.own es))) fun rho'=>F.nx rho' n
@[simp] private theorem q_sPop{i g F rho n}:sPop i g F rho n=∃ es d,rho[i]?=some (some (.own (es++[d])))/\g d (rho.set i (some (.own es))) fun rho'=>F.nx rho' n:=rfl
private theorem psd_pop{i m:Nat}{x:Str}{tg:Expr}{g:TGD}{px apos cpos:Pos}(hK:X.K=A.K)(hg:PGD A X m tg g)(hN:X.N[i]?=some x:=by rfl)(hv:Vis X.env.scope x:=by first | exact Or.inl rfl | exact Or.inr (Or.inl rfl) | exact Or.inr (Or.inr rfl))(hd:(x == ("__debug__" : Str))=false:=by decide)
  (hcd:(x == ("__classdict__" : Str))=false:=by decide) (hbase:attributeBase (.Name x px) "pop" X.env (eval (.Name x px) X.env)=eval (.Name x px) X.env:=by rfl) (hline:(apos.endLine == cpos.line)=true:=by rfl)
  (hs:swapsWithSole [tg] (.Call (.Attribute (.Name x px) "pop" apos) [] [] cpos) pos.line X.env=pure false:=by rfl) (hw:swappedStores [tg] (.Call (.Attribute (.Name x px) "pop" apos) [] [] cpos) X.env=pure none:=by rfl)
  (h1:(assignEach [tg] X.env).map (·.2)=[assign tg X.env]:=by rfl):PSD A X (.Assign [tg] (.Call (.Attribute (.Name x px) "pop" apos) [] [] cpos) pos) (sPop i g):=by
 with_unfolding_all
  exact(ps_asg (pe_bm0 PySem.F.plainAttrs_list PySem.F.slot_list_pop PySem.F.type_list_pop mt_pop (pe_var hN hv hd hcd) hbase hline) hg hs hw h1).imp fun E sg H h=>by
   obtain⟨rho,n,F,ds,vs,⟨os,I⟩,⟨es,d,hi,ht⟩,ok⟩:=h
   obtain⟨a,xs,e1,hH,rs,_⟩:=I.own (es':=es) (xs':=[]) hi
   have hl:=rs.length
   have hxs:xs.length=es.length+1:=by rw[hl];simp
   have hes:(es++[d])[es.length]?=some d:=by simp
   obtain⟨v,hv,rv⟩:=rs.get hes
   refine⟨.ref a,e1,.inl ⟨rfl,xs,SqL.of hH⟩,a,xs,v,rfl,rfl,hH,by rw[hxs];exact hv,?_⟩
   have I1:=I.push rv
   obtain⟨a',xs',e1',hH',rs',up⟩:=I1.own (es':=es) (xs':=[]) hi
   rw[e1] at e1'
   cases e1'
   rw[hH] at hH'
   cases hH'
   have e2:xs.dropLast=xs.take es.length:=by rw[List.dropLast_eq_take,hxs];rfl
   have e3:(es++[d]).take es.length=es:=by simp
   have rt:Reps A.K A.G (Zof A os) H es xs.dropLast:=by
    have:=rs'.take es.length
    rw[e3] at this
    rw[e2];exact this
   exact⟨_,n,_,d,ds,vs,⟨os,up _ _ rt⟩,ht,fun rho' sg' J' _ k'=>ok.nx _ _ _ _ J' k'⟩
def sCont:TSD:=fun F rho n=>F.ct rho n
@[simp] private theorem q_sCont{F rho n}:sCont F rho n=F.ct rho n:=rfl
def sOwnIf(i:Nat)(tc:TBD)(t u:TAD):TSD:=fun F rho n=>i<rho.length/\tc rho n fun c n0=>if c=true then t rho n0 (fun es n1=>es.length<=sizeLine/\F.nx (rho.set i (some (.own es))) n1) else u rho n0 fun es n1=>es.length<=sizeLine/\F.nx (rho.set i (some (.own es))) n1
@[simp] private theorem q_sOwnIf{i tc t u F rho n}:sOwnIf i tc t u F rho n=(i<rho.length/\tc rho n fun c n0=>if c=true then t rho n0 (fun es n1=>es.length<=sizeLine/\F.nx (rho.set i (some (.own es))) n1) else u rho n0 fun es n1=>es.length<=sizeLine/\F.nx (rho.set i (some (.own es))) n1):=rfl
private theorem psd_ownIf{i:Nat}{x:Str}{pos' pos2 pos3 pos4:Pos}{c:Expr}{els els2:List Expr}{tc:TBD}{t u:TAD}(hN:X.N.Nodup)(hi:X.N[i]?=some x)(hx:Loc X.env.scope x)(hc:PTD A X c tc)(ha:PAD A X els t)(hb:PAD A X els2 u)(hf:X.fn x=true\/X.env.scope.names.lookup x=some .local:=by first | exact .inl rfl | exact .inr rfl | assumption)
  (hs:swapsWith (.IfExp c (.List els pos2) (.List els2 pos3) pos4) (some (.Name x pos')) pos.line X.env=pure false:=by rfl):PSD A X (.Assign [.Name x pos'] (.IfExp c (.List els pos2) (.List els2 pos3) pos4) pos) (sOwnIf i tc t u):=by
 with_unfolding_all
  exact(ps_set hN hi hx (pe_ifExp hc (pe_lst ha) (pe_lst hb)) hs hf).imp fun E sg H h=>by
   obtain⟨rho,n,F,ds,vs,I,⟨hl,ht⟩,ok⟩:=h
   refine⟨rho,n,_,ds,vs,I,ht,fun b H1 n1 J1 k=>?_⟩
   cases b with
   | true =>
    refine⟨rho,n1,_,ds,vs,J1,k,fun ws H' n' es ⟨os,J⟩ hlen k=>⟨by rw[hlen];exact k.1,fun p hp=>?_⟩⟩
    obtain⟨J2,rs⟩:=J.split hlen
    exact ok.nx _ _ _ _ (J2.setOwn hl hp rs) k.2
   | false =>
    refine⟨rho,n1,_,ds,vs,J1,k,fun ws H' n' es ⟨os,J⟩ hlen k=>⟨by rw[hlen];exact k.1,fun p hp=>?_⟩⟩
    obtain⟨J2,rs⟩:=J.split hlen
    exact ok.nx _ _ _ _ (J2.setOwn hl hp rs) k.2
end
end L2
namespace L2
section
variable {X:Cx} {A:AC}
def isTL:D->Bool
 | .tup _=>true
 | .lst _=>true
 | _=>false
def kIsi2:List D->(D->Prop)->Prop:=fun es k=>∃ d,es=[d,.tup [.ty "tuple",.ty "list"]]/\isiOk d=true/\k (.bl (isTL d))
@[simp] private theorem q_kIsi2{d k}:kIsi2 [d,.tup [.ty "tuple",.ty "list"]] k↔(isiOk d=true/\k (.bl (isTL d))):=⟨fun⟨_,e,h⟩=>by cases e;exact h,fun h=>⟨_,rfl,h⟩⟩
end
end L2
namespace L2
section
variable {A:AC} {X:Cx} {a b c:Expr} {ta tb tc:TD} {pos:Pos}
private theorem tChain_of{f g:Int->Int->Bool}{sg:St}{H:Hp}{Q:VK}(h:tOf A (dChain f g ta tb tc) sg H Q):tChain (rI0 fun i j=>.bl (f i j)) (rI0 fun i j=>.bl (g i j)) (tOf A ta) (tOf A tb) (tOf A tc) sg H Q:=by
 obtain⟨rho,n,P,ds,vs,I,h,hQ⟩:=h
 refine⟨rho,n,_,ds,vs,I,h,fun v H1 n1 d1 I1 h1=>⟨rho,n1,_,_,_,I1,h1,fun v2 H2 n2 d2 ⟨os2,I2⟩ h2=>?_⟩⟩
 obtain⟨i,rfl,j,rfl,h2⟩:=h2
 obtain⟨I3,r2⟩:=I2.pop
 obtain⟨I4,r1⟩:=I3.pop
 refine⟨i,j,r1.int_inv,r2.int_inv,f i j,rfl,?_⟩
 by_cases hf:f i j=true
 ·rw [if_pos hf] at h2 ⊢
  refine⟨rho,n2,_,_,_,⟨os2,I4⟩,h2,fun v3 H3 n3 d3 ⟨os3,I5⟩ h3=>?_⟩
  obtain⟨k,rfl,h3⟩:=h3
  obtain⟨I6,r3⟩:=I5.pop
  exact⟨j,k,r2.int_inv,r3.int_inv,hQ _ H3 n3 _ ⟨os3,I6.push (Rep.ofS (d:=.bl (g j k)) rfl)⟩ h3⟩
 ·rw [if_neg hf] at h2 ⊢
  exact hQ _ H2 n2 _ ⟨os2,I4.push (Rep.ofS (d:=.bl false) rfl)⟩ h2
private theorem ptd_chain{op op':CmpOp}{f g:Int->Int->Bool}(ho:OpR X (compareOp op) (rI0 fun i j=>.bl (f i j)))(ho':OpR X (compareOp op') (rI0 fun i j=>.bl (g i j)))(ha:PD A X a ta)(hb:PD A X b tb)(hc:PD A X c tc)
  (hm:lastMarks [op,op'] [b,c]=false:=by with_unfolding_all rfl):PTD A X (.Compare a [op,op'] [b,c] pos) (dTest (dChain f g ta tb tc)):=by
 with_unfolding_all
  exact(pt_chain ho ho' ha hb hc hm).imp fun _ _ _=>tTest_of fun _ _ _=>tChain_of
end
end L2
namespace L2
def noOwns(rho:Rho):Bool:=rho.all fun o=>match o with
 | some d=>notOwn d
 | none=>true
def sParO(i j:Nat)(tb:TD):TSD:=fun F rho n=>i<rho.length/\j<rho.length/\noOwns rho=true/\tb rho n fun d n1=>F.nx ((rho.set i (some (.own []))).set j (some d)) n1
@[simp] private theorem q_sParO{i j tb F rho n}:sParO i j tb F rho n=(i<rho.length/\j<rho.length/\noOwns rho=true/\tb rho n fun d n1=>F.nx ((rho.set i (some (.own []))).set j (some d)) n1):=rfl
section
variable {A:AC} {X:Cx} {b:Expr} {tb:TD} {pos:Pos}
end
end L2
namespace L2
open PySem PySem.Spec PyProof.Rows PySem.SeqAt
section
variable {A:AC} {X:Cx} {a b c e:Expr} {ta tb tc te:TD} {pos:Pos}
def rdTeq:RD2:=fun d1 d2 k=>tupAt d1 fun es=>d2=.tup []/\k (.bl es.isEmpty)
@[simp] private theorem q_rdTeq{d1 d2 k}:rdTeq d1 d2 k=tupAt d1 fun es=>d2=.tup []/\k (.bl es.isEmpty):=rfl
def rdRepL:RD2:=fun d1 d2 k=>∃ es i,d1=.lst es/\d2=.int i/\0<=i/\i<1000/\es.length*i.toNat<=sizeLine/\k (.lst (replicate i.toNat es).flatten)
@[simp] private theorem q_rdRepL{es i k}:rdRepL (.lst es) (.int i) k↔(0<=i/\i<1000/\es.length*i.toNat<=sizeLine/\k (.lst (replicate i.toNat es).flatten)):=⟨fun⟨_,_,e,e',h⟩=>by cases e;cases e';exact h,fun h=>⟨_,_,rfl,rfl,h⟩⟩
def seqL(es:List D)(k:List D->Prop):Prop:=∃ fs,(es=[.lst fs]\/es=[.tup fs])/\k fs
@[simp] private theorem q_seqL1{fs:List D}{k}:seqL [.lst fs] k↔k fs:=⟨fun⟨_,e,h⟩=>by rcases e with e | e<;>cases e;exact h,fun h=>⟨_,.inl rfl,h⟩⟩
@[simp] private theorem q_seqL2{fs:List D}{k}:seqL [.tup fs] k↔k fs:=⟨fun⟨_,e,h⟩=>by rcases e with e | e<;>cases e;exact h,fun h=>⟨_,.inr rfl,h⟩⟩
def sListO(i:Nat)(t:TAD):TSD:=fun F rho n=>i<rho.length/\t rho n fun es n1=>seqL es fun fs=>F.nx (rho.set i (some (.own fs))) n1
@[simp] private theorem q_sListO{i t F rho n}:sListO i t F rho n=(i<rho.length/\t rho n fun es n1=>seqL es fun fs=>F.nx (rho.set i (some (.own fs))) n1):=rfl
end
end L2
namespace L2
open PySem PySem.Spec PyProof.Rows PySem.SeqAt
mutual
def toPyA:D->PyData
 | .bl b=>.bool b
 | .int i=>.int i
 | .str x=>.str x
 | .tup ds=>.tuple (toPyAs ds)
 | .lst ds=>.list (toPyAs ds)
 | _=>.none
def toPyAs:List D->List PyData
 | []=>[]
 | d::ds=>toPyA d::toPyAs ds
end
mutual
def okR:D->Nat->Bool
 | .non,_=>true
 | .bl _,_=>true
 | .int i,_=>decide (i.natAbs.log2<1920)
 | .str x,_=>decide ((reprText x).length<=2000)
 | .tup ds,k=>match k with
  | 0=>false
  | k+1=>okRs ds k
 | .lst ds,k=>match k with
  | 0=>false
  | k+1=>okRs ds k
 | _,_=>false
def okRs:List D->Nat->Bool
 | [],_=>true
 | d::ds,k=>okR d k&&okRs ds k
end
mutual
def nodR:D->Nat
 | .tup ds=>nodRs ds+1
 | .lst ds=>nodRs ds+1
 | _=>1
def nodRs:List D->Nat
 | []=>0
 | d::ds=>nodR d+nodRs ds
end
def showA(d:D):Str:=(toPyA d).shown
section
variable {X:Cx} {pins:List (Addr × Obj)} {σ:St} {H:Hp} {s:Shared} {G:Option Addr} {Z:Addr->Prop}
end
def kRepr:List D->(D->Prop)->Prop:=fun es k=>∃ d,es=[d]/\isTL d=true/\okR d 15=true/\nodR d<=8000/\k (.str (showA d))
@[simp] private theorem q_kRepr{d k}:kRepr [d] k↔(isTL d=true/\okR d 15=true/\nodR d<=8000/\k (.str (showA d))):=⟨fun⟨_,e,h⟩=>by cases e;exact h,fun h=>⟨_,rfl,h⟩⟩
end L2
namespace L2
def setAt(es:List D)(e d:D)(k:List D->Prop):Prop:=∃ j m,e=.int j/\ixN es.length j=some m/\k (es.set m d)
def sOwnSet2(i:Nat)(ta:TAD)(tb1 tb2:TD):TSD:=fun F rho n=>ownAt rho[i]? fun es=>ta rho n fun cs n1=>pair2 cs fun d1 d2=>tb1 rho n1 fun e1 n2=>setAt es e1 d1 fun es1 =>
 tb2 (rho.set i (some (.own es1))) n2 fun e2 n3=>setAt es1 e2 d2 fun es2=>F.nx (rho.set i (some (.own es2))) n3
@[simp] private theorem q_sOwnSet2{i ta tb1 tb2 F rho n}:sOwnSet2 i ta tb1 tb2 F rho n=ownAt rho[i]? fun es=>ta rho n fun cs n1=>pair2 cs fun d1 d2=>tb1 rho n1 fun e1 n2=>setAt es e1 d1 fun es1 =>
 tb2 (rho.set i (some (.own es1))) n2 fun e2 n3=>setAt es1 e2 d2 fun es2=>F.nx (rho.set i (some (.own es2))) n3:=rfl
section
variable {A:AC} {X:Cx} {a1 a2 b1 b2:Expr} {ta:TAD} {tb1 tb2:TD} {pos:Pos}
end
end L2
namespace PySem
open PySem.Sem (wp)
namespace F
end F
section
variable {prog:Program} {w:World} {K:Type} [DecidableEq K] {knd:KeyKind prog w K} {A:Around} {R:Result->Shared->Prop}
end
end PySem
namespace PySem
open PySem.Sem (wp)
section
variable {prog:Program} {w:World} {K:Type} [DecidableEq K] {knd:KeyKind prog w K} {A:Around} {E:Value->Shared->Prop} {s:Shared}
end
end PySem
namespace L2
section
variable {X:Cx} {A:AC}
end
end L2
namespace L2
open PySem PySem.Spec PyProof.Rows PySem.SeqAt
section
variable {A:AC} {X:Cx}
def tupsAt(d:D)(k:List (List D)->Prop):Prop:=∃ ess:List (List D),d=.tup (ess.map D.tup)/\k ess
def rdInE:RD2:=fun d1 d2 k=>d1=.tup []/\tupsAt d2 fun ess=>k (.bl (ess.any List.isEmpty))
@[simp] private theorem q_rdInE2{a b k} : rdInE (.tup []) (.tup [.tup a, .tup b]) k ↔ k (.bl (a.isEmpty || b.isEmpty)) := by
 constructor
 ·rintro ⟨_, ess, e, h⟩
  have:ess=[a,b]:=by
   have e':=D.tup.inj e
   match ess,e' with
   | [x,y],e'=>simp at e';rw[e'.1,e'.2]
   | [],e'=>simp at e'
   | [x],e'=>simp at e'
   | x::y::z::r,e'=>simp at e'
  subst this
  simpa using h
 ·intro h
  exact⟨rfl,[a,b],rfl,by simpa using h⟩
end
end L2
namespace L2
open PySem PySem.Spec PyProof.Rows PySem.SeqAt
mutual
def okN:D->Nat->Bool
 | .non,_=>true
 | .int i,_=>decide (i.natAbs.log2<20)
 | .tup ds,k=>match k with
  | 0=>false
  | k+1=>okNs ds k
 | _,_=>false
def okNs:List D->Nat->Bool
 | [],_=>true
 | d::ds,k=>okN d k&&okNs ds k
end
def kStrN:List D->(D->Prop)->Prop:=fun es k=>∃ ds,es=[.tup ds]/\okN (.tup ds) 20=true/\nodR (.tup ds)<=400000/\k (.str (showA (.tup ds)))
@[simp] private theorem q_kStrN{ds k}:kStrN [.tup ds] k↔(okN (.tup ds) 20=true/\nodR (.tup ds)<=400000/\k (.str (showA (.tup ds)))):=⟨fun⟨_,e,h⟩=>by cases e;exact h,fun h=>⟨_,rfl,h⟩⟩
end L2
namespace L2
section
variable {A:AC}
def kBool:List D->(D->Prop)->Prop:=fun es k=>∃ i:Int,es=[.int i]/\k (.bl (i != 0))
@[simp] private theorem q_kBool{i:Int}{k}:kBool [.int i] k↔k (.bl (i != 0)):=⟨fun⟨_,e,h⟩=>by cases e;exact h,fun h=>⟨_,rfl,h⟩⟩
end
end L2
namespace L2
section
variable {A:AC} {X:Cx} {pos:Pos} {m:Nat}
def gdLst(k:Nat)(gs:TGsD):TGD:=fun d rho P=>∃ es,d=.lst es/\es.length=k/\gs es rho P
@[simp] private theorem q_gdLst{k gs es rho P}:gdLst k gs (.lst es) rho P↔(es.length=k/\gs es rho P):=⟨fun⟨_,e,h⟩=>by cases e;exact h,fun h=>⟨_,rfl,h⟩⟩
end
end L2
namespace L2
section
variable {A:AC} {X:Cx}
def showN:D->Str
 | .non => "None"
 | d=>showA d
def okRN(d:D):Prop:=d=.non\/(isTL d=true/\okR d 20=true/\nodR d<=8000)
def kReprN:List D->(D->Prop)->Prop:=fun es k=>∃ d,es=[d]/\okRN d/\k (.str (showN d))
@[simp] private theorem q_kReprN{d k}:kReprN [d] k↔(okRN d/\k (.str (showN d))):=⟨fun⟨_,e,h⟩=>by cases e;exact h,fun h=>⟨_,rfl,h⟩⟩
end
private theorem lo{sc:Scope}{x:Str}(h:(match sc.names.lookup x with | some .local=>true | some .cell=>true | _=>false)=true):Loc sc x:=by
 unfold Loc
 split at h
 ·exact .inl (by assumption)
 ·exact .inr (by assumption)
 ·cases h
end L2
namespace L2
open PySem PySem.Spec PyProof.Rows PySem.SeqAt
section
variable {A:AC} {X:Cx}
def rdNoneIn:RD2:=fun d1 d2 k=>d1=.non/\∃ ess:List (List D),d2=.lst (ess.map D.lst)/\k (.bl false)
@[simp] private theorem q_noneIn{a b k}:rdNoneIn .non (.lst [.lst a,.lst b]) k↔k (.bl false):=⟨fun⟨_,_,_,h⟩=>h,fun h=>⟨rfl,[a,b],rfl,h⟩⟩
def kLenD:List D->(D->Prop)->Prop:=fun es k=>∃ ks ds,es=[.dct ks ds]/\ks.length=ds.length/\k (.int (ks.length:Int))
@[simp] private theorem q_kLenD{ks ds k}:kLenD [.dct ks ds] k↔(ks.length=ds.length/\k (.int (ks.length:Int))):=⟨fun⟨_,_,e,h⟩=>by cases e;exact h,fun h=>⟨_,_,rfl,h⟩⟩
end
end L2
namespace L2
open PySem PySem.Spec PyProof.Rows PySem.SeqAt
section
variable {A:AC} {X:Cx}
def dBits(te:TD):TD:=fun rho n P=>te rho n fun d n1=>∃ x:Int,d=.int x/\P (.int ((Builtin.Int.intBits x:Nat):Int)) n1
@[simp] private theorem q_dBits{te:TD}{rho:Rho}{n:Nat}{P:D->Nat->Prop}:dBits te rho n P=te rho n fun d n1=>∃ x:Int,d=.int x/\P (.int ((Builtin.Int.intBits x:Nat):Int)) n1:=rfl
end
end L2
namespace L2
open PySem PySem.Spec PyProof.Rows PySem.SeqAt
section
variable {A:AC} {X:Cx}
def kListR:List D->(D->Prop)->Prop:=fun es k=>∃ j:Int,es=[.int j]/\0<=j/\j<=1000/\k (.lst ((List.range j.toNat).map fun i:Nat=>D.int (i:Int)))
@[simp] private theorem q_kListR{j:Int}{k:D->Prop}:kListR [.int j] k↔(0<=j/\j<=1000/\k (.lst ((List.range j.toNat).map fun i:Nat=>D.int (i:Int)))):=⟨fun⟨_,e,h⟩=>by cases e;exact h,fun h=>⟨_,rfl,h⟩⟩
end
end L2
namespace L2
section
variable {X:Cx} {pins:List (Addr × Obj)} {σ:St} {H:Hp} {s:Shared}
private theorem Inv.pin1{a:Addr}{o:Obj}(I:Inv X pins σ H s)(hf:FpOk X pins H a)(ho:s.heap.get? a=some o)(hc:∀ v,o.data≠.cell v):Inv X ((a,o)::pins) σ H s:=by
 refine⟨I.ok,I.os,I.bare,I.base,I.loc,I.cell,I.free,I.freeC,fun p hp=>?_,I.hok,I.len⟩
 rcases List.mem_append.mp hp with hp | hp
 ·exact I.pin p (mem_append_left _ hp)
 ·rcases List.mem_cons.mp hp with rfl | hp
  ·exact⟨ho,hf.1,hf.2.1,hf.2.2.1,hc⟩
  ·exact I.pin p (mem_append_right _ hp)
private theorem Inv.unpin{q:Addr × Obj}(I:Inv X (q::pins) σ H s):Inv X pins σ H s :=
 ⟨I.ok, I.os, I.bare, I.base, I.loc, I.cell, I.free, I.freeC, fun p hp => I.pin p (by
  rcases List.mem_append.mp hp with hp | hp
  ·exact mem_append_left _ hp
  ·exact mem_append_right _ (mem_cons_of_mem _ hp)),I.hok,I.len⟩
private theorem FpOk.reH{b:Addr}{H':Hp}(h:FpOk X pins H b)(hn:H' b=none):FpOk X pins H' b:=⟨hn,h.2⟩
private theorem FpOk.more{b:Addr}{q:Addr × Obj}(h:FpOk X pins H b)(hq:q.1≠b):FpOk X (q::pins) H b :=
 ⟨h.1, h.2.1, h.2.2.1, h.2.2.2.1, h.2.2.2.2.1, fun p hp => by
  rcases List.mem_append.mp hp with hp | hp
  ·exact h.2.2.2.2.2 p (mem_append_left _ hp)
  ·rcases List.mem_cons.mp hp with rfl | hp
   ·exact hq
   ·exact h.2.2.2.2.2 p (mem_append_right _ hp)⟩
private theorem Inv.pinAt{q:Addr × Obj}(I:Inv X pins σ H s)(h:q∈pins):s.heap.get? q.1=some q.2/\H q.1=none :=
 let z:=I.pin q (mem_append_right _ h);⟨z.1,z.2.1⟩
end
end L2
namespace L2
abbrev twoC(elt tg1 it1:Expr)(ifs1:List Expr)(tg2 it2:Expr)(ifs2:List Expr)(scope:Scope)(pos:Pos):Expr:=.ListComp elt [⟨tg1,it1,ifs1,0⟩,⟨tg2,it2,ifs2,0⟩] scope pos
private theorem turn_two0(elt tg1 it1:Expr)(ifs1:List Expr)(tg2 it2:Expr)(ifs2:List Expr)(scope:Scope)(pos:Pos)(it acc:Value)(env:Env) :
  compTurn (twoC elt tg1 it1 ifs1 tg2 it2 ifs2 scope pos) 0 it acc env=(do
   standAt it1.pos
   match <- pyNext it with
   | none=>pure (.done .next)
   | some v =>
    letOwnedTupleGo tg1 it v
    assign tg1 env v
    let ok <- cTests ifs1 env
    if ok then
     let x <- eval it2 env
     standAt it2.pos
     let x <- foldedSetIterable it2 env x
     let _ <- runOwn (.compStart (twoC elt tg1 it1 ifs1 tg2 it2 ifs2 scope pos) 1 (<- holding [x] (pyIter x)) acc env) env
    again (.compLoop (twoC elt tg1 it1 ifs1 tg2 it2 ifs2 scope pos) 0 it acc env)):=by rfl
private theorem turn_two1(elt tg1 it1:Expr)(ifs1:List Expr)(tg2 it2:Expr)(ifs2:List Expr)(scope:Scope)(pos:Pos)(it acc:Value)(env:Env) :
  compTurn (twoC elt tg1 it1 ifs1 tg2 it2 ifs2 scope pos) 1 it acc env=(do
   standAt it2.pos
   match <- pyNext it with
   | none=>pure (.done .next)
   | some v =>
    letOwnedTupleGo tg2 it v
    assign tg2 env v
    let ok <- cTests ifs2 env
    if ok then
     (do let _ <- call (.builtin "list.append") [acc,<- eval elt env])
    again (.compLoop (twoC elt tg1 it1 ifs1 tg2 it2 ifs2 scope pos) 1 it acc env)):=by rfl
section
variable {prog:Program} {w:World} {A:Around} {R:Result->Shared->Prop} {s:Shared} {elt tg1 it1 tg2 it2:Expr} {ifs1 ifs2:List Expr} {scope:Scope} {pos:Pos} {it acc:Value} {env:Env}
private theorem upF{α:Type}{t:Sem α}{Q Q':α->Shared->Prop}{E:Value->Shared->Prop}{s:Shared}(h:wpAny (model prog w) A t Q (fun _ _=>False) s)(f:∀ a s,Q a s->Q' a s):wpAny (model prog w) A t Q' E s:=wpAny_mono h f fun _ _ z=>False.elim z
private theorem comp_loop0(J:Nat->Shared->Prop)(hs:∀ x,foldedSetIterable it2 env x=pure x)
  (turn : ∀ n s, J n s -> wpAny (model prog w) A (pyNext it) (fun r s1 => match r with
   | none=>R (.ok .next) s1
   | some v => wpAny (model prog w) A (letOwnedTupleGo tg1 it v) (fun _ s2 => wpAny (model prog w) A (assign tg1 env v) (fun _ s3 => wpAny (model prog w) A (cTests ifs1 env) (fun ok s4 =>
     if ok=true then wpAny (model prog w) A (eval it2 env) (fun x s5=>wpAny (model prog w) A (pyIter x) (fun itv s6=>codeAny (model prog w) A (.compStart (twoC elt tg1 it1 ifs1 tg2 it2 ifs2 scope pos) 1 itv acc env) (fun r s7=>(∃ f,r=.ok f)/\∃ m,m<n/\J m s7) s6) (fun _ _=>False) s5) (fun _ _=>False) s4
     else ∃ m,m<n/\J m s4) (fun _ _=>False) s3) (fun _ _=>False) s2) (fun _ _=>False) s1) (fun _ _=>False) s)
  (n:Nat) (h:J n s):codeAny (model prog w) A (.compLoop (twoC elt tg1 it1 ifs1 tg2 it2 ifs2 scope pos) 0 it acc env) R s:=by
 refine codeAny_loop rfl J (fun n s hJ=>?_) n h
 show wpAny _ A ((compTurn (twoC elt tg1 it1 ifs1 tg2 it2 ifs2 scope pos) 0 it acc env).onRaise (fun x=>do noteFrame x env;theTreesLotGoes x)) _ _ s
 refine wpAny_noted ?_
 rw[turn_two0]
 refine wpAny_bind (wpAny_standAt (wpAny_bind (upF (turn n s hJ) fun r s1 h1=>?_)))
 cases r with
 | none=>exact wpAny_pure h1
 | some v =>
  refine wpAny_bind (upF h1 fun _ s2 h2=>?_)
  refine wpAny_bind (upF h2 fun _ s3 h3=>?_)
  refine wpAny_bind (upF h3 fun ok s4 h4=>?_)
  cases ok with
  | false=>exact wpAny_pure ⟨rfl,h4⟩
  | true =>
   refine wpAny_bind (upF h4 fun x s5 h5=>?_)
   refine wpAny_bind (wpAny_standAt (wpAny_bind (wpAny_of_eq (hs x) ?_)))
   refine wpAny_bind (wpAny_holding (upF h5 fun itv s6 h6=>?_))
   refine wpAny_bind (wpAny_runOwn (codeAny_mono (show codeAny (model prog w) (A.mark none) _ _ _ from h6) fun r s7 h7=>?_))
   obtain⟨⟨f,rfl⟩,h7⟩:=h7
   exact wpAny_pure ⟨rfl,h7⟩
private theorem comp_loop1(J:Nat->Shared->Prop)
  (turn : ∀ n s, J n s -> wpAny (model prog w) A (pyNext it) (fun r s1 => match r with
   | none=>R (.ok .next) s1
   | some v => wpAny (model prog w) A (letOwnedTupleGo tg2 it v) (fun _ s2 => wpAny (model prog w) A (assign tg2 env v) (fun _ s3 => wpAny (model prog w) A (cTests ifs2 env) (fun ok s4 =>
     if ok=true then wpAny (model prog w) A (eval elt env) (fun x s5=>wpAny (model prog w) A (call (.builtin "list.append") [acc,x]) (fun _ s6=>∃ m,m<n/\J m s6) (fun _ _=>False) s5) (fun _ _=>False) s4
     else ∃ m,m<n/\J m s4) (fun _ _=>False) s3) (fun _ _=>False) s2) (fun _ _=>False) s1) (fun _ _=>False) s)
  (n:Nat) (h:J n s):codeAny (model prog w) A (.compLoop (twoC elt tg1 it1 ifs1 tg2 it2 ifs2 scope pos) 1 it acc env) R s:=by
 refine codeAny_loop rfl J (fun n s hJ=>?_) n h
 show wpAny _ A ((compTurn (twoC elt tg1 it1 ifs1 tg2 it2 ifs2 scope pos) 1 it acc env).onRaise (fun x=>do noteFrame x env;theTreesLotGoes x)) _ _ s
 refine wpAny_noted ?_
 rw[turn_two1]
 refine wpAny_bind (wpAny_standAt (wpAny_bind (upF (turn n s hJ) fun r s1 h1=>?_)))
 cases r with
 | none=>exact wpAny_pure h1
 | some v =>
  refine wpAny_bind (upF h1 fun _ s2 h2=>?_)
  refine wpAny_bind (upF h2 fun _ s3 h3=>?_)
  refine wpAny_bind (upF h3 fun ok s4 h4=>?_)
  cases ok with
  | false=>exact wpAny_pure ⟨rfl,h4⟩
  | true=>exact wpAny_bind (wpAny_bind (upF h4 fun x s5 h5=>wpAny_bind (upF h5 fun _ s6 h6=>wpAny_pure (wpAny_pure ⟨rfl,h6⟩))))
private theorem start_two{d:Nat}(hd:d=0\/d=1)
  (h0:codeAny (model prog w) A (.compLoop (twoC elt tg1 it1 ifs1 tg2 it2 ifs2 scope pos) d it acc env) R s)
  (h:wpAny (model prog w) A (pyIter it) (fun it' s'=>codeAny (model prog w) A (.compLoop (twoC elt tg1 it1 ifs1 tg2 it2 ifs2 scope pos) d it' acc env) R s') (fun _ _=>False) s) :
  codeAny (model prog w) A (.compStart (twoC elt tg1 it1 ifs1 tg2 it2 ifs2 scope pos) d it acc env) R s:=by
 refine codeAny_of_tree ?_
 show wpAny _ _ ((compStart (twoC elt tg1 it1 ifs1 tg2 it2 ifs2 scope pos) d it acc env).onRaise (fun x=>do noteFrame x env;standAt theWindowsPlace)) _ _ s
 refine wpAny_notedAt ?_
 unfold compStart
 rcases hd with rfl | rfl
 ·show wpAny _ _ (ask >>= _) _ _ s
  refine wpAny_bind (wpAny_askSetting (wpAny_ite ?_))
  split
  ·first
    | exact wpAny_bind (wpAny_pure (wpAny_pure ⟨rfl,h0⟩))
    | exact wpAny_pure ⟨rfl,h0⟩
  ·refine wpAny_bind (wpAny_rule ?_)
   show wpAny _ _ (standAt it1.pos >>= _) _ _ s
   exact wpAny_bind (wpAny_standAt (wpAny_bind (upF h fun it' s' h'=>wpAny_pure ⟨rfl,h'⟩)))
 ·show wpAny _ _ (ask >>= _) _ _ s
  refine wpAny_bind (wpAny_askSetting (wpAny_ite ?_))
  split
  ·first
    | exact wpAny_bind (wpAny_pure (wpAny_pure ⟨rfl,h0⟩))
    | exact wpAny_pure ⟨rfl,h0⟩
  ·refine wpAny_bind (wpAny_rule ?_)
   show wpAny _ _ (standAt it2.pos >>= _) _ _ s
   exact wpAny_bind (wpAny_standAt (wpAny_bind (upF h fun it' s' h'=>wpAny_pure ⟨rfl,h'⟩)))
end
def Keeps(σ σ':St):Prop:=∀ (j:Nat) (v:V),σ[j]?=some (some v)->σ'[j]?=some (some v)
section
variable {X':Cx} {P5:List (Addr × Obj)} {σ6:St} {H8:Hp} {s8:Shared} {elt tg1 it1 tg2 it2:Expr} {ifs1 ifs2:List Expr} {scope:Scope} {pos:Pos} {g2:TG} {tt2:TT} {te:TE}
def InTurns(J2:It)(g2:TG)(tt2:TT)(te:TE)(Qs:List V->St->Hp->Prop)(W2:Nat->Nat->List V->St->Hp->Prop):Prop:=∀ i n acc σ H,W2 i n acc σ H ->
 (J2.stop i H /\ Qs acc σ H) \/ (J2.go i H /\ acc.length < sizeLine /\ ∀ y H6, J2.yld i H y H6 -> g2 y σ H6 fun σ3 H7 => tt2 σ3 H7 fun c H8 =>
  if c=true then te σ3 H8 fun v H9=>∃ n',n'<n/\W2 (i+1) n' (acc++[v]) σ3 H9 else ∃ n',n'<n/\W2 (i+1) n' acc σ3 H8)
private theorem inner_core(xc:X'.calm=true)(xe:X'.xe=fun _ _=>False)(gg:PG X' tg2 g2)(gt:PTs X' ifs2 tt2)(ge:PE X' elt te){D:Addr}{its:List Value}{k:Nat}{acc:List V}(I:Inv X' P5 σ6 H8 s8)(hD:H8 D=none)(hDo:s8.heap.get? D=some { cls:=.type "list",data:=.seq its.toArray k })(rv:Vals acc its)
  (dL:D≠X'.env.locals) (dF:D ∉ X'.fs) (dS:D∈X'.ex\/X'.s₀.heap.objs.size<=D) (dC:∀ x c,X'.env.cells.lookup x=some c->c≠D) (dP:∀ p∈X'.pn++P5,p.1≠D)
  {it:Addr} {fp:List Addr} {tn:Nat->Heap->Prop} {J2:It} (T:Turn X'.prog X'.w X'.K tg2 J2 fp it tn) (st:tn 0 s8.heap) (f:∀ b∈fp,FpOk X' P5 H8 b) (Dfp:D ∉ fp) {W2:Nat->Nat->List V->St->Hp->Prop} (w0:∃ n,W2 0 n acc σ6 H8) {Qs:List V->St->Hp->Prop} (turns:InTurns J2 g2 tt2 te Qs W2) :
  codeAny (model X'.prog X'.w) X'.A (.compLoop (twoC elt tg1 it1 ifs1 tg2 it2 ifs2 scope pos) 1 (.ref it) (.ref D) X'.env)
   (fun r s'=>(∃ f,r=.ok f)/\∃ σ' acc2 its' k' H',Inv X' P5 σ' H' s'/\H' D=none/\s'.heap.get? D=some { cls:=.type "list",data:=.seq (List.toArray its') k' }/\Vals acc2 its'/\Qs acc2 σ' H') s8:=by
 obtain⟨n0,w0⟩:=w0
 refine comp_loop1 (fun n s'=>∃ i acc σ' H' its k,Inv X' P5 σ' H' s'/\tn i s'.heap/\(∀ b∈fp,H' b=none)/\H' D=none /\
   s'.heap.get? D=some { cls:=.type "list",data:=.seq (List.toArray its) k }/\Vals acc its/\W2 i n acc σ' H') ?_ n0 ⟨0,acc,σ6,H8,its,k,I,st,fun b hb=>(f b hb).1,hD,hDo,rv,w0⟩
 rintro n s3 ⟨i,acc,σ3,H3,its,k,I3,st3,fr3,hD,hDo,rv,w3⟩
 have nc:∀ (xs:Array Value) (m:Nat) (v:Option Value),({ cls:=.type "list",data:=.seq xs m }:Obj).data≠.cell v:=fun _ _ _ z=>by cases z
 have fD:FpOk X' P5 H3 D:=⟨hD,dL,dF,dS,dC,dP⟩
 have I3':=I3.pin1 fD hDo (nc _ _)
 have ff:∀ {H:Hp},(∀ b∈fp,H b=none)->∀ b∈fp,FpOk X' ((D,{ cls:=.type "list",data:=.seq (List.toArray its) k })::P5) H b:=fun {H} hn b hb=>((f b hb).reH (hn b hb)).more fun(z:D=b)=>Dfp (by rw[z];exact hb)
 rcases turns i n acc σ3 H3 w3 with ⟨stop,q⟩ | ⟨go,hsz,step⟩
 ·refine thn (T.done X' rfl rfl rfl xc i _ s3 σ3 H3 (fun _ _ => False) I3' (ff fr3) st3 stop) fun r s4 ⟨hr, I5⟩ => ?_
  subst hr
  exact⟨⟨_,rfl⟩,σ3,acc,its,k,H3,I5.unpin,hD,(I5.pinAt (.head _)).1,rv,q⟩
 ·refine thn (T.item X' rfl rfl rfl xc i _ s3 σ3 H3 (fun _ _ => False) I3' (ff fr3) st3 go) fun r s4 ⟨u, hr, h4⟩ => ?_
  subst hr
  refine thn h4 fun _ s5 ⟨y,H5,I5,r5,y5,st5,fr5⟩=>?_
  have I5p:=I5.pinned (ff fr5) (T.obj _ _ st5)
  have a1:=gg _ s5 _ H5 y u _ I5p r5 (step y H5 y5)
  rw[xe] at a1
  refine thn a1 fun _ s6 ⟨σ7,H6,I6,q6⟩=>?_
  have a2:=gt _ s6 σ7 H6 _ I6 q6
  rw[xe] at a2
  refine thn a2 fun b s7 ⟨H7,I7,q7⟩=>?_
  have back:∀ {H:Hp} {s:Shared},Inv X' (((D,{ cls:=.type "list",data:=.seq (List.toArray its) k })::P5)++pinsAt fp s5.heap) σ7 H s ->
    (tn (i+1) s.heap/\(∀ b∈fp,H b=none)/\H D=none/\s.heap.get? D=some { cls:=.type "list",data:=.seq (List.toArray its) k }/\Inv X' P5 σ7 H s):=fun {H s} I=>by
   refine⟨T.keep _ _ _ st5 fun b hb o e=>(I.pinAt (mem_append_right _ (mem_pinsAt hb e))).1,fun b hb=>?_,(I.pinAt (q:=(D,_)) (mem_append_left _ (.head _))).2,(I.pinAt (q:=(D,_)) (mem_append_left _ (.head _))).1,I.pins_of fun p hp=>?_⟩
   ·obtain ⟨o, e, d⟩ := T.obj _ _ st5 b hb
    exact(I.pinAt (q:=(b,o)) (mem_append_right _ (mem_pinsAt hb e))).2
   ·exact I.pin p (mem_append_right _ (mem_append_left _ (.tail _ hp)))
  cases b with
  | false =>
   obtain⟨p1,p2,p3,p4,p5⟩:=back I7
   obtain⟨m',hm,w7⟩:=q7
   exact⟨m',hm,i+1,acc,σ7,H7,its,k,p5,p1,p2,p3,p4,rv,w7⟩
  | true =>
   rw[if_pos rfl] at q7 ⊢
   have a3:=ge _ s7 σ7 H7 _ I7 q7
   rw[xe] at a3
   refine thn a3 fun z s8 ⟨v,H8,I8,r8,q8⟩=>?_
   obtain⟨p1,p2,p3,p4,p5⟩:=back I8
   obtain⟨m',hm,w8⟩:=q8
   have hl:=rv.length
   refine wpAny_list_append_plain (items:=List.toArray its) ⟨k,p4⟩ (fun h' hpl hs=>?_) (by simp;lia)
   obtain⟨k',hpl⟩:=hpl
   have I9:Inv X' P5 σ7 H8 { s8 with heap:=h' }:=p5.turned (t':=s8.toks) (fun b o hb e=>hs.extBut b o hb e) p3 dL dS dC dP
   refine⟨m',hm,i+1,acc++[v],σ7,H8,its++[z],k',I9,T.keep _ _ _ p1 fun b hb o e=>hs.extBut b o (fun z=>Dfp (by rw[<- z];exact hb)) e,p2,p3,?_,rv.append (.cons r8 .nil),w8⟩
   rw[hpl];simp
end
end L2
namespace L2
def tComp2(wi:TI)(own:Nat)(g1:TG)(tt1:TT)(wi2:TI)(g2:TG)(tt2:TT)(te:TE):TE:=fun σ H Q=>wi σ H fun J H1=>∃ W:Nat->Nat->List V->Hp->Prop,(∃ m,W 0 m [] H1)/\∀ i m acc H,W i m acc H ->
 (J.stop i H/\acc.length<=sizeLine/\∀ D,H D=none->Q (.ref D) (upd H D (.lst acc))) \/
 (J.go i H /\ ∀ x H', J.yld i H x H' -> g1 x (List.replicate own none ++ σ) H' fun σ2 H2 => Keeps (List.replicate own none ++ σ) σ2 /\ tt1 σ2 H2 fun c H3 =>
  if c=true then wi2 σ2 H3 fun J2 H4=>∃ W2:Nat->Nat->List V->St->Hp->Prop,(∃ n,W2 0 n acc σ2 H4)/\InTurns J2 g2 tt2 te (fun acc2 σ5 H5=>Keeps (replicate own none++σ) σ5/\∃ m',m'<m/\W (i+1) m' acc2 H5) W2
  else ∃ m',m'<m/\W (i+1) m' acc H3)
section
variable {X:Cx} {scope:Scope} {own M:List Str} {pins:List (Addr × Obj)} {σ:St} {H2:Hp} {s2:Shared} {elt tg1 it1 tg2 it2:Expr} {ifs1 ifs2:List Expr} {pos:Pos} {g1 g2:TG} {tt1 tt2:TT} {te:TE} {wi2:TI}
private theorem comp_core2(ok:CompOk X scope M)(hc:X.calm=true)(hg:∀ C s2 H2 fp,PG (cxComp X scope own M C s2 H2 fp) tg1 g1)(ht:∀ C s2 H2 fp,PTs (cxComp X scope own M C s2 H2 fp) ifs1 tt1)(hi2:∀ C s2 H2 fp,PI (cxComp X scope own M C s2 H2 fp) tg2 it2 wi2)
  (hg2:∀ C s2 H2 fp,PG (cxComp X scope own M C s2 H2 fp) tg2 g2) (ht2:∀ C s2 H2 fp,PTs (cxComp X scope own M C s2 H2 fp) ifs2 tt2) (he:∀ C s2 H2 fp,PE (cxComp X scope own M C s2 H2 fp) elt te) (hs2:∀ C s2 H2 fp x,foldedSetIterable it2 (cxComp X scope own M C s2 H2 fp).env x=pure x)
  (I2:Inv X pins σ H2 s2) {it:Addr} {fp:List Addr} {tn:Nat->Heap->Prop} {J:It} (T:Turn X.prog X.w X.K tg1 J fp it tn) (st2:tn 0 s2.heap) (f2:∀ b∈fp,FpOk X pins H2 b)
  {W:Nat->Nat->List V->Hp->Prop} (w0:∃ m,W 0 m [] H2) {Qf:V->Hp->Prop}
  (turn : ∀ i m acc H, W i m acc H -> (J.stop i H /\ acc.length <= sizeLine /\ ∀ D, H D = none -> Qf (.ref D) (upd H D (.lst acc))) \/
   (J.go i H /\ ∀ x H', J.yld i H x H' -> g1 x (List.replicate own.length none ++ σ) H' fun σ2 H2 => Keeps (List.replicate own.length none ++ σ) σ2 /\ tt1 σ2 H2 fun c H3 =>
    if c=true then wi2 σ2 H3 fun J2 H4=>∃ W2:Nat->Nat->List V->St->Hp->Prop,(∃ n,W2 0 n acc σ2 H4)/\InTurns J2 g2 tt2 te (fun acc2 σ5 H5=>Keeps (replicate own.length none++σ) σ5/\∃ m',m'<m/\W (i+1) m' acc2 H5) W2
    else ∃ m',m'<m/\W (i+1) m' acc H3))
  {RR:Value->Addr->Result->Shared->Prop} {E:Value->Shared->Prop}
  (fin:∀ D C H' s' m,Inv X pins σ H' s'->Qf (.ref D) H'->s'.heap.Ns C m->H' C=none->C≠X.env.locals->X.s₀.heap.objs.size<=C->(∀ x c,X.env.cells.lookup x=some c->c≠C)->(∀ p∈X.pn++pins,p.1≠C)->RR (.ref D) C (.ok .next) s') :
  wpAny (model X.prog X.w) X.A (newList []) (fun acc s3=>wpAny (model X.prog X.w) X.A (newFunctionEnv scope X.env.globals (closL X.env scope.names []) [] X.env.qual none .none (some X.env)) (fun cenv s4 =>
   codeAny (model X.prog X.w) X.A (.compStart (twoC elt tg1 it1 ifs1 tg2 it2 ifs2 scope pos) 0 (.ref it) acc { cenv with scope:=relabel scope X.env }) (RR acc cenv.locals) s4) E s3) E s2:=by
 refine wpAny_newObj_type (newEnv_comp ?_)
 have zC:(s2.heap.push { cls:=.type "list",dict:=none,data:=.seq ([]:List Value).toArray }).objs.size=s2.heap.objs.size+1:=Heap.size_push ..
 dsimp only
 rw[zC]
 generalize hC:s2.heap.objs.size+1=C
 generalize hh:pushCells ((s2.heap.push { cls:=.type "list",dict:=none,data:=.seq ([]:List Value).toArray }).push { cls:=.type "dict",data:=.dict #[] }) scope.names=h4
 have fpl:∀ b∈fp,FpOk X pins H2 b/\b<s2.heap.objs.size:=fun b hb=>by
  obtain⟨o,e,_⟩:=T.obj 0 _ st2 b hb
  exact⟨f2 b hb,Heap.lt_size e⟩
 have I4:Inv (cxComp X scope own M C s2 H2 fp) [] (replicate own.length none++σ) H2 { s2 with heap:=h4 }:=inv_comp ok hc I2 fpl hC.symm hh.symm
 generalize hX:cxComp X scope own M C s2 H2 fp=X' at I4
 have keep4:∀ b o,s2.heap.get? b=some o->h4.get? b=some o:=fun b o e=>by
  rw[<- hh];exact pushCells_keeps _ _ _ _ (Heap.get?_push_of_some _ (Heap.get?_push_of_some _ e))
 have hD4:h4.get? s2.heap.objs.size=some { cls:=.type "list",dict:=none,data:=.seq ([]:List Value).toArray }:=by
  rw[<- hh];exact pushCells_keeps _ _ _ _ (Heap.get?_push_of_some _ (Heap.get?_push_size _ rfl))
 have st4:tn 0 h4:=T.keep _ _ _ st2 fun b hb o e=>keep4 b o e
 have gg:PG X' tg1 g1:=by rw[<- hX];exact hg C s2 H2 fp
 have gt:PTs X' ifs1 tt1:=by rw[<- hX];exact ht C s2 H2 fp
 have gi:PI X' tg2 it2 wi2:=by rw[<- hX];exact hi2 C s2 H2 fp
 have gg2:PG X' tg2 g2:=by rw[<- hX];exact hg2 C s2 H2 fp
 have gt2:PTs X' ifs2 tt2:=by rw[<- hX];exact ht2 C s2 H2 fp
 have ge:PE X' elt te:=by rw[<- hX];exact he C s2 H2 fp
 have gs:∀ x,foldedSetIterable it2 X'.env x=pure x:=by rw[<- hX];exact hs2 C s2 H2 fp
 have xP:X'.prog=X.prog:=by rw[<- hX];rfl
 have xw:X'.w=X.w:=by rw[<- hX];rfl
 have xK:X'.K=X.K:=by rw[<- hX];rfl
 have xA:X'.A=X.A:=by rw[<- hX];rfl
 have xc:X'.calm=true:=by rw[<- hX];exact hc
 have xpn:X'.pn=[]:=by rw[<- hX];rfl
 have xs:X'.s₀=s2:=by rw[<- hX];rfl
 have xH:X'.H₀=H2:=by rw[<- hX];rfl
 have xL:X'.env.locals=C:=by rw[<- hX];rfl
 have xfs:X'.fs=frs X.stack:=by rw[<- hX];rfl
 have xex:X'.ex=fp:=by rw[<- hX];rfl
 have xe:X'.xe=fun _ _=>False:=by rw[<- hX];rfl
 have xenv:({ newEnv scope C X.env.globals (cellsFrom (C+1) scope.names (closL X.env scope.names [])) X.env.qual none .none (some X.env) builtinsNs with scope:=relabel scope X.env }:Env)=X'.env:=by rw[<- hX];rfl
 have Dlt:s2.heap.objs.size<C:=by rw[<- hC];exact Nat.lt_succ_self _
 have fpb:∀ {pl:List (Addr × Obj)} {H:Hp},(∀ b∈fp,H b=none)->(∀ p∈pl,p.1 ∉ fp)->∀ b∈fp,FpOk X' pl H b:=fun {pl H} hn hpl b hb=>by
  refine⟨hn b hb,(I4.ok.exf b (by rw[xex];exact hb)).1,I4.ok.exfs b (by rw[xex];exact hb),.inl (by rw[xex];exact hb),fun x c e=>(I4.ok.exf b (by rw[xex];exact hb)).2 x c e,fun p hp z=>?_⟩
  rw[xpn,nil_append] at hp
  exact hpl p hp (by rw[z];exact hb)
 have Dfp:s2.heap.objs.size ∉ fp:=fun z=>Nat.lt_irrefl _ (fpl _ z).2
 have DC:s2.heap.objs.size≠C:=Nat.ne_of_lt Dlt
 have Dcell:∀ x c,X'.env.cells.lookup x=some c->c≠s2.heap.objs.size:=fun x c e z=>by
  obtain⟨v,o,q,hd⟩:=I4.cell x c e
  rw[z] at q
  have q':h4.get? s2.heap.objs.size=some o:=q
  rw[hD4] at q'
  cases q'
  cases hd
 have Dfs:s2.heap.objs.size ∉ X'.fs:=fun z=>by
  obtain⟨_,o,ho,_⟩:=I4.ok.funs.mem (by exact z)
  rw[xs] at ho
  exact Nat.lt_irrefl _ (Heap.lt_size ho)
 have nc:∀ (xs:Array Value) (m:Nat) (v:Option Value),({ cls:=.type "list",data:=.seq xs m }:Obj).data≠.cell v:=fun _ _ _ z=>by cases z
 have dL:s2.heap.objs.size≠X'.env.locals:=by rw[xL];exact DC
 have dS:s2.heap.objs.size∈X'.ex\/X'.s₀.heap.objs.size<=s2.heap.objs.size:=.inr (by rw[xs];exact Nat.le_refl _)
 rw[xenv]
 have goal : ∀ s5 : Shared, s5 = { s2 with heap := h4 } -> codeAny (model X.prog X.w) X.A (.compLoop (twoC elt tg1 it1 ifs1 tg2 it2 ifs2 scope pos) 0 (.ref it) (.ref s2.heap.objs.size) X'.env) (RR (.ref s2.heap.objs.size) C) s5 := by
  rintro s5 rfl
  obtain⟨m0,w0⟩:=w0
  refine comp_loop0 (fun n s'=>∃ i acc σ' H' its k,Inv X' [] σ' H' s'/\Keeps (replicate own.length none++σ) σ'/\tn i s'.heap/\(∀ b∈fp,H' b=none)/\H' s2.heap.objs.size=none /\
   s'.heap.get? s2.heap.objs.size=some { cls:=.type "list",data:=.seq (List.toArray its) k }/\Vals acc its/\W i n acc H') gs ?_ m0
   ⟨0,[],_,H2,[],0,I4,(fun _ _ e=>e),st4,fun b hb=>(f2 b hb).1,I2.hok.fresh (Nat.le_refl _),hD4,.nil,w0⟩
  rintro n s3 ⟨i,acc,σ3,H3,its,k,I3,hσ,st3,fr3,hD,hDo,rv,w3⟩
  have fD:∀ {H:Hp},H s2.heap.objs.size=none->FpOk X' [] H s2.heap.objs.size:=fun hn=>⟨hn,dL,Dfs,dS,Dcell,fun p hp=>by rw[xpn] at hp;simp at hp⟩
  have plD:∀ p∈[((s2.heap.objs.size,{ cls:=.type "list",data:=.seq (List.toArray its) k }):Addr × Obj)],p.1 ∉ fp:=fun p hp=>by
   have e:p=(s2.heap.objs.size,{ cls:=.type "list",data:=.seq (List.toArray its) k }):=by simpa using hp
   subst e
   exact Dfp
  have I3':=I3.pin1 (fD hD) hDo (nc _ _)
  rcases turn i n acc H3 w3 with ⟨stop,hsz,q⟩ | ⟨go,step⟩
  ·have := T.done X' xP xw xK xc i _ s3 σ3 H3 (fun _ _ => False) I3' (fpb fr3 plD) st3 stop
   rw[xA] at this
   refine thn this fun r s4 ⟨hr,I5⟩=>?_
   subst hr
   have hDo5:=(I5.pinAt (.head _)).1
   have un:Un (frs X.stack) fp H2 H3 s2.heap s4.heap:=by
    have:=I5.base
    rw[xfs,xex,xH,xs] at this
    exact this
   have os:s4.os=s2.os:=by rw[I5.os,xs]
   have hok:HOk X.prog X.w H3 s4.heap:=by have:=I5.hok;rw[xP,xw] at this;exact this
   have IX:Inv X pins σ H3 s4:=I2.call' os un hok I5.bare fun b hb=>by
    obtain⟨_,f1,_,f3,f4,f5⟩:=f2 b hb
    exact⟨f3,f1,f4,f5⟩
   have old:∀ {b:Addr},s2.heap.objs.size<=b->(X.s₀.heap.objs.size<=b/\b≠X.env.locals/\(∀ x c,X.env.cells.lookup x=some c->c≠b)/\∀ p∈X.pn++pins,p.1≠b):=fun {b} hb=>by
    obtain⟨_,f1,_,f3,f4,f5⟩:=I2.fpOk (H':=fun _=>none) hb rfl
    exact⟨Nat.le_trans I2.sz hb,f1,f4,f5⟩
   obtain⟨d1,d2,d3,d4⟩:=old (Nat.le_refl s2.heap.objs.size)
   obtain⟨c1,c2,c3,c4⟩:=old (b:=C) (Nat.le_of_lt Dlt)
   have IY:Inv X pins σ (upd H3 s2.heap.objs.size (.lst acc)) s4:=IX.track hD d1 d2 d3 d4 ⟨hsz,its,k,rv,hDo5⟩
   obtain⟨m,hm,_⟩:=I5.loc
   rw[xL] at hm
   have hCn:H3 C=none:=by have:=I5.free;rw[xL] at this;exact this
   exact fin _ C _ s4 m IY (q _ hD) hm (by rw[upd_ne (Ne.symm DC)];exact hCn) c2 c1 c3 c4
  ·have := T.item X' xP xw xK xc i _ s3 σ3 H3 (fun _ _ => False) I3' (fpb fr3 plD) st3 go
   rw[xA] at this
   refine thn this fun r s4 ⟨u,hr,h4⟩=>?_
   subst hr
   refine thn h4 fun _ s5 ⟨x,H5,I5,r5,y5,st5,fr5⟩=>?_
   have I5w:=I5.weak (σ':=replicate own.length none++σ) (I4.len.trans I5.len.symm) hσ
   have I5p:=I5w.pinned (fpb fr5 plD) (T.obj _ _ st5)
   have a1:=gg _ s5 _ H5 x u _ I5p r5 (step x H5 y5)
   rw[xP,xw,xA,xe] at a1
   refine thn a1 fun _ s6 ⟨σ6,H6,I6,d6,q6⟩=>?_
   have a2:=gt _ s6 σ6 H6 _ I6 q6
   rw[xP,xw,xA,xe] at a2
   refine thn a2 fun b s7 ⟨H7,I7,q7⟩=>?_
   have outer:∀ {H:Hp} {s:Shared} {σ7:St},Inv X' (pinsAt fp s5.heap) σ7 H s->(tn (i+1) s.heap/\(∀ b∈fp,H b=none)/\Inv X' [] σ7 H s):=fun {H s σ7} I=>by
    refine⟨T.keep _ _ _ st5 fun b hb o e=>(I.pinAt (mem_pinsAt hb e)).1,fun b hb=>?_,I.pins_of fun p hp=>by simp at hp⟩
    obtain⟨o,e,d⟩:=T.obj _ _ st5 b hb
    exact(I.pinAt (q:=(b,o)) (mem_pinsAt hb e)).2
   have drop1:∀ {H:Hp} {s:Shared} {σ7:St},Inv X' ([((s2.heap.objs.size,{ cls:=.type "list",data:=.seq (List.toArray its) k }):Addr × Obj)]++pinsAt fp s5.heap) σ7 H s->Inv X' (pinsAt fp s5.heap) σ7 H s/\H s2.heap.objs.size=none/\s.heap.get? s2.heap.objs.size=some { cls:=.type "list",data:=.seq (List.toArray its) k }:=fun {H s σ7} I =>
    ⟨I.pins_of fun p hp=>I.pin p (mem_append_right _ (mem_append_right _ hp)),(I.pinAt (q:=(s2.heap.objs.size,_)) (mem_append_left _ (.head _))).2,(I.pinAt (q:=(s2.heap.objs.size,_)) (mem_append_left _ (.head _))).1⟩
   cases b with
   | false =>
    obtain⟨e1,e2,e3⟩:=drop1 I7
    obtain⟨p1,p2,p5⟩:=outer e1
    obtain⟨m',hm,w7⟩:=q7
    exact⟨m',hm,i+1,acc,σ6,H7,its,k,p5,d6,p1,p2,e2,e3,rv,w7⟩
   | true =>
    rw[if_pos rfl] at q7 ⊢
    have a3:=gi _ s7 σ6 H7 _ I7 q7
    rw[xP,xw,xA,xe] at a3
    refine thn a3 fun v s8 h8=>thn h8 fun itv s9 h9=>?_
    obtain⟨it2a,fp2,tn2,J2,H9,e9,I9,T2,st9,f9,W2,w9,turns9⟩:=h9
    subst e9
    obtain⟨e1,e2,e3⟩:=drop1 I9
    have D2:s2.heap.objs.size ∉ fp2:=fun z=>(f9 _ z).2.2.2.2.2 (s2.heap.objs.size,_) (mem_append_right _ (mem_append_left _ (.head _))) rfl
    have f9':∀ b∈fp2,FpOk X' (pinsAt fp s5.heap) H9 b:=fun b hb=>by
     obtain⟨z1,z2,z3,z4,z5,z6⟩:=f9 b hb
     refine⟨z1,z2,z3,z4,z5,fun p hp=>z6 p ?_⟩
     rcases List.mem_append.mp hp with hp | hp
     ·exact mem_append_left _ hp
     ·exact mem_append_right _ (mem_append_right _ hp)
    have dP:∀ p∈X'.pn++pinsAt fp s5.heap,p.1≠s2.heap.objs.size:=fun p hp z=>by
     rw[xpn,nil_append] at hp
     exact Dfp (by rw[<- z];exact(of_pinsAt hp).1)
    have run:=inner_core (tg1:=tg1) (it1:=it1) (it2:=it2) (ifs1:=ifs1) (scope:=scope) (pos:=pos) xc xe gg2 gt2 ge e1 e2 e3 rv dL Dfs dS Dcell dP T2 st9 f9' D2 w9 turns9
    rw[xP,xw,xA] at run
    have run2:codeAny (model X.prog X.w) X.A (.compLoop (twoC elt tg1 it1 ifs1 tg2 it2 ifs2 scope pos) 1 (.ref it2a) (.ref s2.heap.objs.size) X'.env) (fun r s7=>(∃ f,r=.ok f)/\∃ m,m<n/\∃ i acc σ' H' its k,Inv X' [] σ' H' s7/\Keeps (replicate own.length none++σ) σ'/\tn i s7.heap/\(∀ b∈fp,H' b=none)/\H' s2.heap.objs.size=none /\
      s7.heap.get? s2.heap.objs.size=some { cls:=.type "list",data:=.seq (List.toArray its) k }/\Vals acc its/\W i m acc H') s9:=codeAny_mono run fun r s' hq=>by
     obtain⟨hr,σ',acc2,its',k',H',I',k2,k3,k4,k1,m',hm,w'⟩:=hq
     obtain⟨p1,p2,p5⟩:=outer I'
     exact⟨hr,m',hm,i+1,acc2,σ',H',its',k',p5,k1,p1,p2,k2,k3,k4,w'⟩
    refine start_two (.inr rfl) run2 ?_
    have self:=T2.self X.A 0 s9 (fun it' s'=>codeAny (model X.prog X.w) X.A (.compLoop (twoC elt tg1 it1 ifs1 tg2 it2 ifs2 scope pos) 1 it' (.ref s2.heap.objs.size) X'.env) (fun r s7=>(∃ f,r=.ok f)/\∃ m,m<n/\∃ i acc σ' H' its k,Inv X' [] σ' H' s7/\Keeps (replicate own.length none++σ) σ'/\tn i s7.heap/\(∀ b∈fp,H' b=none)/\H' s2.heap.objs.size=none /\
      s7.heap.get? s2.heap.objs.size=some { cls:=.type "list",data:=.seq (List.toArray its) k }/\Vals acc its/\W i m acc H') s') (fun _ _=>False) st9 run2
    rw[xP,xw] at self
    exact self
 exact start_two (.inl rfl) (goal _ rfl) (T.self _ 0 _ _ _ st4 (goal _ rfl))
private theorem pe_comp2{wi:TI}(ok:CompOk X scope M)(hc:X.calm=true)(hi:PI X tg1 it1 wi)(hg:∀ C s2 H2 fp,PG (cxComp X scope own M C s2 H2 fp) tg1 g1)(ht:∀ C s2 H2 fp,PTs (cxComp X scope own M C s2 H2 fp) ifs1 tt1)(hi2:∀ C s2 H2 fp,PI (cxComp X scope own M C s2 H2 fp) tg2 it2 wi2)
  (hg2:∀ C s2 H2 fp,PG (cxComp X scope own M C s2 H2 fp) tg2 g2) (ht2:∀ C s2 H2 fp,PTs (cxComp X scope own M C s2 H2 fp) ifs2 tt2) (he:∀ C s2 H2 fp,PE (cxComp X scope own M C s2 H2 fp) elt te)
  (hs:∀ x,foldedSetIterable it1 X.env x=pure x:=by intro _;rfl) (hs2:∀ C s2 H2 fp x,foldedSetIterable it2 (cxComp X scope own M C s2 H2 fp).env x=pure x:=by intros;rfl) :
  PE X (twoC elt tg1 it1 ifs1 tg2 it2 ifs2 scope pos) (tComp2 wi own.length g1 tt1 wi2 g2 tt2 te):=by
 intro pins s σ H Q I h
 rw[eval_ListComp]
 refine wpAny_comprehension_free (use:=none) rfl hs (clos_for (ok.cells I)) ok.kind (fun x hx hl=>by rw[ok.uniq x hx,hl]) ?_
 refine thn (hi pins s σ H _ I h) fun v s1 h1=>thn h1 fun itv s2 h2=>?_
 obtain⟨it,fp,tn,J,H2,e,I2,T,st2,f2,W,w0,turn⟩:=h2
 subst e
 refine comp_core2 (Qf:=Q) ok hc hg ht hi2 hg2 ht2 he hs2 I2 T st2 f2 w0 turn fun D C H' s' m IY q hm hCn c2 c1 c3 c4=>⟨m,hm,fun h' hs'=>?_⟩
 exact⟨.ref D,H',IY.turned (t':=s'.toks) (fun b o hb e=>hs'.extBut b o hb e) hCn c2 (.inr c1) c3 c4,rfl,q⟩
end
end L2
namespace L2
def keepsD:Rho->Rho->Prop
 | [],[]=>True
 | none::r,_::r'=>keepsD r r'
 | some d::r,o::r'=>o=some d/\keepsD r r'
 | _,_=>False
@[simp] private theorem q_keeps0:keepsD [] []=True:=rfl
@[simp] private theorem q_keeps1{o:Option D}{r r':Rho}:keepsD (none::r) (o::r')=keepsD r r':=rfl
@[simp] private theorem q_keeps2{d:D}{o:Option D}{r r':Rho}:keepsD (some d::r) (o::r')=(o=some d/\keepsD r r'):=rfl
private theorem keepsD.at:∀ {r r':Rho},keepsD r r'->r.length=r'.length/\∀ (i:Nat) (d:D),r[i]?=some (some d)->r'[i]?=some (some d)
  | [],[],_=>⟨rfl,fun i d e=>by simp at e⟩
  | none :: r, o :: r', h => by
    have h':keepsD r r':=h
    obtain⟨h1,h2⟩:=h'.at
    refine⟨by simp[h1],fun i d e=>?_⟩
    cases i with
    | zero=>simp at e
    | succ i=>simpa using h2 i d (by simpa using e)
  | some c :: r, o :: r', h => by
    have h':o=some c/\keepsD r r':=h
    obtain⟨h1,h2⟩:=h'.2.at
    refine⟨by simp[h1],fun i d e=>?_⟩
    cases i with
    | zero => have e' : c = d := by simpa using e
              subst e'
              rw[h'.1];rfl
    | succ i=>simpa using h2 i d (by simpa using e)
  | [],_::_,h=>h.elim
  | none::_,[],h=>h.elim
  | some _::_,[],h=>h.elim
@[simp] private theorem keepsD_refl:∀ r:Rho,keepsD r r
 | []=>True.intro
 | none::r=>keepsD_refl r
 | some d::r=>⟨rfl,keepsD_refl r⟩
private theorem AmO.weakR{A:AC}{os:List (Nat × Addr)}{n:Nat}{rho rho':Rho}{sg:St}{H:Hp}{ds:List D}{vs:List V}(I:AmO A os n rho' sg H ds vs)(k:keepsD rho rho'):AmO A os n rho sg H ds vs :=
 ⟨k.at.1.trans I.len,fun i d e=>I.slot i d (k.at.2 i d e),I.pend,I.nd,I.fresh,I.st,I.gz,I.fr,I.z0⟩
private theorem keeps_drop{m:Nat}{sg sg2:St}(h:sg2.drop m=sg):Keeps (replicate m none++sg) sg2:=by
 intro j v e
 by_cases hj:j<m
 ·rw [List.getElem?_append_left (by simpa using hj), List.getElem?_replicate, if_pos hj] at e
  cases e
 ·rw [List.getElem?_append_right (by simpa using Nat.le_of_not_lt hj), List.length_replicate, <- h, List.getElem?_drop] at e
  rw[show m+(j-m)=j by lia] at e
  exact e
def inIn(g2:TGD)(tt2:TBD)(te:TD)(rho2:Rho)(acc:List D)(R:List D->Nat->Prop)(items2:List D)(n:Nat):Prop:=∃ J2:Nat->List D->Nat->Prop,J2 0 acc n /\
 (∀ i d acc n,items2[i]?=some d->J2 i acc n->acc.length<sizeLine/\g2 d rho2 fun rho3=>keepsD rho2 rho3/\tt2 rho3 n fun c n2=>if c=true then te rho3 n2 fun e n3=>J2 (i+1) (acc++[e]) n3 else J2 (i+1) acc n2) /\
 ∀ acc n,J2 items2.length acc n->R acc n
def compIn2(own:Nat)(g1:TGD)(tt1:TBD)(it2:TID)(g2:TGD)(tt2:TBD)(te:TD)(rho:Rho)(P:D->Nat->Prop)(items:List D)(n1:Nat):Prop:=∃ J:Nat->List D->Nat->Prop,J 0 [] n1 /\
 (∀ i d acc n,items[i]?=some d->J i acc n->g1 d (replicate own none++rho) fun rho2=>rho2.drop own=rho/\tt1 rho2 n fun c n2=>if c=true then it2 rho2 n2 (inIn g2 tt2 te rho2 acc (J (i+1))) else J (i+1) acc n2) /\
 ∀ acc n,J items.length acc n->acc.length<=sizeLine/\P (.lst acc) n
def dComp2(it:TID)(own:Nat)(g1:TGD)(tt1:TBD)(it2:TID)(g2:TGD)(tt2:TBD)(te:TD):TD:=fun rho n P=>it rho n (compIn2 own g1 tt1 it2 g2 tt2 te rho P)
@[simp] private theorem q_dComp2{it own g1 tt1 it2 g2 tt2 te rho n P}:dComp2 it own g1 tt1 it2 g2 tt2 te rho n P=it rho n (compIn2 own g1 tt1 it2 g2 tt2 te rho P):=rfl
section
variable {A:AC} {X:Cx} {elt tg1 it1 tg2 it2:Expr} {ifs1 ifs2:List Expr} {scope:Scope} {own M:List Str} {pos:Pos} {i1 i2:TID} {g1 g2:TGD} {tt1 tt2:TBD} {te:TD}
private theorem tComp2_of{sg:St}{H:Hp}{Q:VK}{m:Nat}(h:tOf A (dComp2 i1 m g1 tt1 i2 g2 tt2 te) sg H Q):tComp2 (iOf A i1) m (gOf A m g1) (ttOf A tt1) (iOf A i2) (gOf A m g2) (ttOf A tt2) (tOf A te) sg H Q:=by
 obtain⟨rho,n,P,ds,vs,I,ht,hQ⟩:=h
 refine⟨rho,n,_,ds,vs,I,ht,fun J H' n' items es ws I1 hl hJ k=>?_⟩
 obtain⟨W,w0,turn,fin⟩:=k
 refine⟨fun i mm acc H=>mm=items.length-i/\i<=items.length/\∃ accD n,acc.length=accD.length/\Am A n rho sg H (es++(accD++ds)) (ws++(acc++vs))/\W i accD n,⟨items.length,rfl,Nat.zero_le _,[],n',rfl,I1,w0⟩,?_⟩
 rintro i mm acc H3 ⟨rfl,hi,accD,n3,hal,⟨os,I3⟩,w3⟩
 obtain⟨j1,j2⟩:=hJ n3 rho sg H3 (accD++ds) (acc++vs) i ⟨os,I3⟩
 by_cases hlt:i<items.length
 ·refine .inr ⟨(j1 items[i] (by simp [hlt])).1, fun x H4 y => ?_⟩
  obtain⟨os4,I4⟩:=(j1 items[i] (by simp[hlt])).2 x H4 y
  refine⟨replicate m none++rho,n3,_,items[i],es++(accD++ds),ws++(acc++vs),⟨_,I4.front m⟩,turn i items[i] accD n3 (by simp[hlt]) w3,fun rho2 sg2 ⟨os5,I5⟩ e5 k5=>?_⟩
  obtain⟨k5,k6⟩:=k5
  have e6:sg2.drop m=sg:=by rw[e5,drop_left' (by simp)]
  refine⟨keeps_drop e6,rho2,n3,_,es++(accD++ds),ws++(acc++vs),⟨os5,I5⟩,k6,fun c H6 n6 ⟨os6,I6⟩ k7=>?_⟩
  cases c with
  | false =>
   obtain⟨os7,I7⟩:=I6.back k5 e6
   exact⟨items.length-(i+1),by lia,rfl,hlt,accD,n6,hal,⟨os7,I7⟩,k7⟩
  | true =>
   rw[if_pos rfl] at k7 ⊢
   refine⟨rho2,n6,_,es++(accD++ds),ws++(acc++vs),⟨os6,I6⟩,k7,fun J2 H7 n7 items2 es2 ws2 I7 hl2 hJ2 k8=>?_⟩
   obtain⟨V,v0,vturn,vfin⟩:=k8
   refine⟨fun i2 nn acc2 σ5 H=>nn=items2.length-i2/\i2<=items2.length/\σ5.drop m=sg/\∃ accD2 n,acc2.length=accD2.length/\Am A n rho2 σ5 H (es2++(es++(accD2++ds))) (ws2++(ws++(acc2++vs)))/\V i2 accD2 n,⟨items2.length,rfl,Nat.zero_le _,e6,accD,n7,hal,I7,v0⟩,?_⟩
   rintro i2 nn acc2 σ5 H8 ⟨rfl,hi2,s5d,accD2,n8,hal2,⟨os8,I8⟩,w8⟩
   obtain⟨q1,q2⟩:=hJ2 n8 rho2 σ5 H8 (es++(accD2++ds)) (ws++(acc2++vs)) i2 ⟨os8,I8⟩
   by_cases hlt2:i2<items2.length
   ·obtain ⟨t1, t2⟩ := vturn i2 items2[i2] accD2 n8 (by simp [hlt2]) w8
    refine .inr ⟨(q1 items2[i2] (by simp[hlt2])).1,by rw[hal2];exact t1,fun y H9 yy=>?_⟩
    obtain⟨os9,I9⟩:=(q1 items2[i2] (by simp[hlt2])).2 y H9 yy
    refine⟨rho2,n8,_,items2[i2],es2++(es++(accD2++ds)),ws2++(ws++(acc2++vs)),⟨os9,I9⟩,t2,fun rho3 sg3 ⟨os10,I10⟩ e10 k10=>?_⟩
    obtain⟨k10,k11⟩:=k10
    refine⟨rho3,n8,_,es2++(es++(accD2++ds)),ws2++(ws++(acc2++vs)),⟨os10,I10⟩,k11,fun c H11 n11 ⟨os11,I11⟩ k12=>?_⟩
    cases c with
    | false=>exact⟨items2.length-(i2+1),by lia,rfl,hlt2,e10.trans s5d,accD2,n11,hal2,⟨os11,I11.weakR k10⟩,k12⟩
    | true =>
     rw[if_pos rfl] at k12 ⊢
     refine⟨rho3,n11,_,es2++(es++(accD2++ds)),ws2++(ws++(acc2++vs)),⟨os11,I11⟩,k12,fun v H12 n12 d ⟨os12,I12⟩ k13=>?_⟩
     obtain⟨I13,rv⟩:=I12.pop
     obtain⟨I14,r1⟩:=I13.split hl2
     obtain⟨I15,r2⟩:=I14.split hl
     obtain⟨I16,r3⟩:=I15.split hal2
     exact⟨items2.length-(i2+1),by lia,rfl,hlt2,e10.trans s5d,accD2++[d],n12,by simp[hal2],⟨os12,(((I16.join (r3.append (.cons rv .nil))).join r2).join r1).weakR k10⟩,k13⟩
   ·have e : i2 = items2.length := by lia
    subst e
    obtain⟨I9,_⟩:=I8.split hl2
    obtain⟨os10,I10⟩:=I9.back k5 s5d
    exact .inl ⟨q2 (Nat.le_refl _),keeps_drop s5d,items.length-(i+1),by lia,rfl,hlt,accD2,n8,hal2,⟨os10,I10⟩,vfin accD2 n8 w8⟩
 ·have e : i = items.length := by lia
  subst e
  obtain⟨f1,f2⟩:=fin accD n3 w3
  refine .inl ⟨j2 (Nat.le_refl _),by rw[hal];exact f1,fun D hD=>?_⟩
  obtain⟨I4,r1⟩:=I3.split hl
  obtain⟨I5,r2⟩:=I4.split hal
  exact hQ _ _ n3 _ ⟨os,I5.newLst r2 hD⟩ f2
private theorem pd_comp2(ok:CompOk X scope M)(hc:X.calm=true)(hi:PID A X tg1 it1 i1)(hg:∀ C s2 H2 fp,PGD A (cxComp X scope own M C s2 H2 fp) own.length tg1 g1)(ht:∀ C s2 H2 fp,PTs (cxComp X scope own M C s2 H2 fp) ifs1 (ttOf A tt1))
  (hi2:∀ C s2 H2 fp,PID A (cxComp X scope own M C s2 H2 fp) tg2 it2 i2) (hg2:∀ C s2 H2 fp,PGD A (cxComp X scope own M C s2 H2 fp) own.length tg2 g2) (ht2:∀ C s2 H2 fp,PTs (cxComp X scope own M C s2 H2 fp) ifs2 (ttOf A tt2))
  (he:∀ C s2 H2 fp,PD A (cxComp X scope own M C s2 H2 fp) elt te) (hs:∀ x,foldedSetIterable it1 X.env x=pure x:=by intro _;rfl) (hs2:∀ C s2 H2 fp x,foldedSetIterable it2 (cxComp X scope own M C s2 H2 fp).env x=pure x:=by intros;rfl) :
  PD A X (.ListComp elt [⟨tg1,it1,ifs1,0⟩,⟨tg2,it2,ifs2,0⟩] scope pos) (dComp2 i1 own.length g1 tt1 i2 g2 tt2 te):=by
 with_unfolding_all
  exact(pe_comp2 ok hc hi hg ht hi2 hg2 ht2 he hs hs2).imp fun _ _ _=>tComp2_of
end
private theorem inIn_filt{g2:TGD}{tt2:TBD}{te:TD}{rho2:Rho}{acc:List D}{R:List D->Nat->Prop}{n:Nat}{β:Type}(enc2:β->D)(keep:β->Bool)(f:β->D)(ys:List β)(hz:acc.length+ys.length<=1000)
  (he:∀ y∈ys,∀ (R:D->Nat->Prop) (S:Nat->Prop),(keep y=true->R (f y) n)->(keep y=false->S n)->g2 (enc2 y) rho2 fun rho3=>keepsD rho2 rho3/\tt2 rho3 n fun c n2=>if c=true then te rho3 n2 R else S n2)
  (fin:R (acc++(ys.filter keep).map f) n):inIn g2 tt2 te rho2 acc R (ys.map enc2) n:=by
 refine⟨fun i ac n'=>n'=n/\i<=ys.length/\ac=acc++((ys.take i).filter keep).map f,⟨rfl,Nat.zero_le _,by simp⟩,?_,?_⟩
 ·rintro i d ac n' e ⟨rfl, hi, rfl⟩
  rw[getElem?_map] at e
  cases q:ys[i]? with
  | none=>rw[q] at e;cases e
  | some y =>
   rw[q] at e
   cases e
   have hm:y∈ys:=mem_of_getElem? q
   have hlt:i<ys.length:=(List.getElem?_eq_some_iff.mp q).1
   have hfl:((ys.take i).filter keep).length<=i:=Nat.le_trans (List.length_filter_le ..) (by rw[length_take];lia)
   refine⟨lt_size (by rw[length_append,length_map];lia),?_⟩
   refine he y hm _ _ (fun hk=>?_) fun hk=>?_
   ·refine ⟨rfl, hlt, ?_⟩
    rw[take_add_one,q]
    simp[hk]
   ·refine ⟨rfl, hlt, ?_⟩
    rw[take_add_one,q]
    simp[hk]
 ·rintro ac n' ⟨rfl, _, rfl⟩
  rw[length_map,take_length]
  exact fin
end L2
open L2
namespace K25
abbrev q0:List Str:=["ends", "pair"]
abbrev q1:List Str:=["_law_left_here", "_law_pool_here"]
abbrev q2:List Str:=["by_name", "names", "i"]
abbrev q3:List Str:=["_law_script", "_law_k"]
abbrev q4:List Str:=["things", "ask"]
abbrev q5:List Str:=["_law_things_here"]
abbrev q6:List Str:=["_law_left_here", "_law_things_here", "_law_i", "_law_d", "_law_halves"]
abbrev q7:List Str:=["d", "by_name", "names", "i"]
abbrev q8:List Str:=["_law_left_here", "_law_d", "_law_many", "_law_pool_here"]
abbrev q9:List Str:=["_law_left_here", "_law_pool_here", "_law_most"]
abbrev q10:List Str:=["_law_left_here", "_law_d", "_law_pool_here"]
abbrev q11:List Str:=["_law_house", "_law_tree", "_law_box_here", "_law_most"]
def top(i:Nat):Stmt:=PySem.Challenge.pw_boxlayers_k25_whole_layers_take_each_onc.main.body.getD i (.Pass ⟨0,0,0,0⟩)
abbrev End:=Option (Int × Bool)
abbrev Span:=End × End
def encEnd:End->D
 | none=>.non
 | some (n,s)=>.tup [.int n,.bl s]
def encO:Option Int->D
 | none=>.non
 | some i=>.int i
def encSpan(s:Span):D:=.tup [encEnd s.1,encEnd s.2]
def encBox(b:List Span):D:=.tup (b.map encSpan)
def encPlace(p:List Int):D:=.tup (p.map D.int)
def leastT:End->Option Int
 | none=>none
 | some (n,s)=>some (if s then n else n+1)
def greatT:End->Option Int
 | none=>none
 | some (n,s)=>some (if s then n else n-1)
def liesT(lo hi:Option Int)(x:Int):Bool:=(match lo with | none=>true | some l=>decide (l<=x))&&(match hi with | none=>true | some g=>decide (x<=g))
def spanT(s:Span)(x:Int):Bool:=liesT (leastT s.1) (greatT s.2) x
def fitsT(b:List Span)(p:List Int):Bool:=(List.zipWith spanT b p).all id
@[simp] private theorem end_none:encEnd none=.non:=rfl
@[simp] private theorem end_some{n:Int}{s:Bool}:encEnd (some (n,s))=.tup [.int n,.bl s]:=rfl
private theorem no_encEnd(e:End):notOwn (encEnd e)=true:=by rcases e with _ | ⟨n,s⟩<;>rfl
section
variable {P:Program} {w:World} {K:W.Frag} {mg:Str->Option Value} {base:Heap} {f:Addr} {fd:FuncData}
abbrev s_least_of:Stmt:=top 2
abbrev N_least_of:List Str:=["low", "number", "shut"]
private theorem sc_least_of:FnScope N_least_of ["low"] (defScope s_least_of):=⟨rfl,rfl,rfl,by decide +kernel,rfl,by decide +kernel,by decide +kernel⟩
def t_least_of:TF:=fun ds n Q=>∃ e:End,ds=[encEnd e]/\Q (encO (leastT e)) n
private theorem ok_least_of(F:Fun K "least_of" "least_of" s_least_of f fd):FnOk P w K mg base CX0 1 f fd ["low"] (spD K 1 t_least_of):=by
 refine Fun.okD F sc_least_of (fun _ _ _ s H E G Z hr=>(pssd_cons (psd_if (ptd_cmp op_isN re_isN (pd_var 0) pd_non (nomark _)) (pssd_one (psd_ret pd_non)) pssd_nil)
  (pssd_cons (psd_unp (m:=3) (pd_var 0) (pgd_tup (k:=2) rfl rfl (pgsd_cons (pgd_name (i:=1) sc_least_of.nd rfl (lo rfl) (by decide)) (pgsd_cons (pgd_name (i:=2) sc_least_of.nd rfl (lo rfl) (by decide)) pgsd_nil))))
  (pssd_one (psd_ret (pd_if (ptd_val (pd_var 2)) (pd_var 1) (pd_add (pd_var 1) pd_int))))))) ?_
 rintro ds n Q hl ⟨e,rfl,q⟩
 rcases e with _ | ⟨m,s⟩
 ·simp [startD, encEnd]
  exact q
 ·cases s<;>(simp[startD,encEnd];exact q)
abbrev s_greatest_of:Stmt:=top 3
abbrev N_greatest_of:List Str:=["high", "number", "shut"]
private theorem sc_greatest_of:FnScope N_greatest_of ["high"] (defScope s_greatest_of):=⟨rfl,rfl,rfl,by decide +kernel,rfl,by decide +kernel,by decide +kernel⟩
def t_greatest_of:TF:=fun ds n Q=>∃ e:End,ds=[encEnd e]/\Q (encO (greatT e)) n
private theorem ok_greatest_of(F:Fun K "greatest_of" "greatest_of" s_greatest_of f fd):FnOk P w K mg base CX0 1 f fd ["high"] (spD K 1 t_greatest_of):=by
 refine Fun.okD F sc_greatest_of (fun _ _ _ s H E G Z hr=>(pssd_cons (psd_if (ptd_cmp op_isN re_isN (pd_var 0) pd_non (nomark _)) (pssd_one (psd_ret pd_non)) pssd_nil)
  (pssd_cons (psd_unp (m:=3) (pd_var 0) (pgd_tup (k:=2) rfl rfl (pgsd_cons (pgd_name (i:=1) sc_greatest_of.nd rfl (lo rfl) (by decide)) (pgsd_cons (pgd_name (i:=2) sc_greatest_of.nd rfl (lo rfl) (by decide)) pgsd_nil))))
  (pssd_one (psd_ret (pd_if (ptd_val (pd_var 2)) (pd_var 1) (pd_sub (pd_var 1) pd_int))))))) ?_
 rintro ds n Q hl ⟨e,rfl,q⟩
 rcases e with _ | ⟨m,s⟩
 ·simp [startD, encEnd]
  exact q
 ·cases s<;>(simp[startD,encEnd];exact q)
abbrev s_lies_in:Stmt:=top 4
abbrev N_lies_in:List Str:=["pair", "number", "least", "greatest"]
private theorem sc_lies_in:FnScope N_lies_in ["pair", "number"] (defScope s_lies_in):=⟨rfl,rfl,rfl,by decide +kernel,rfl,by decide +kernel,by decide +kernel⟩
def t_lies_in:TF:=fun ds n Q=>∃ (lo hi:Option Int) (x:Int),ds=[.tup [encO lo,encO hi],.int x]/\Q (.bl (liesT lo hi x)) n
private theorem ok_lies_in(F:Fun K "lies_in" "lies_in" s_lies_in f fd):FnOk P w K mg base CX0 1 f fd ["pair", "number"] (spD K 2 t_lies_in):=by
 refine Fun.okD F sc_lies_in (fun _ _ _ s H E G Z hr=>(pssd_cons (psd_unp (m:=4) (pd_var 0) (pgd_tup (k:=2) rfl rfl (pgsd_cons (pgd_name (i:=2) sc_lies_in.nd rfl (lo rfl) (by decide)) (pgsd_cons (pgd_name (i:=3) sc_lies_in.nd rfl (lo rfl) (by decide)) pgsd_nil))))
  (pssd_one (psd_ret (pd_and (pd_or (pd_cmp op_isN re_isN (pd_var 2) pd_non (nomark _)) (pd_one (pd_cmp op_le re_le (pd_var 2) (pd_var 1) (nomark _)))) (pd_one (pd_or (pd_cmp op_isN re_isN (pd_var 3) pd_non (nomark _)) (pd_one (pd_cmp op_le re_le (pd_var 1) (pd_var 3) (nomark _)))))))))) ?_
 rintro ds n Q hl ⟨lo,hi,x,rfl,q⟩
 rcases lo with _ | lo<;>rcases hi with _ | hi
 ·simp[startD,encO];exact q
 ·simp[startD,encO];simpa [liesT] using q
 ·simp [startD, encO]
  by_cases h:lo<=x<;>simp[h]<;>simpa [liesT,h] using q
 ·simp [startD, encO]
  by_cases h:lo<=x<;>simp[h]<;>simpa [liesT,h] using q
abbrev s_pair_of:Stmt:=top 7
abbrev N_pair_of:List Str:=["span", "low", "high"]
private theorem sc_pair_of:FnScope N_pair_of ["span"] (defScope s_pair_of):=⟨rfl,rfl,rfl,by decide +kernel,rfl,by decide +kernel,by decide +kernel⟩
def t_pair_of:TF:=fun ds n Q=>∃ s:Span,ds=[encSpan s]/\Q (.tup [encO (leastT s.1),encO (greatT s.2)]) n
private theorem ok_pair_of(F:Fun K "pair_of" "pair_of" s_pair_of f fd)(F_least_of:Fn P w K mg base "least_of" 1 1 t_least_of)(F_greatest_of:Fn P w K mg base "greatest_of" 1 1 t_greatest_of):FnOk P w K mg base CX0 2 f fd ["span"] (spD K 1 t_pair_of):=by
 refine Fun.okD F sc_pair_of (fun _ _ _ s H E G Z hr=>(pssd_cons (psd_unp (m:=3) (pd_var 0) (pgd_tup (k:=2) rfl rfl (pgsd_cons (pgd_name (i:=1) sc_pair_of.nd rfl (lo rfl) (by decide)) (pgsd_cons (pgd_name (i:=2) sc_pair_of.nd rfl (lo rfl) (by decide)) pgsd_nil))))
  (pssd_one (psd_ret (pd_tup (pad_cons (pd_fn F_least_of (hr.mono (by decide)) rfl (pad_cons (pd_var 1) pad_nil)) (pad_cons (pd_fn F_greatest_of (hr.mono (by decide)) rfl (pad_cons (pd_var 2) pad_nil)) pad_nil))))))) ?_
 rintro ds n Q hl ⟨s,rfl,q⟩
 simp[startD,encSpan,no_encEnd]
 exact⟨s.1,rfl,s.2,rfl,q⟩
abbrev s_fits:Stmt:=top 8
abbrev N_fits:List Str:=["box", "place"]
private theorem sc_fits:FnScope N_fits ["box", "place"] (defScope s_fits):=⟨rfl,rfl,rfl,by decide +kernel,rfl,by decide +kernel,by decide +kernel⟩
private theorem nd_fits_0:("span" :: "number" :: N_fits:List Str).Nodup:=by decide +kernel
def t_fits:TF:=fun ds n Q=>∃ (b:List Span) (p:List Int),b.length<=1000/\ds=[encBox b,encPlace p]/\Q (.bl (fitsT b p)) n
private theorem zip_enc(b:List Span)(p:List Int):zipD (b.map encSpan) (p.map D.int)=(b.zip p).map fun x=>.tup [encSpan x.1,.int x.2]:=by
 unfold zipD
 rw[List.zipWith_map,List.map_zip_eq_zipWith]
 rfl
private theorem ok_fits(T:Blt mg)(F:Fun K "fits" "fits" s_fits f fd)(F_lies_in:Fn P w K mg base "lies_in" 1 2 t_lies_in)(F_pair_of:Fn P w K mg base "pair_of" 2 1 t_pair_of):FnOk P w K mg base CX0 3 f fd ["box", "place"] (spD K 2 t_fits):=by
 refine Fun.okD F sc_fits (fun _ _ _ s H E G Z hr=>(pssd_one (psd_ret (pd_callB (call_all rfl) cr_all T.all bt_all (pad_cons (pd_comp (own:=["span", "number"]) (M:=N_fits) (compOk (by rfl)) rfl (pid_zip rfl T.zip (pad_cons (pd_var 0) (pad_cons (pd_var 1) pad_nil))) (fun _ _ _ _=>(pgd_tup (k:=2) rfl rfl (pgsd_cons (pgd_name (i:=0) nd_fits_0 rfl (lo rfl) (by decide)) (pgsd_cons (pgd_name (i:=1) nd_fits_0 rfl (lo rfl) (by decide)) pgsd_nil)))) (fun _ _ _ _=>ptsd_nil) (fun _ _ _ _=>(pd_fn F_lies_in (hr.mono (by decide)) rfl (pad_cons (pd_fn F_pair_of (hr.mono (by decide)) rfl (pad_cons (pd_var 0) pad_nil)) (pad_cons (pd_var 1) pad_nil))))) pad_nil))))) ?_
 rintro ds n Q hl ⟨b,p,hb,rfl,q⟩
 simp only[q_sRet,q_dCall,q_aCons,q_aNil]
 refine comp_map (fun x:Span × Int=>.tup [encSpan x.1,.int x.2]) (fun x=>.bl (spanT x.1 x.2)) (b.zip p) (fun R hR=>?_) (Nat.le_trans (by rw[List.length_zip];lia) (le_size (k:=1000))) (fun x hx R hR=>?_) ?_
 ·have nb : notOwn (encBox b) = true := id rfl
  have np:notOwn (encPlace p)=true:=id rfl
  simp[startD,nb,np]
  exact(q_kZip (d1:=encBox b) (d2:=encPlace p) rfl rfl).mpr (by rw[zip_enc];exact hR)
 ·simp [startD, encSpan]
  exact⟨x.1,rfl,leastT x.1.1,greatT x.1.2,x.2,rfl,hR⟩
 ·refine ⟨(b.zip p).map fun x => spanT x.1 x.2, by rw [List.map_map]; rfl, ?_⟩
  rw[List.map_zip_eq_zipWith]
  exact q
end
end K25
namespace K25
private theorem pick{es:List D}{k:Int}{R:D->Prop}(h0:0<=k)(h1:k<es.length)(h:∀ d∈es,R d):rdIx (.lst es) (.int k) R:=by
 obtain⟨d,e,m⟩:=atI_lt h0 h1
 exact q_rdIxL.mpr ⟨d,e,h d m⟩
private theorem pickI{js:List Int}{k:Int}{R:D->Prop}(lo hi:Int)(h0:0<=k)(h1:k<js.length)(hb:∀ j∈js,lo<=j/\j<=hi)(h:∀ j:Int,lo<=j->j<=hi->R (.int j)):rdIx (.lst (js.map D.int)) (.int k) R:=by
 refine pick h0 (by simpa using h1) fun d hd=>?_
 obtain⟨j,hj,rfl⟩:=List.mem_map.mp hd
 exact h j (hb j hj).1 (hb j hj).2
def numsD(xs:List Int):D:=.lst (xs.map D.int)
private theorem rng_len(c:Nat):(rngD 0 c).length=c:=by unfold rngD;rw[length_map,List.length_range]
private theorem rng_at{c i:Nat}{d:D}(h:(rngD 0 c)[i]?=some d):i<c/\d=.int (i:Int):=by
 have hi:i<c:=by have:=(List.getElem?_eq_some_iff.mp h).1;rw[rng_len] at this;exact this
 refine⟨hi,?_⟩
 unfold rngD at h
 rw[getElem?_map,List.getElem?_range hi] at h
 have:=Option.some.inj h
 rw[<- this]
 simp
private theorem comp_dem0{own:Nat}{g:TGD}{te:TD}{rho:Rho}{P:D->Nat->Prop}(items:List D)(n1:Nat)(Good:D->D->Prop)(hz:items.length<=sizeLine)
  (he:∀ (i:Nat) (d:D),items[i]?=some d->∀ Q:D->Nat->Prop,(∀ e,Good d e->Q e n1)->g d (replicate own none++rho) fun rho'=>rho'.drop own=rho/\te rho' n1 Q)
  (hP:∀ es,Paired Good items es->P (.lst es) n1):compIn own g bYes te rho P items n1:=by
 refine⟨hz,fun i acc n=>Paired Good (items.take i) acc/\n=n1,⟨.nil,rfl⟩,?_,?_⟩
 ·rintro i d acc n e ⟨h1, rfl⟩
  refine he i d e (fun e n3=>Paired Good (items.take (i+1)) (acc++[e])/\n3=n) fun c hg=>⟨?_,rfl⟩
  rw[take_add_one,e]
  exact Paired.snoc h1 hg
 ·rintro acc n ⟨h1, rfl⟩
  rw[take_length] at h1
  exact hP acc h1
section
variable {P:Program} {w:World} {K:W.Frag} {mg:Str->Option Value} {base:Heap} {f:Addr} {fd:FuncData}
abbrev s__law_cell_at:Stmt:=top 40
abbrev N__law_cell_at:List Str:=["_law_script", "_law_k"]
private theorem sc__law_cell_at:FnScope N__law_cell_at q3 (defScope s__law_cell_at):=⟨rfl,rfl,rfl,by decide +kernel,rfl,by decide +kernel,by decide +kernel⟩
def t_cell_at:TF:=fun ds n Q=>∃ (ns:List Int) (j:Int),ds=[scriptD ns,.int j]/\0<=j/\∀ x:Int,Q (.int x) n
private theorem ok_cell_at(T:Blt mg)(F:Fun K "_law_cell_at" "_law_cell_at" s__law_cell_at f fd):FnOk P w K mg base CX0 1 f fd q3 (spD K 2 t_cell_at):=by
 refine Fun.okD F sc__law_cell_at (fun _ _ _ s H E G Z hr=>(pssd_cons (psd_if (ptd_cmp op_lt re_lt (pd_var 1) (pd_callB call_len_seq cr_len T.len bt_len (pad_cons (pd_var 0) pad_nil)) (nomark _)) (pssd_one (psd_ret (pd_ix ix_seq re_ix (pd_var 0) (pd_var 1) (fun _ _=>rfl)))) pssd_nil)
  (pssd_one (psd_ret pd_int)))) ?_
 rintro ds n Q hl ⟨ns,j,rfl,hj,q⟩
 simp[startD,scriptD]
 split
 ·rename_i h
  obtain⟨d,e,m⟩:=atI_lt (xs:=ns.map D.int) hj (by simpa using h)
  obtain⟨x,_,rfl⟩:=List.mem_map.mp m
  exact⟨_,e,q x⟩
 ·exact q 0
abbrev s__law_left:Stmt:=top 41
abbrev N__law_left:List Str:=["_law_script", "_law_k", "_law_cell", "_law_seed"]
private theorem sc__law_left:FnScope N__law_left q3 (defScope s__law_left):=⟨rfl,rfl,rfl,by decide +kernel,rfl,by decide +kernel,by decide +kernel⟩
def t_left:TF:=fun ds n Q=>∃ (ns:List Int) (j:Int),ds=[scriptD ns,.int j]/\ns.length<=63/\0<=j/\j<1000/\∀ x y:Int,0<=x->0<=y->y<2147483647->Q (.lst [.int x,.int y]) n
private theorem ok_left(T:Blt mg)(ND:base.NoDigits)(F:Fun K "_law_left" "_law_left" s__law_left f fd)(Y_cell_at:Fn P w K mg base "_law_cell_at" 1 2 t_cell_at):FnOk P w K mg base CX0 2 f fd q3 (spD K 2 t_left):=by
 refine Fun.okD F sc__law_left (fun _ _ _ s H E G Z hr=>(pssd_cons (psd_set (i:=2) sc__law_left.nd rfl (lo rfl) (pd_fn Y_cell_at (hr.mono (by decide)) rfl (pad_cons (pd_var 0) (pad_cons (pd_mod (pd_var 1) (pd_callB (call_max2 rfl) cr_max2 T.max bt_max (pad_cons pd_int (pad_cons (pd_callB call_len_seq cr_len T.len bt_len (pad_cons (pd_var 0) pad_nil)) pad_nil)))) pad_nil))))
  (pssd_cons (psd_set (i:=3) sc__law_left.nd rfl (lo rfl) (pd_mod (pd_mul (pd_add (pd_add (pd_mod (pd_var 2) pd_int) (pd_mul (pd_mul pd_int (pd_var 1)) (pd_var 1))) pd_int) pd_int) pd_int))
  (pssd_one (psd_ret (pd_lst (pad_cons (pd_mod (pd_mul (pd_var 2) (pd_callTy call_int1 cr_intB T.int bt_int (pad_cons (pd_cmp op_ge re_ge (pd_var 2) (pd_pow pd_int pd_int) (nomark _)) pad_nil))) (pd_callTy (call_int_long ND) cr_intL T.int bt_int (pad_cons (pd_op op_add_str re_catS pd_str (pd_op op_mulS re_mulS pd_str pd_int)) pad_nil))) (pad_cons (pd_var 3) pad_nil)))))))) ?_
 rintro ds n Q hl ⟨ns,j,rfl,hns,hj0,hj1,q⟩
 have cm:∀ {i j:Int},(-(2^64)<i/\i<2^64)->CMul i j:=fun h=>.inl h
 have cm':∀ {i j:Int},(-(2^64)<j/\j<2^64)->CMul i j:=fun h=>.inr h
 obtain⟨big,hb0,hb1,hb2,hb3⟩:=int_noughts 4000 (by decide) (by decide)
 have hlen:(Str.ofString "1").length+(Txt.mul (Str.ofString "0") 4000).length<=sizeLine:=by
  have ec:=cps_noughts 4000 (by decide)
  have e1:(Str.ofString "1").length=1:=by decide +kernel
  have e2:(Str.ofString "1" ++ Txt.mul (Str.ofString "0") 4000).cps.toList.length=(Str.ofString "1").cps.toList.length+(Txt.mul (Str.ofString "0") 4000).cps.toList.length:=by
   rw[<- length_append,<- Array.toList_append];rfl
  rw[ec,length_cons,length_replicate] at e2
  have e3:∀ x:Str,x.cps.toList.length=x.length:=fun x=>Array.length_toList
  rw[e3,e3] at e2
  rw[sizeLine_eq]
  lia
 simp[startD,scriptD]
 refine⟨by split<;>lia,ns,_,rfl,Int.emod_nonneg _ (by split<;>lia),fun x=>?_⟩
 have h7:0<=7919*j*j:=Int.mul_nonneg (by lia) hj0
 have h8:7919*j*j<=7919*j*1000:=Int.mul_le_mul_of_nonneg_left (by lia) (by lia)
 simp
 refine⟨cm ⟨by decide,by decide⟩,cm ⟨by lia,by lia⟩,cm' ⟨by decide,by decide⟩,⟨by decide,by decide,by decide⟩,cm' ⟨by split<;>decide,by split<;>decide⟩,mulok_nought 4000 (by decide) (by decide),hlen,?_⟩
 refine⟨_,big,rfl,hb1,hb2,hb3,?_⟩
 simp
 exact⟨hb0,q _ _ (Int.emod_nonneg _ (by lia)) (Int.emod_nonneg _ (by decide)) (Int.emod_lt_of_pos _ (by decide))⟩
abbrev s__law_pick:Stmt:=top 42
abbrev N__law_pick:List Str:=["_law_left_here", "_law_many", "_law_digit"]
private theorem sc__law_pick:FnScope N__law_pick ["_law_left_here", "_law_many"] (defScope s__law_pick):=⟨rfl,rfl,rfl,by decide +kernel,rfl,by decide +kernel,by decide +kernel⟩
def t_pick:TF:=fun ds n Q=>∃ m:Int,ds=[.st,.int m]/\n=2/\0<m/\m<10000000/\∀ k:Int,0<=k->k<m->Q (.int k) n
private theorem ok_pick(F:Fun K "_law_pick" "_law_pick" s__law_pick f fd):FnOk P w K mg base CX0 1 f fd ["_law_left_here", "_law_many"] (spD K 2 t_pick):=by
 refine Fun.okD F sc__law_pick (fun _ _ _ s H E G Z hr=>(pssd_cons (psd_if (ptd_cmp op_gt re_gt (pd_stIx (i:=0) pd_int (fun _ _=>rfl)) pd_int (nomark _)) (pssd_cons (psd_set (i:=2) sc__law_pick.nd rfl (lo rfl) (pd_mod (pd_stIx (i:=0) pd_int (fun _ _=>rfl)) (pd_var 1)))
  (pssd_cons (psd_stSet (i:=0) (pd_div (pd_stIx (i:=0) pd_int (fun _ _=>rfl)) (pd_var 1)) pd_int)
  (pssd_one (psd_ret (pd_var 2))))) pssd_nil)
  (pssd_cons (psd_stSet (i:=0) (pd_mod (pd_add (pd_mul (pd_stIx (i:=0) pd_int (fun _ _=>rfl)) pd_int) pd_int) pd_int) pd_int)
  (pssd_one (psd_ret (pd_mod (pd_mod (pd_mul (pd_stIx (i:=0) pd_int (fun _ _=>rfl)) (pd_stIx (i:=0) pd_int (fun _ _=>rfl))) pd_int) (pd_var 1))))))) ?_
 rintro ds n Q hl ⟨m,rfl,rfl,hm,hm2,q⟩
 have cm:∀ {i j:Int},(-(2^64)<i/\i<2^64)->CMul i j:=fun h=>.inl h
 simp[startD]
 intro z0 h0
 split
 ·intro z hz
  exact⟨hm,fun z1 hz1=>⟨⟨hm,by lia⟩,Int.ediv_nonneg hz1 (by lia),q _ (Int.emod_nonneg _ (by lia)) (Int.emod_lt_of_pos _ hm)⟩⟩
 ·intro z hz hz2
  exact⟨cm ⟨by lia,by lia⟩,Int.emod_nonneg _ (by decide),Int.emod_lt_of_pos _ (by decide),fun y hy hy2 z1 h1 h1'=>⟨cm ⟨by lia,by lia⟩,hm,q _ (Int.emod_nonneg _ (by lia)) (Int.emod_lt_of_pos _ hm)⟩⟩
private theorem pick_intro{m:Int}{Q:D->Nat->Prop}(h0:0<m)(h1:m<10000000)(h:∀ k:Int,0<=k->k<m->Q (.int k) 2):t_pick [.st,.int m] 2 Q:=⟨m,rfl,rfl,h0,h1,h⟩
end
end K25
namespace K25
abbrev Thing:=Int × List Int × Int
def encThing(t:Thing):D:=.tup [.int t.1,encPlace t.2.1,.int t.2.2]
def small(x:Int):Prop:=-1000000000000000000<=x/\x<=1000000000000000000
structure GoodT(d:Nat)(ts:List Thing)(top:Int):Prop where
 each:∀ t∈ts,0<=t.1/\t.1<top/\t.2.1.length=d/\(∀ x∈t.2.1,small x)/\small t.2.2
 up:ts.Pairwise fun a b=>a.1<b.1
private theorem GoodT.nil(d:Nat)(top:Int):GoodT d [] top:=⟨by simp,.nil⟩
private theorem GoodT.snoc{d:Nat}{ts:List Thing}{x top:Int}(h:GoodT d ts x)(hx:0<=x)(ht:x<top){p:List Int}(hp:p.length=d)(hs:∀ x∈p,small x){y:Int}(hy:small y):GoodT d (ts++[(x,p,y)]) top:=by
 refine⟨fun t hm=>?_,?_⟩
 ·rcases List.mem_append.mp hm with hm | hm
  ·have := h.each t hm
   exact⟨this.1,by lia,this.2.2⟩
  ·rw[List.mem_singleton.mp hm];exact⟨hx,ht,hp,hs,hy⟩
 ·rw [List.pairwise_append]
  refine⟨h.up,by simp,fun a ha b hb=>?_⟩
  rw[List.mem_singleton.mp hb]
  exact(h.each a ha).2.1
private theorem GoodT.more{d:Nat}{ts:List Thing}{x top:Int}(h:GoodT d ts x)(ht:x<=top):GoodT d ts top:=⟨fun t hm=>by have:=h.each t hm;exact⟨this.1,by lia,this.2.2⟩,h.up⟩
private theorem GoodT.nodup{d:Nat}{ts:List Thing}{x:Int}(h:GoodT d ts x):(ts.map fun t=>t.1).Nodup:=by
 rw[List.Nodup,pairwise_map]
 exact h.up.imp fun h=>by lia
private theorem okE_thing(t:Thing)(k:Nat):okE (encThing t) (k+2)=true:=by
 refine okE_tup.mpr fun d hd=>?_
 simp only[mem_cons,not_mem_nil,or_false] at hd
 rcases hd with rfl | rfl | rfl
 ·exact okE_int
 ·refine okE_tup.mpr fun d hd => ?_
  obtain⟨x,_,rfl⟩:=List.mem_map.mp hd
  exact okE_int
 ·exact okE_int
private theorem okE_thingsL(ts:List Thing):okE (.lst (ts.map encThing)) 20=true:=okE_lst.mpr fun d hd=>by
 obtain⟨t,_,rfl⟩:=List.mem_map.mp hd
 exact okE_thing t 17
private theorem paired_small:∀ {l es:List D},Paired (fun _ e=>∃ x:Int,small x/\e=.int x) l es->∃ xs:List Int,es=xs.map D.int/\∀ x∈xs,small x
 | _,_,.nil=>⟨[],rfl,by simp⟩
 | _,_,.cons r t=>by
  obtain⟨x,hx,rfl⟩:=r
  obtain⟨xs,rfl,h⟩:=paired_small t
  exact⟨x::xs,rfl,fun y hy=>by rcases List.mem_cons.mp hy with rfl | hy;exact hx;exact h y hy⟩
structure JThs(d:Nat)(dd mm pp:Option D)(i:Nat)(rho:Rho)(n:Nat):Prop where
 e:n=2
 r:∃ (ts:List Thing) (x:Int) (u v w:Option D),ts.length=i/\-1<=x/\x+1<=6*i/\GoodT d ts (x+1)/\rho=[some .st,dd,mm,pp,some (.own (ts.map encThing)),some (.int x),u,v,w]
section
variable {P:Program} {w:World} {K:W.Frag} {mg:Str->Option Value} {base:Heap} {f:Addr} {fd:FuncData}
abbrev s__law_pool:Stmt:=top 43
abbrev N__law_pool:List Str:=["_law_left_here", "_law_low", "_law_stride"]
private theorem sc__law_pool:FnScope N__law_pool ["_law_left_here"] (defScope s__law_pool):=⟨rfl,rfl,rfl,by decide +kernel,rfl,by decide +kernel,by decide +kernel⟩
private theorem nd__law_pool_0:("_law_k" :: N__law_pool:List Str).Nodup:=by decide +kernel
def t_pool:TF:=fun ds n Q=>ds=[.st]/\n=2/\∀ xs:List Int,1<=xs.length->xs.length<=8->(∀ x∈xs,small x)->Q (numsD xs) n
private theorem ok_pool(T:Blt mg)(F:Fun K "_law_pool" "_law_pool" s__law_pool f fd)(Y_pick:Fn P w K mg base "_law_pick" 1 2 t_pick):FnOk P w K mg base CX0 2 f fd ["_law_left_here"] (spD K 1 t_pool):=by
 refine Fun.okD F sc__law_pool (fun _ _ _ s H E G Z hr=>(pssd_cons (psd_set (i:=1) sc__law_pool.nd rfl (lo rfl) (pd_ix ix_seq re_ix (pd_lst (pad_cons pd_int (pad_cons (pd_neg pd_int) (pad_cons (pd_pow pd_int pd_int) (pad_cons (pd_neg (pd_pow pd_int pd_int)) (pad_cons pd_int pad_nil)))))) (pd_fn Y_pick (hr.mono (by decide)) rfl (pad_cons (pd_var 0) (pad_cons pd_int pad_nil))) (fun _ _=>rfl)))
  (pssd_cons (psd_set (i:=2) sc__law_pool.nd rfl (lo rfl) (pd_ix ix_seq re_ix (pd_lst (pad_cons pd_int (pad_cons pd_int (pad_cons pd_int (pad_cons pd_int (pad_cons pd_int (pad_cons (pd_pow pd_int pd_int) pad_nil))))))) (pd_fn Y_pick (hr.mono (by decide)) rfl (pad_cons (pd_var 0) (pad_cons pd_int pad_nil))) (fun _ _=>rfl)))
  (pssd_one (psd_ret (pd_comp (own:=["_law_k"]) (M:=N__law_pool) (compOk (by rfl)) rfl (pid_rng T.range (pad_cons (pd_ix ix_seq re_ix (pd_lst (pad_cons pd_int (pad_cons pd_int (pad_cons pd_int (pad_cons pd_int (pad_cons pd_int (pad_cons pd_int pad_nil))))))) (pd_fn Y_pick (hr.mono (by decide)) rfl (pad_cons (pd_var 0) (pad_cons pd_int pad_nil))) (fun _ _=>rfl)) pad_nil)) (fun _ _ _ _=>(pgd_name (i:=0) nd__law_pool_0 rfl (lo rfl) (by decide))) (fun _ _ _ _=>ptsd_nil) (fun _ _ _ _=>(pd_add (pd_var 2) (pd_mul (pd_var 3) (pd_var 0)))))))))) ?_
 rintro ds n Q hl ⟨rfl,rfl,q⟩
 simp[startD]
 refine⟨⟨by decide,by decide,by decide⟩,pick_intro (by decide) (by decide) fun k h0 h1=>pickI (js:=[0,-3,10000000000000000,-10000000000000000,7]) (-10000000000000000) 10000000000000000 h0 (by simpa using h1) (by decide) fun a ha0 ha1=>?_⟩
 refine⟨⟨by decide,by decide,by decide⟩,pick_intro (by decide) (by decide) fun k2 h2 h3=>pickI (js:=[1,1,2,3,1000,1000000000000000]) 1 1000000000000000 h2 (by simpa using h3) (by decide) fun b hb0 hb1=>?_⟩
 refine pick_intro (by decide) (by decide) fun k3 h4 h5=>pickI (js:=[1,2,3,5,8,8]) 1 8 h4 (by simpa using h5) (by decide) fun c hc0 hc1=>?_
 obtain⟨cn,rfl⟩:=Int.eq_ofNat_of_zero_le (show 0<=c by lia)
 refine⟨_,rfl,by lia,by lia,?_⟩
 have er:rngD 0 ((cn:Int)).toNat=(List.range cn).map fun(i:Nat)=>.int (i:Int):=by
  unfold rngD
  rw[Int.toNat_natCast]
  refine map_congr_left fun i _=>?_
  simp
 rw[er]
 refine comp_mapIn (fun(i:Nat)=>.int (i:Int)) (fun(i:Nat)=>.int (a+b*i)) (List.range cn) (le_size (by simp;lia)) (fun i hi R hR=>?_) ?_
 ·simp
  exact⟨.inl ⟨by lia,by lia⟩,hR⟩
 ·have e2 : ((List.range cn).map fun (i : Nat) => D.int (a + b * i)) = ((List.range cn).map fun (i : Nat) => a + b * (i : Int)).map D.int := by rw [List.map_map]; rfl
  rw[e2]
  refine q _ (by simp;lia) (by simp;lia) fun x hx=>?_
  obtain⟨i,hi,rfl⟩:=List.mem_map.mp hx
  have hi':=List.mem_range.mp hi
  have p1:0<=b*(i:Int):=Int.mul_nonneg (by lia) (by lia)
  have p2:b*(i:Int)<=1000000000000000*8:=Int.mul_le_mul hb1 (by lia) (by lia) (by lia)
  constructor<;>lia
abbrev s__law_number:Stmt:=top 44
abbrev N__law_number:List Str:=["_law_left_here", "_law_pool_here"]
private theorem sc__law_number:FnScope N__law_number q1 (defScope s__law_number):=⟨rfl,rfl,rfl,by decide +kernel,rfl,by decide +kernel,by decide +kernel⟩
def t_number:TF:=fun ds n Q=>∃ xs:List Int,ds=[.st,numsD xs]/\n=2/\1<=xs.length/\xs.length<=1000/\∀ x∈xs,Q (.int x) n
private theorem ok_number(T:Blt mg)(F:Fun K "_law_number" "_law_number" s__law_number f fd)(Y_pick:Fn P w K mg base "_law_pick" 1 2 t_pick):FnOk P w K mg base CX0 2 f fd q1 (spD K 2 t_number):=by
 refine Fun.okD F sc__law_number (fun _ _ _ s H E G Z hr=>(pssd_one (psd_ret (pd_ix ix_seq re_ix (pd_var 1) (pd_fn Y_pick (hr.mono (by decide)) rfl (pad_cons (pd_var 0) (pad_cons (pd_callB call_len_seq cr_len T.len bt_len (pad_cons (pd_var 1) pad_nil)) pad_nil))) (fun _ _=>rfl))))) ?_
 rintro ds n Q hl ⟨xs,rfl,rfl,h1,h2,q⟩
 simp[startD,numsD]
 refine pick_intro (by lia) (by lia) fun k h3 h4=>pick h3 (by simpa using h4) fun d hd=>?_
 obtain⟨x,hx,rfl⟩:=List.mem_map.mp hd
 exact q x hx
abbrev s__law_things:Stmt:=top 45
abbrev N__law_things:List Str:=["_law_left_here", "_law_d", "_law_many", "_law_pool_here", "_law_things_here", "_law_name", "_law_k", "_law_place", "_law_worth"]
private theorem sc__law_things:FnScope N__law_things q8 (defScope s__law_things):=⟨rfl,rfl,rfl,by decide +kernel,rfl,by decide +kernel,by decide +kernel⟩
private theorem nd__law_things_0:("_law_i" :: N__law_things:List Str).Nodup:=by decide +kernel
def t_things:TF:=fun ds n Q=>∃ (d m:Nat) (xs:List Int),ds=[.st,.int d,.int m,numsD xs]/\n=2/\1<=d/\d<=4/\m<=300/\1<=xs.length/\xs.length<=8/\(∀ x∈xs,small x)/\∀ ts:List Thing,GoodT d ts 2000->ts.length=m->Q (.tup (ts.map encThing)) n
private theorem ok_things(T:Blt mg)(F:Fun K "_law_things" "_law_things" s__law_things f fd)(Y_pick:Fn P w K mg base "_law_pick" 1 2 t_pick)(Y_number:Fn P w K mg base "_law_number" 2 2 t_number):FnOk P w K mg base CX0 3 f fd q8 (spD K 4 t_things):=by
 refine Fun.okD F sc__law_things (fun _ _ _ s H E G Z hr=>(pssd_cons (psd_own (i:=4) sc__law_things.nd rfl (lo rfl) pad_nil)
  (pssd_cons (psd_set (i:=5) sc__law_things.nd rfl (lo rfl) (pd_neg pd_int))
  (pssd_cons (psd_for (m:=9) PassesOwn.never rfl (pid_rng T.range (pad_cons (pd_var 2) pad_nil)) (pgd_name (i:=6) sc__law_things.nd rfl (lo rfl) (by decide))
  (pssd_cons (psd_set (i:=5) sc__law_things.nd rfl (lo rfl) (pd_add (pd_add (pd_var 5) pd_int) (pd_ix ix_seq re_ix (pd_lst (pad_cons pd_int (pad_cons pd_int (pad_cons pd_int (pad_cons pd_int pad_nil))))) (pd_fn Y_pick (hr.mono (by decide)) rfl (pad_cons (pd_var 0) (pad_cons pd_int pad_nil))) (fun _ _=>rfl))))
  (pssd_cons (psd_set (i:=7) sc__law_things.nd rfl (lo rfl) (pd_callTy call_tuple_of cr_tuple T.tuple bt_tuple (pad_cons (pd_comp (own:=["_law_i"]) (M:=N__law_things) (compOk (by rfl)) rfl (pid_rng T.range (pad_cons (pd_var 1) pad_nil)) (fun _ _ _ _=>(pgd_name (i:=0) nd__law_things_0 rfl (lo rfl) (by decide))) (fun _ _ _ _=>ptsd_nil) (fun _ _ _ _=>(pd_fn Y_number (hr.mono (by decide)) rfl (pad_cons (pd_var 1) (pad_cons (pd_var 4) pad_nil))))) pad_nil)))
  (pssd_cons (psd_if (PWD.pt (pwd_and (ptd_ownNe (i:=4) hr rfl) (pwd_and1 (ptd_cmp (op_deq hr) (re_deq rfl) (pd_fn Y_pick (hr.mono (by decide)) rfl (pad_cons (pd_var 0) (pad_cons pd_int pad_nil))) pd_int (nomark _))))) (pssd_one (psd_set (i:=7) sc__law_things.nd rfl (lo rfl) (pd_ix ix_seq re_ix (pd_ownIx (i:=4) (pd_fn Y_pick (hr.mono (by decide)) rfl (pad_cons (pd_var 0) (pad_cons (pd_ownLen (i:=4) T.len rfl) pad_nil))) (fun _ _=>rfl)) pd_int (fun _ _=>rfl)))) pssd_nil)
  (pssd_cons (psd_set (i:=8) sc__law_things.nd rfl (lo rfl) (pd_ix ix_seq re_ix (pd_lst (pad_cons (pd_fn Y_pick (hr.mono (by decide)) rfl (pad_cons (pd_var 0) (pad_cons pd_int pad_nil))) (pad_cons (pd_sub (pd_neg pd_int) (pd_fn Y_pick (hr.mono (by decide)) rfl (pad_cons (pd_var 0) (pad_cons pd_int pad_nil)))) (pad_cons (pd_add (pd_pow pd_int pd_int) (pd_fn Y_pick (hr.mono (by decide)) rfl (pad_cons (pd_var 0) (pad_cons pd_int pad_nil)))) (pad_cons pd_int pad_nil))))) (pd_fn Y_pick (hr.mono (by decide)) rfl (pad_cons (pd_var 0) (pad_cons pd_int pad_nil))) (fun _ _=>rfl)))
  (pssd_one (psd_append (i:=4) (pad_cons (pd_tup (pad_cons (pd_var 5) (pad_cons (pd_var 7) (pad_cons (pd_var 8) pad_nil)))) pad_nil) rfl)))))))
  (pssd_one (psd_frz 4 (psd_ret (pd_callTy call_tuple_of cr_tuple T.tuple bt_tuple (pad_cons (pd_var 4) pad_nil))))))))) ?_
 rintro ds n Q hl ⟨d,m,xs,rfl,rfl,hd1,hd4,hm,hx1,hx8,hxs,q⟩
 simp[startD]
 refine⟨by lia,JThs d _ _ _,⟨rfl,[],-1,_,_,_,rfl,by lia,by lia,GoodT.nil d _,rfl⟩,?_,?_⟩
 ·rintro i d' rho n' e ⟨rfl, ts, x, u, v, w', hl, hx0, hx1', hg, rfl⟩
  obtain⟨hi,rfl⟩:=rng_at e
  generalize hS:sSeq (sSet 8 _) _=S
  have cont:∀ (x':Int) (p:List Int) (F:EndsD),F.nx=JThs d (some (.int d)) (some (.int m)) (some (numsD xs)) (i+1)->x+1<=x'->x'<=x+6->p.length=d->(∀ y∈p,small y) ->
    S F [some .st,some (.int d),some (.int m),some (numsD xs),some (.own (ts.map encThing)),some (.int x'),some (.int i),some (encPlace p),w'] 2:=fun x' p F hF hx' hx6 hp hps=>by
   subst hS
   have np:notOwn (encPlace p)=true:=rfl
   simp[np]
   refine pick_intro (by decide) (by decide) fun a1 b1 c1=>pick_intro (by decide) (by decide) fun a2 b2 c2=>?_
   simp
   refine⟨⟨by decide,by decide,by decide⟩,pick_intro (by decide) (by decide) fun a3 b3 c3=>?_⟩
   simp
   refine pick_intro (by decide) (by decide) fun a4 b4 c4=>?_
   obtain⟨y,ey,my⟩:=atI_lt (xs:=[D.int a1,D.int (-1-a2),D.int (10000000000000000+a3),D.int 0]) (i:=a4) b4 (by simpa using c4)
   obtain⟨z,hz,rfl⟩:∃ z:Int,small z/\y=.int z:=by
    simp only[mem_cons,not_mem_nil,or_false] at my
    rcases my with rfl | rfl | rfl | rfl
    ·exact⟨_,⟨by lia,by lia⟩,rfl⟩
    ·exact⟨_,⟨by lia,by lia⟩,rfl⟩
    ·exact⟨_,⟨by lia,by lia⟩,rfl⟩
    ·exact⟨_,⟨by lia,by lia⟩,rfl⟩
   refine q_rdIxL.mpr ⟨_,ey,?_⟩
   simp[hF,np]
   refine⟨lt_size (by lia),rfl,ts++[(x',p,z)],x',_,_,_,by simp[hl],by lia,by lia,(hg.more (by lia)).snoc (by lia) (by lia) hp hps hz,by rw[map_append];rfl⟩
  simp
  refine pick_intro (by decide) (by decide) fun k1 g1 g2=>pickI (js:=[0,0,1,5]) 0 5 g1 (by simpa using g2) (by decide) fun t ht0 ht1=>?_
  simp
  refine⟨by lia,comp_dem0 (rngD 0 d) 2 (fun _ e=>∃ x:Int,small x/\e=.int x) (by rw[rng_len];exact le_size (by lia)) (fun j d2 e2 Q' hQ'=>?_) (fun es hp=>?_)⟩
  ·have nn : notOwn (numsD xs) = true := rfl
   simp[nn]
   exact⟨xs,rfl,rfl,hx1,by lia,fun y hy=>hQ' _ ⟨y,hxs y hy,rfl⟩⟩
  ·have hlen := hp.length
   obtain⟨ps,rfl,hps⟩:=paired_small hp
   rw[rng_len,length_map] at hlen
   have okt:=okE_thingsL ts
   simp[okt]
   split
   ·exact cont _ ps _ rfl (by lia) (by lia) (by lia) hps
   ·rename_i hne
    have hpos:0<ts.length:=by
     rcases ts with _ | ⟨b,ts⟩
     ·exact absurd (by unfold eqDs;rfl) hne
     ·simp
    refine pick_intro (by decide) (by decide) fun k2 g3 g4=>?_
    first | simp | simp[okE,eqD]
    split
    ·refine pick_intro (by lia) (by lia) fun k3 g5 g6 => ?_
     obtain⟨y,ey,my⟩:=atI_lt (xs:=ts.map encThing) (i:=k3) g5 (by simpa using g6)
     obtain⟨t',ht',rfl⟩:=List.mem_map.mp my
     obtain⟨y1,p1,w1⟩:=t'
     have he:=hg.each _ ht'
     refine⟨_,rfl,_,ey,?_⟩
     refine⟨_,_,encPlace p1,.inr (.inl rfl),rfl,rfl,?_⟩
     exact cont _ p1 _ rfl (by lia) (by lia) he.2.2.1 he.2.2.2.1
    ·exact cont _ ps _ rfl (by lia) (by lia) (by lia) hps
 ·rintro rho n' ⟨rfl, ts, x, u, v, w', hl, hx0, hx1', hg, rfl⟩
  rw[rng_len] at hl hx1'
  simp
  exact q ts (hg.more (by lia)) hl
end
end K25
namespace K25
private theorem SRow.lt_irr(x:SRow):x.lt x=false:=by unfold SRow.lt;rw[if_pos rfl];simp
private theorem sorted_unique{α:Type}{lt:α->α->Prop}(irr:∀ a,¬ lt a a)(tr:∀ a b c,lt a b->lt b c->lt a c):∀ {l1 l2:List α},l1.Perm l2->l1.Pairwise lt->l2.Pairwise lt->l1=l2
 | [],l2,p,_,_=>(List.nil_perm.mp p).symm
 | a::l1,[],p,_,_=>by simp at p
 | a :: l1, b :: l2, p, h1, h2 => by
  have ha:a∈b::l2:=p.mem_iff.mp (mem_cons_self ..)
  have hb:b∈a::l1:=p.mem_iff.mpr (mem_cons_self ..)
  have e:a=b:=by
   rcases List.mem_cons.mp ha with h | h
   ·exact h
   ·rcases List.mem_cons.mp hb with h' | h'
    ·exact h'.symm
    ·exact absurd (tr _ _ _ ((List.pairwise_cons.mp h1).1 b h') ((List.pairwise_cons.mp h2).1 a h)) (irr a)
  subst e
  rw[sorted_unique irr tr (List.perm_cons _ |>.mp p) (List.pairwise_cons.mp h1).2 (List.pairwise_cons.mp h2).2]
def rot(i:Nat)(p:List Int):List Int:=p.drop i++p.take i
def rowOf(i:Nat)(t:Thing):SRow:=⟨.t (rot i t.2.1),t.1,[]⟩
private theorem cut_from(xs:List D)(b:Nat)(hb:b<=xs.length):cutL xs (some (b:Int)) none=xs.drop b:=by
 unfold cutL
 rw[HT.sIx_nat,HT.sIx_none,Nat.min_eq_left hb,take_of_length_le (by rw[length_drop];lia)]
private theorem cut_to(xs:List D)(e:Nat)(he:e<=xs.length):cutL xs none (some (e:Int))=xs.take e:=by
 unfold cutL
 rw[HT.sIx_nat,HT.sIx_none,Nat.min_eq_left he,drop_zero,Nat.sub_zero]
private theorem perm_map{α β:Type}{f:α->β}:∀ {l:List β} {ts:List α},l.Perm (ts.map f)->∃ rs:List α,rs.Perm ts/\l=rs.map f:=by
 intro l ts h
 generalize hm:ts.map f=m at h
 induction h generalizing ts with
 | nil =>
  cases ts with
  | nil=>exact⟨[],.nil,rfl⟩
  | cons _ _=>simp at hm
 | cons x p ih =>
  cases ts with
  | nil=>simp at hm
  | cons a ts =>
   obtain⟨e1,e2⟩:=List.cons.inj hm
   obtain⟨rs,h1,rfl⟩:=ih e2
   exact⟨a::rs,h1.cons a,by rw[<- e1];rfl⟩
 | swap x y l =>
  cases ts with
  | nil=>simp at hm
  | cons a ts =>
   cases ts with
   | nil=>simp at hm
   | cons b ts =>
    obtain⟨e1,e2⟩:=List.cons.inj hm
    obtain⟨e3,e4⟩:=List.cons.inj e2
    exact⟨b::a::ts,.swap a b ts,by rw[<- e1,<- e3,<- e4];rfl⟩
 | trans p q ih1 ih2 =>
  obtain⟨r2,h2,rfl⟩:=ih2 hm
  obtain⟨r1,h1,rfl⟩:=ih1 rfl
  exact⟨r1,h1.trans h2,rfl⟩
structure OrdT(i:Nat)(ts rs:List Thing):Prop where
 perm:rs.Perm ts
 up:rs.Pairwise fun a b=>(rowOf i a).lt (rowOf i b)=true
private theorem OrdT.unique{i:Nat}{ts rs rs':List Thing}(h:OrdT i ts rs)(h':OrdT i ts rs'):rs=rs':=by
 refine sorted_unique (lt:=fun a b=>(rowOf i a).lt (rowOf i b)=true) (fun a h=>by rw[SRow.lt_irr] at h;cases h) (fun a b c=>SRow.lt_trans) (h.perm.trans h'.perm.symm) h.up h'.up
structure GoodU(d:Nat)(ts:List Thing):Prop where
 each:∀ t∈ts,t.2.1.length=d
 nd:(ts.map fun t=>t.1).Nodup
private theorem GoodT.u{d:Nat}{ts:List Thing}{x:Int}(h:GoodT d ts x):GoodU d ts:=⟨fun t ht=>(h.each t ht).2.2.1,h.nodup⟩
private theorem GoodU.perm{d:Nat}{ts rs:List Thing}(h:GoodU d ts)(p:rs.Perm ts):GoodU d rs:=⟨fun t ht=>h.each t (p.mem_iff.mp ht),(p.map _).nodup_iff.mpr h.nd⟩
private theorem GoodU.sub{d:Nat}{ts rs:List Thing}(h:GoodU d ts)(p:rs.Sublist ts):GoodU d rs:=⟨fun t ht=>h.each t (p.mem ht),(p.map _).nodup h.nd⟩
def nameKey(t:Thing):Key:=Sum.inl t.1
def byN(ts:List Thing):D:=.dct (ts.map nameKey) (ts.map encThing)
@[simp] private theorem no_byN(ts:List Thing):notOwn (byN ts)=true:=id rfl
private theorem hasK_names:∀ {ts:List Thing} {x:Int},x ∉ ts.map (fun t=>t.1)->hasK (ts.map nameKey) (Sum.inl x)=false
 | [],x,_=>rfl
 | t::ts,x,h=>by
  have h1:¬ t.1=x:=fun e=>h (by simp[e])
  have ih:=hasK_names (ts:=ts) (x:=x) fun z=>h (mem_cons_of_mem _ z)
  show(decide (nameKey t=Sum.inl x)||hasK (ts.map nameKey) (Sum.inl x))=false
  rw[ih,Bool.or_false]
  exact decide_eq_false fun e=>h1 (Sum.inl.inj e)
private theorem atK_names:∀ {ts:List Thing} {t:Thing},t∈ts->(ts.map fun t=>t.1).Nodup->atK (ts.map nameKey) (ts.map encThing) (Sum.inl t.1)=some (encThing t)
 | [],t,h,_=>by simp at h
 | s :: ts, t, h, hn => by
  have hn':=List.nodup_cons.mp hn
  show(if nameKey s=Sum.inl t.1 then some (encThing s) else atK (ts.map nameKey) (ts.map encThing) (Sum.inl t.1))=_
  rcases List.mem_cons.mp h with rfl | h
  ·exact if_pos rfl
  ·have : ¬ nameKey s = Sum.inl t.1 := fun e => by
    have e':s.1=t.1:=Sum.inl.inj e
    exact hn'.1 (List.mem_map.mpr ⟨t,h,e'.symm⟩)
   rw[if_neg this]
   exact atK_names h hn'.2
def namesD(ts:List Thing):D:=.tup (ts.map fun t=>.int t.1)
@[simp] private theorem no_namesD(ts:List Thing):notOwn (namesD ts)=true:=id rfl
@[simp] private theorem noq_place(p:List Int):notOwn (encPlace p)=true:=id rfl
@[simp] private theorem noq_thing(t:Thing):notOwn (encThing t)=true:=id rfl
section
variable {P:Program} {w:World} {K:W.Frag} {mg:Str->Option Value} {base:Heap} {f:Addr} {fd:FuncData}
abbrev s_things_by_name:Stmt:=top 16
abbrev N_things_by_name:List Str:=["house"]
private theorem sc_things_by_name:FnScope N_things_by_name ["house"] (defScope s_things_by_name):=⟨rfl,rfl,rfl,by decide +kernel,rfl,by decide +kernel,by decide +kernel⟩
private theorem nd_things_by_name_0:("thing" :: N_things_by_name:List Str).Nodup:=by decide +kernel
def t_tbn:TF:=fun ds n Q=>∃ (dd:D) (ts:List Thing),ds=[.tup [dd,.tup (ts.map encThing)]]/\(ts.map fun t=>t.1).Nodup/\ts.length<=1000/\Q (byN ts) n
private theorem ok_tbn(T:Blt mg)(F:Fun K "things_by_name" "things_by_name" s_things_by_name f fd):FnOk P w K mg base CX0 1 f fd ["house"] (spD K 1 t_tbn):=by
 refine Fun.okD F sc_things_by_name (fun _ _ _ s H E G Z hr=>(pssd_one (psd_ret (pd_dcomp (own:=["thing"]) (M:=N_things_by_name) (compOk (by rfl)) rfl (pid_seq rfl (pd_ix ix_seq re_ix (pd_var 0) pd_int (fun _ _=>rfl))) (fun _ _ _ _=>(pgd_name (i:=0) nd_things_by_name_0 rfl (lo rfl) (by decide))) (fun _ _ _ _=>ptsd_nil) (fun _ _ _ _=>(pd_ix ix_seq re_ix (pd_var 0) pd_int (fun _ _=>rfl))) (fun _ _ _ _=>(pd_var 0)))))) ?_
 rintro ds n Q hl ⟨dd,ts,rfl,hn,hz,q⟩
 have e1:atI [dd,D.tup (ts.map encThing)] 1=some (D.tup (ts.map encThing)):=rfl
 simp[startD,e1]
 refine⟨by rw[length_map];exact le_size hz,fun i ks es n'=>n'=n/\ks=(ts.take i).map nameKey/\es=(ts.take i).map encThing,⟨rfl,rfl,rfl⟩,?_,?_⟩
 ·rintro i d ks es n' e ⟨rfl, rfl, rfl⟩
  rw[getElem?_map] at e
  cases et:ts[i]? with
  | none=>rw[et] at e;cases e
  | some t =>
   rw[et] at e
   cases e
   have nt:notOwn (encThing t)=true:=rfl
   simp[nt]
   have e2:∀ R:D->Prop,R (.int t.1)->rdIx (encThing t) (.int 0) R:=fun R h=>⟨_,_,_,.inr (.inl rfl),rfl,rfl,h⟩
   refine e2 _ ?_
   refine⟨_,rfl,?_,?_⟩
   ·have hk : hasK ((ts.take i).map nameKey) (Sum.inl t.1) = false := hasK_names fun hm => by
     have h3:(ts.take i++[t]).Sublist ts:=by
      have:ts.take i++[t]=ts.take (i+1):=by rw[take_add_one,et];rfl
      rw[this];exact take_sublist ..
     have h4:=(h3.map fun t=>t.1).nodup hn
     rw[map_append,List.nodup_append] at h4
     exact h4.2.2 _ hm _ (by simp) rfl
    unfold putKs
    rw[map_take] at hk
    rw[if_neg (by rw[hk];simp),take_add_one,getElem?_map,et];rfl
   ·have hk : hasK ((ts.take i).map nameKey) (Sum.inl t.1) = false := hasK_names fun hm => by
     have h3:(ts.take i++[t]).Sublist ts:=by
      have:ts.take i++[t]=ts.take (i+1):=by rw[take_add_one,et];rfl
      rw[this];exact take_sublist ..
     have h4:=(h3.map fun t=>t.1).nodup hn
     rw[map_append,List.nodup_append] at h4
     exact h4.2.2 _ hm _ (by simp) rfl
    unfold putG
    rw[map_take] at hk
    rw[if_neg (by rw[hk];simp),take_add_one,getElem?_map,et];rfl
 ·rintro ks es n' ⟨rfl, rfl, rfl⟩
  rw[length_map,take_length]
  exact q
abbrev s_names_by:Stmt:=top 24
abbrev N_names_by:List Str:=["things", "i"]
private theorem sc_names_by:FnScope N_names_by ["things", "i"] (defScope s_names_by):=⟨rfl,rfl,rfl,by decide +kernel,rfl,by decide +kernel,by decide +kernel⟩
private theorem nd_names_by_0:("name" :: "place" :: "worth" :: N_names_by:List Str).Nodup:=by decide +kernel
private theorem nd_names_by_1:("turned" :: "name" :: N_names_by:List Str).Nodup:=by decide +kernel
def t_names_by:TF:=fun ds n Q=>∃ (i d:Nat) (ts:List Thing) (dd:D),ds=[dd,.int i]/\(dd=.lst (ts.map encThing)\/dd=.tup (ts.map encThing))/\i<d/\d<=4/\GoodU d ts/\ts.length<256/\∀ rs:List Thing,OrdT i ts rs->Q (namesD rs) n
private theorem ok_names_by(T:Blt mg)(F:Fun K "names_by" "names_by" s_names_by f fd):FnOk P w K mg base CX0 1 f fd ["things", "i"] (spD K 2 t_names_by):=by
 refine Fun.okD F sc_names_by (fun _ _ _ s H E G Z hr=>(pssd_one (psd_ret (pd_callTy call_tuple_of cr_tuple T.tuple bt_tuple (pad_cons (pd_comp (own:=["turned", "name"]) (M:=N_names_by) (compOk (by rfl)) rfl (pid_seq rfl (pd_callB (call_sortT hr) (cr_sortT rfl) T.sorted bt_sorted (pad_cons (pd_comp (own:=["name", "place", "worth"]) (M:=N_names_by) (compOk (by rfl)) rfl (pid_seq rfl (pd_var 0)) (fun _ _ _ _=>(pgd_tup (k:=3) rfl rfl (pgsd_cons (pgd_name (i:=0) nd_names_by_0 rfl (lo rfl) (by decide)) (pgsd_cons (pgd_name (i:=1) nd_names_by_0 rfl (lo rfl) (by decide)) (pgsd_cons (pgd_name (i:=2) nd_names_by_0 rfl (lo rfl) (by decide)) pgsd_nil))))) (fun _ _ _ _=>ptsd_nil) (fun _ _ _ _=>(pd_tup (pad_cons (pd_op op_catTT re_catT (pd_slT rfl (pd_var 1) (pod_some (pd_var 4)) pod_none) (pd_slT rfl (pd_var 1) pod_none (pod_some (pd_var 4)))) (pad_cons (pd_var 0) pad_nil))))) pad_nil))) (fun _ _ _ _=>(pgd_tup (k:=2) rfl rfl (pgsd_cons (pgd_name (i:=0) nd_names_by_1 rfl (lo rfl) (by decide)) (pgsd_cons (pgd_name (i:=1) nd_names_by_1 rfl (lo rfl) (by decide)) pgsd_nil)))) (fun _ _ _ _=>ptsd_nil) (fun _ _ _ _=>(pd_var 1))) pad_nil))))) ?_
 rintro ds n Q hl ⟨i,d,ts,dd,rfl,hdd,hi,hd,hg,hz,q⟩
 have ndd:notOwn dd=true:=by rcases hdd with rfl | rfl<;>rfl
 simp[startD,ndd]
 refine⟨_,hdd,?_⟩
 refine comp_mapIn encThing (fun t=>(rowOf i t).d) ts (le_size (by lia)) (fun t ht R hR=>?_) ?_
 ·have he := hg.each t ht
  obtain⟨x,p,y⟩:=t
  have hp:p.length=d:=he
  have c1:=cut_from (p.map D.int) i (by rw[length_map];lia)
  have c2:=cut_to (p.map D.int) i (by rw[length_map];lia)
  simp[encThing,encPlace,c1,c2]
  refine⟨le_size (by lia),?_⟩
  have e:(rowOf i (x,p,y)).d=D.tup [D.tup (List.drop i (List.map D.int p)++List.take i (List.map D.int p)),D.int x]:=by
   show D.tup [D.tup ((rot i p).map D.int),D.int x]=_
   unfold rot
   rw[map_append,map_drop,map_take]
  rw[<- e]
  exact hR
 ·refine ⟨ts.map (rowOf i), false, by rw [List.map_map]; rfl, by rw [List.length_map]; lia, ?_, ?_, fun rows hp hs => ⟨_, .inl rfl, ?_⟩⟩
  ·intro x hx
   obtain⟨t,_,rfl⟩:=List.mem_map.mp hx
   rfl
  ·rw [List.map_map]
   exact hg.nd
  ·have hlen : rows.length = ts.length := by rw [hp.length_eq, List.length_map]
   obtain⟨rs,hrp,rfl⟩:=perm_map hp
   rw[length_map] at hlen
   rw[map_map]
   refine comp_mapIn (SRow.d∘rowOf i) (fun t:Thing=>.int t.1) rs (le_size (by lia)) (fun t ht R hR=>?_) ?_
   ·have e : (SRow.d ∘ rowOf i) t = .tup [.tup ((rot i t.2.1).map D.int), .int t.1] := rfl
    rw[e]
    simp
    exact hR
   ·simp
    exact q rs ⟨hrp,by rw[pairwise_map] at hs;exact hs⟩
abbrev s_names_in_order:Stmt:=top 26
abbrev N_names_in_order:List Str:=["by_name", "names", "i"]
private theorem sc_names_in_order:FnScope N_names_in_order q2 (defScope s_names_in_order):=⟨rfl,rfl,rfl,by decide +kernel,rfl,by decide +kernel,by decide +kernel⟩
private theorem nd_names_in_order_0:("name" :: N_names_in_order:List Str).Nodup:=by decide +kernel
def t_in_order:TF:=fun ds n Q=>∃ (i d:Nat) (hs ts:List Thing),ds=[byN hs,namesD ts,.int i]/\i<d/\d<=4/\(hs.map fun t=>t.1).Nodup/\(∀ t∈ts,t∈hs)/\GoodU d ts/\ts.length<256/\∀ rs:List Thing,OrdT i ts rs->Q (namesD rs) n
private theorem ok_in_order(F:Fun K "names_in_order" "names_in_order" s_names_in_order f fd)(F_names_by:Fn P w K mg base "names_by" 1 2 t_names_by):FnOk P w K mg base CX0 2 f fd q2 (spD K 3 t_in_order):=by
 refine Fun.okD F sc_names_in_order (fun _ _ _ s H E G Z hr=>(pssd_one (psd_ret (pd_fn F_names_by (hr.mono (by decide)) rfl (pad_cons (pd_comp (own:=["name"]) (M:=N_names_in_order) (compOk (by rfl)) rfl (pid_seq rfl (pd_var 1)) (fun _ _ _ _=>(pgd_name (i:=0) nd_names_in_order_0 rfl (lo rfl) (by decide))) (fun _ _ _ _=>ptsd_nil) (fun _ _ _ _=>(pd_dix (hu_of hr) (pd_var 1) (pd_var 0) (fun _ _=>rfl)))) (pad_cons (pd_var 2) pad_nil)))))) ?_
 rintro ds n Q hl ⟨i,d,hs,ts,rfl,hi,hd,hn,hsub,hg,hz,q⟩
 simp[startD]
 refine⟨_,.inr rfl,?_⟩
 refine comp_mapIn (fun t:Thing=>.int t.1) encThing ts (le_size (by lia)) (fun t ht R hR=>?_) ?_
 ·simp
  unfold byN
  rw[q_rdDxI]
  exact⟨_,atK_names (hsub t ht) hn,hR⟩
 ·exact⟨i,d,ts,_,rfl,.inl rfl,hi,hd,hg,hz,q⟩
abbrev s_halved_up:Stmt:=top 27
abbrev N_halved_up:List Str:=["count"]
private theorem sc_halved_up:FnScope N_halved_up ["count"] (defScope s_halved_up):=⟨rfl,rfl,rfl,by decide +kernel,rfl,by decide +kernel,by decide +kernel⟩
def t_halved_up:TF:=fun ds n Q=>∃ c:Nat,ds=[.int c]/\Q (.int (((c+1)/2:Nat):Int)) n
private theorem ok_halved_up(F:Fun K "halved_up" "halved_up" s_halved_up f fd):FnOk P w K mg base CX0 1 f fd ["count"] (spD K 1 t_halved_up):=by
 refine Fun.okD F sc_halved_up (fun _ _ _ s H E G Z hr=>(pssd_one (psd_ret (pd_div (pd_add (pd_var 0) pd_int) pd_int)))) ?_
 rintro ds n Q hl ⟨c,rfl,q⟩
 have e:((c:Int)+1)/2=((c+1)/2:Nat):=by lia
 simp[startD]
 exact⟨⟨by decide,by decide⟩,by rw[e];exact q⟩
abbrev s_order_by:Stmt:=top 25
abbrev N_order_by:List Str:=["house", "i"]
private theorem sc_order_by:FnScope N_order_by ["house", "i"] (defScope s_order_by):=⟨rfl,rfl,rfl,by decide +kernel,rfl,by decide +kernel,by decide +kernel⟩
def t_order_by:TF:=fun ds n Q=>∃ (i d:Nat) (ts:List Thing) (dd:D),ds=[.tup [dd,.tup (ts.map encThing)],.int i]/\i<d/\d<=4/\GoodU d ts/\ts.length<256/\∀ rs:List Thing,OrdT i ts rs->Q (namesD rs) n
private theorem ok_order_by(F:Fun K "order_by" "order_by" s_order_by f fd)(F_names_by:Fn P w K mg base "names_by" 1 2 t_names_by):FnOk P w K mg base CX0 2 f fd ["house", "i"] (spD K 2 t_order_by):=by
 refine Fun.okD F sc_order_by (fun _ _ _ s H E G Z hr=>(pssd_one (psd_ret (pd_fn F_names_by (hr.mono (by decide)) rfl (pad_cons (pd_ix ix_seq re_ix (pd_var 0) pd_int (fun _ _=>rfl)) (pad_cons (pd_var 1) pad_nil)))))) ?_
 rintro ds n Q hl ⟨i,d,ts,dd,rfl,hi,hd,hg,hz,q⟩
 have e1:atI [dd,D.tup (ts.map encThing)] 1=some (D.tup (ts.map encThing)):=rfl
 simp[startD,e1]
 exact⟨i,d,ts,_,rfl,.inr rfl,hi,hd,hg,hz,q⟩
end
end K25
namespace K25
private theorem rot_eq(i:Nat)(p:List Int)(hi:i<p.length):(List.range p.length).map (fun k=>p.getD ((i+k)%p.length) 0)=rot i p:=by
 show _=p.drop i++p.take i
 apply List.ext_getElem
 ·simp
  lia
 ·intro k h1 h2
  have hk:k<p.length:=by simpa using h1
  rw[List.getElem_map,List.getElem_range]
  by_cases c:k<p.length-i
  ·rw [List.getElem_append_left (by rw [List.length_drop]; exact c), List.getElem_drop, Nat.mod_eq_of_lt (by lia)]
   simp[getD_eq_getElem?_getD,show i+k<p.length by lia]
  ·rw [List.getElem_append_right (by rw [List.length_drop]; lia), List.getElem_take]
   have e:(i+k)%p.length=k-(p.length-i):=by
    rw[show i+k=(k-(p.length-i))+p.length by lia,Nat.add_mod_right,Nat.mod_eq_of_lt (by lia)]
   rw[e]
   simp[getD_eq_getElem?_getD,show k-(p.length-i)<p.length by lia]
def rowLaw(i:Nat)(t:Thing):SRow:=⟨.t (rot i t.2.1),t.1,[encThing t]⟩
private theorem atPlace{row:List Int}{m:Nat}{j:Int}(hj:j=(m:Int))(hm:m<row.length):atI (row.map D.int) j=some (.int (row.getD m 0)):=by
 subst hj
 unfold atI
 rw[ixN_of (by lia) (by simpa using hm)]
 simp[getD_eq_getElem?_getD,hm]
private theorem rng_map(c:Nat):rngD 0 c=(List.range c).map fun(k:Nat)=>D.int (k:Int):=by
 unfold rngD
 refine map_congr_left fun i _=>?_
 simp
structure JBy(i:Nat)(ts:List Thing)(a b:Option D)(n0 j:Nat)(rho:Rho)(n:Nat):Prop where
 e:n=n0
 r:∃ (u v:Option D),rho=[a,b,some (.own ((ts.take j).map fun t=>(rowLaw i t).d)),u,v]
inductive LayOf(d:Nat):Nat->List Thing->D->Prop where
 | non {i:Nat}:LayOf d i [] .non
 | node {i:Nat} {ts rs ls hs inn:List Thing} {low high inner:D}:OrdT i ts rs->rs≠[]->((rs.length=1/\ls=[]/\hs=[])\/(ls++hs=rs/\ls≠[]/\hs≠[]))->inn=(if i+1=d then [] else rs)->LayOf d i ls low->LayOf d i hs high->LayOf d (i+1) inn inner->LayOf d i ts (.tup [namesD rs,low,high,inner])
private theorem LayOf.own{d i:Nat}{ts:List Thing}{tr:D}(h:LayOf d i ts tr):notOwn tr=true:=by cases h<;>rfl
inductive HalfOf(d:Nat):Nat->List Thing->D->Prop where
 | non {i:Nat}:HalfOf d i [] .non
 | node {i:Nat} {ts rs ls hs inn:List Thing} {low high inner:D}:OrdT i ts rs->rs≠[]->((rs.length=1/\ls=[]/\hs=[])\/(2<=rs.length/\ls=rs.take ((rs.length+1)/2)/\hs=rs.drop ((rs.length+1)/2)))->inn=(if i+1=d then [] else rs)->HalfOf d i ls low->HalfOf d i hs high->HalfOf d (i+1) inn inner->HalfOf d i ts (.tup [namesD rs,low,high,inner])
private theorem HalfOf.own{d i:Nat}{ts:List Thing}{tr:D}(h:HalfOf d i ts tr):notOwn tr=true:=by cases h<;>rfl
private theorem OrdT.sub{i:Nat}{ts rs us:List Thing}(h:OrdT i ts rs)(hs:us.Sublist rs):OrdT i us us:=⟨.refl _,h.up.sublist hs⟩
section
variable {P:Program} {w:World} {K:W.Frag} {mg:Str->Option Value} {base:Heap} {f:Addr} {fd:FuncData}
abbrev s__law_small:Stmt:=top 46
abbrev N__law_small:List Str:=["_law_left_here", "_law_pool_here", "_law_most", "_law_d", "_law_many"]
private theorem sc__law_small:FnScope N__law_small q9 (defScope s__law_small):=⟨rfl,rfl,rfl,by decide +kernel,rfl,by decide +kernel,by decide +kernel⟩
def t_small:TF:=fun ds n Q=>∃ (most:Nat) (xs:List Int),ds=[.st,numsD xs,.int most]/\n=2/\most<=60/\1<=xs.length/\xs.length<=8/\(∀ x∈xs,small x)/\∀ (d:Nat) (ts:List Thing),1<=d->d<=4->GoodT d ts 2000->(d≠4->ts.length<=most)->(d=4->ts.length<=9)->Q (.tup [.int d,.tup (ts.map encThing)]) n
private theorem ok_small(T:Blt mg)(F:Fun K "_law_small" "_law_small" s__law_small f fd)(Y_pick:Fn P w K mg base "_law_pick" 1 2 t_pick)(Y_things:Fn P w K mg base "_law_things" 3 4 t_things):FnOk P w K mg base CX0 4 f fd q9 (spD K 3 t_small):=by
 refine Fun.okD F sc__law_small (fun _ _ _ s H E G Z hr=>(pssd_cons (psd_set (i:=3) sc__law_small.nd rfl (lo rfl) (pd_add pd_int (pd_fn Y_pick (hr.mono (by decide)) rfl (pad_cons (pd_var 0) (pad_cons pd_int pad_nil)))))
  (pssd_cons (psd_set (i:=4) sc__law_small.nd rfl (lo rfl) (pd_ix ix_seq re_ix (pd_lst (pad_cons pd_int (pad_cons pd_int (pad_cons pd_int (pad_cons pd_int (pad_cons pd_int (pad_cons pd_int (pad_cons pd_int (pad_cons (pd_var 2) pad_nil))))))))) (pd_fn Y_pick (hr.mono (by decide)) rfl (pad_cons (pd_var 0) (pad_cons pd_int pad_nil))) (fun _ _=>rfl)))
  (pssd_one (psd_ret (pd_tup (pad_cons (pd_var 3) (pad_cons (pd_fn Y_things (hr.mono (by decide)) rfl (pad_cons (pd_var 0) (pad_cons (pd_var 3) (pad_cons (pd_callB (call_min2 rfl) cr_min2 T.min bt_min (pad_cons (pd_var 4) (pad_cons (pd_ix ix_seq re_ix (pd_lst (pad_cons (pd_var 2) (pad_cons (pd_var 2) (pad_cons (pd_var 2) (pad_cons pd_int pad_nil))))) (pd_sub (pd_var 3) pd_int) (fun _ _=>rfl)) pad_nil))) (pad_cons (pd_var 1) pad_nil))))) pad_nil)))))))) ?_
 rintro ds n Q hl ⟨most,xs,rfl,rfl,hm,hx1,hx8,hxs,q⟩
 have nn':notOwn (numsD xs)=true:=rfl
 simp[startD]
 refine pick_intro (by decide) (by decide) fun k h0 h1=>?_
 obtain⟨d,hd⟩:=Int.eq_ofNat_of_zero_le (show 0<=1+k by lia)
 have hd1:1<=d:=by lia
 have hd4:d<=4:=by lia
 simp
 refine⟨le_size (by decide),pick_intro (by decide) (by decide) fun k2 h2 h3=>?_⟩
 obtain⟨y,ey,my⟩:=atI_lt (xs:=[0,1,2,3,5,8,6,(most:Int)].map D.int) (i:=k2) h2 (by simpa using h3)
 obtain⟨z,hz,rfl⟩:=List.mem_map.mp my
 have hz0:0<=z:=by
  simp only[mem_cons,not_mem_nil,or_false] at hz
  lia
 obtain⟨zn,rfl⟩:=Int.eq_ofNat_of_zero_le hz0
 have hat:∃ w:Nat,atI [D.int (most:Int),D.int (most:Int),D.int (most:Int),D.int 9] ((d:Int)-1)=some (.int (w:Int))/\(d≠4->w<=most)/\(d=4->w<=9):=by
  have:d=1\/d=2\/d=3\/d=4:=by lia
  rcases this with rfl | rfl | rfl | rfl
  ·exact⟨most,rfl,fun _=>Nat.le_refl _,fun h=>by lia⟩
  ·exact⟨most,rfl,fun _=>Nat.le_refl _,fun h=>by lia⟩
  ·exact⟨most,rfl,fun _=>Nat.le_refl _,fun h=>by lia⟩
  ·exact⟨9,rfl,fun h=>absurd rfl h,fun _=>Nat.le_refl _⟩
 obtain⟨wn,hw,hw1,hw2⟩:=hat
 refine q_rdIxL.mpr ⟨_,ey,?_⟩
 rw[hd]
 simp[nn']
 refine⟨_,hw,?_⟩
 simp
 obtain⟨mn,hmn⟩:=Int.eq_ofNat_of_zero_le (show 0<=(if wn<zn then(wn:Int) else(zn:Int)) by split<;>lia)
 have hmm:mn<=wn:=by
  have:(if wn<zn then(wn:Int) else(zn:Int))<=wn:=by split<;>lia
  lia
 rw[hmn]
 exact⟨d,mn,xs,rfl,rfl,hd1,hd4,by by_cases h:d=4;have:=hw2 h;lia;have:=hw1 h;lia,hx1,hx8,hxs,fun ts hg hlen=>q d ts hd1 hd4 hg (fun h=>by have:=hw1 h;lia) (fun h=>by have:=hw2 h;lia)⟩
abbrev s__law_by:Stmt:=top 49
abbrev N__law_by:List Str:=["_law_things_here", "_law_i", "_law_rows", "_law_thing", "_law_place"]
private theorem sc__law_by:FnScope N__law_by ["_law_things_here", "_law_i"] (defScope s__law_by):=⟨rfl,rfl,rfl,by decide +kernel,rfl,by decide +kernel,by decide +kernel⟩
private theorem nd__law_by_0:("_law_k" :: N__law_by:List Str).Nodup:=by decide +kernel
private theorem nd__law_by_1:("_law_row" :: N__law_by:List Str).Nodup:=by decide +kernel
def t_by:TF:=fun ds n Q=>∃ (i d:Nat) (ts:List Thing) (dd:D),ds=[dd,.int i]/\(dd=.lst (ts.map encThing)\/dd=.tup (ts.map encThing))/\i<d/\d<=4/\GoodU d ts/\ts.length<64/\∀ us:List Thing,OrdT i ts us->Q (.lst (us.map encThing)) n
private theorem ok_by(T:Blt mg)(F:Fun K "_law_by" "_law_by" s__law_by f fd):FnOk P w K mg base CX0 1 f fd ["_law_things_here", "_law_i"] (spD K 2 t_by):=by
 refine Fun.okD F sc__law_by (fun _ _ _ s H E G Z hr=>(pssd_cons (psd_own (i:=2) sc__law_by.nd rfl (lo rfl) pad_nil)
  (pssd_cons (psd_for (m:=5) PassesOwn.never rfl (pid_seq rfl (pd_var 0)) (pgd_name (i:=3) sc__law_by.nd rfl (lo rfl) (by decide))
  (pssd_cons (psd_set (i:=4) sc__law_by.nd rfl (lo rfl) (pd_ix ix_seq re_ix (pd_var 3) pd_int (fun _ _=>rfl)))
  (pssd_one (psd_append (i:=2) (pad_cons (pd_tup (pad_cons (pd_callTy call_tuple_of cr_tuple T.tuple bt_tuple (pad_cons (pd_comp (own:=["_law_k"]) (M:=N__law_by) (compOk (by rfl)) rfl (pid_rng T.range (pad_cons (pd_callB call_len_seq cr_len T.len bt_len (pad_cons (pd_var 4) pad_nil)) pad_nil)) (fun _ _ _ _=>(pgd_name (i:=0) nd__law_by_0 rfl (lo rfl) (by decide))) (fun _ _ _ _=>ptsd_nil) (fun _ _ _ _=>(pd_ix ix_seq re_ix (pd_var 5) (pd_mod (pd_add (pd_var 2) (pd_var 0)) (pd_callB call_len_seq cr_len T.len bt_len (pad_cons (pd_var 5) pad_nil))) (fun _ _=>rfl)))) pad_nil)) (pad_cons (pd_ix ix_seq re_ix (pd_var 3) pd_int (fun _ _=>rfl)) (pad_cons (pd_var 3) pad_nil)))) pad_nil) rfl))))
  (pssd_one (psd_frz 2 (psd_ret (pd_comp (own:=["_law_row"]) (M:=N__law_by) (compOk (by rfl)) rfl (pid_seq rfl (pd_callB (call_sortT hr) (cr_sortT rfl) T.sorted bt_sorted (pad_cons (pd_var 2) pad_nil))) (fun _ _ _ _=>(pgd_name (i:=0) nd__law_by_1 rfl (lo rfl) (by decide))) (fun _ _ _ _=>ptsd_nil) (fun _ _ _ _=>(pd_ix ix_seq re_ix (pd_var 0) pd_int (fun _ _=>rfl)))))))))) ?_
 rintro ds n Q hl ⟨i,d,ts,dd,rfl,hdd,hi,hd,hg,hz,q⟩
 have ndd:notOwn dd=true:=by rcases hdd with rfl | rfl<;>rfl
 simp[startD,ndd]
 refine⟨_,hdd,JBy i ts _ _ n,⟨rfl,_,_,rfl⟩,?_,?_⟩
 ·rintro j e rho n' he ⟨rfl, u, v, rfl⟩
  rw[getElem?_map] at he
  cases htj:ts[j]? with
  | none=>rw[htj] at he;cases he
  | some t =>
   rw[htj] at he
   cases he
   have ht:=mem_of_getElem? htj
   have hj:j<ts.length:=(List.getElem?_eq_some_iff.mp htj).1
   have h2:=hg.each t ht
   obtain⟨x,p,y⟩:=t
   simp only at h2
   have acc:((ts.take (j+1)).map fun t=>(rowLaw i t).d)=((ts.take j).map fun t=>(rowLaw i t).d)++[(rowLaw i (x,p,y)).d]:=by
    rw[take_add_one,htj,map_append];rfl
   have hal:((ts.take j).map fun t=>(rowLaw i t).d).length<sizeLine:=by rw[length_map,length_take];exact lt_size (by lia)
   generalize ((ts.take j).map fun t=>(rowLaw i t).d)=ac at *
   have no:notOwn (encThing (x,p,y))=true:=rfl
   have np:notOwn (encPlace p)=true:=rfl
   have e0:atI [D.int x,encPlace p,D.int y] 0=some (.int x):=rfl
   have e1:atI [D.int x,encPlace p,D.int y] 1=some (encPlace p):=rfl
   have i0:∀ R:D->Prop,R (.int x)->rdIx (encThing (x,p,y)) (.int 0) R:=fun R h=>⟨_,_,_,.inr (.inl rfl),rfl,e0,h⟩
   have i1:∀ R:D->Prop,R (encPlace p)->rdIx (encThing (x,p,y)) (.int 1) R:=fun R h=>⟨_,_,_,.inr (.inl rfl),rfl,e1,h⟩
   simp[no]
   refine i1 _ ?_
   have kp:∀ R:D->Prop,R (.int (p.length:Int))->kLen [encPlace p] R:=fun R h=>by unfold encPlace;rw[q_kLenT,length_map];exact h
   refine⟨hal,atD_mk np (kp _ ⟨p.length,rfl,by lia,by lia,?_⟩)⟩
   rw[Int.toNat_natCast,rng_map]
   refine comp_mapIn (fun(k:Nat)=>D.int (k:Int)) (fun k=>.int (p.getD ((i+k)%p.length) 0)) (List.range p.length) (le_size (by simp;lia)) (fun k hk R hR=>?_) ?_
   ·have hk' := List.mem_range.mp hk
    have ej:((i:Int)+(k:Int))%(p.length:Int)=(((i+k)%p.length:Nat):Int):=by rw[Int.natCast_emod,Int.natCast_add]
    simp
    refine kp _ ?_
    rw[q_rdI,ej]
    exact⟨by lia,_,_,_,.inr (.inl rfl),rfl,atPlace rfl (Nat.mod_lt _ (by lia)),hR⟩
   ·simp only [q_kTupleL]
    refine i0 _ ?_
    refine⟨rfl,some (encThing (x,p,y)),some (encPlace p),?_⟩
    have er:(rowLaw i (x,p,y)).d=D.tup [D.tup ((List.range p.length).map fun k=>D.int (p.getD ((i+k)%p.length) 0)),D.int x,encThing (x,p,y)]:=by
     show D.tup [D.tup ((rot i p).map D.int),D.int x,encThing (x,p,y)]=_
     rw[<- rot_eq i p (by lia),map_map]
     rfl
    rw[acc,er]
 ·rintro rho n' ⟨rfl, u, v, rfl⟩
  rw[length_map,take_length]
  simp
  refine⟨ts.map (rowLaw i),false,by rw[map_map];rfl,by rw[length_map];lia,?_,?_,fun rows hp hs=>⟨_,.inl rfl,?_⟩⟩
  ·intro x hx
   obtain⟨t,_,rfl⟩:=List.mem_map.mp hx
   rfl
  ·rw [List.map_map]
   exact hg.nd
  ·obtain ⟨us, pu, rfl⟩ := perm_map hp
   have hlen:us.length=ts.length:=pu.length_eq
   rw[map_map]
   refine comp_mapIn (SRow.d∘rowLaw i) encThing us (le_size (by lia)) (fun t ht R hR=>?_) (q us ⟨pu,by rw[pairwise_map] at hs;exact hs⟩)
   have e2:atI [D.tup ((rot i t.2.1).map D.int),D.int t.1,encThing t] 2=some (encThing t):=rfl
   have er:(SRow.d∘rowLaw i) t=D.tup [D.tup ((rot i t.2.1).map D.int),D.int t.1,encThing t]:=rfl
   rw[er]
   simp[e2]
   exact hR
abbrev s__law_names:Stmt:=top 50
abbrev N__law_names:List Str:=["_law_things_here"]
private theorem sc__law_names:FnScope N__law_names q5 (defScope s__law_names):=⟨rfl,rfl,rfl,by decide +kernel,rfl,by decide +kernel,by decide +kernel⟩
private theorem nd__law_names_0:("_law_thing" :: N__law_names:List Str).Nodup:=by decide +kernel
def t_names:TF:=fun ds n Q=>∃ us:List Thing,ds=[.lst (us.map encThing)]/\us.length<=1000/\Q (namesD us) n
private theorem ok_names(T:Blt mg)(F:Fun K "_law_names" "_law_names" s__law_names f fd):FnOk P w K mg base CX0 1 f fd q5 (spD K 1 t_names):=by
 refine Fun.okD F sc__law_names (fun _ _ _ s H E G Z hr=>(pssd_one (psd_ret (pd_callTy call_tuple_of cr_tuple T.tuple bt_tuple (pad_cons (pd_comp (own:=["_law_thing"]) (M:=N__law_names) (compOk (by rfl)) rfl (pid_seq rfl (pd_var 0)) (fun _ _ _ _=>(pgd_name (i:=0) nd__law_names_0 rfl (lo rfl) (by decide))) (fun _ _ _ _=>ptsd_nil) (fun _ _ _ _=>(pd_ix ix_seq re_ix (pd_var 0) pd_int (fun _ _=>rfl)))) pad_nil))))) ?_
 rintro ds n Q hl ⟨us,rfl,hz,q⟩
 simp[startD]
 refine comp_mapIn encThing (fun t=>.int t.1) us (le_size hz) (fun t ht R hR=>?_) ?_
 ·have no : notOwn (encThing t) = true := rfl
  have e0:atI [D.int t.1,encPlace t.2.1,D.int t.2.2] 0=some (.int t.1):=rfl
  simp[no]
  unfold encThing
  simp[e0]
  exact hR
 ·simp
  exact q
def thsD(ts:List Thing):D:=.lst (ts.map encThing)
@[simp] private theorem no_thsD(ts:List Thing):notOwn (thsD ts)=true:=id rfl
abbrev s__law_layer:Stmt:=top 51
abbrev N__law_layer:List Str:=["_law_left_here", "_law_things_here", "_law_i", "_law_d", "_law_halves", "_law_some", "_law_low", "_law_high", "_law_inner", "_law_at"]
private theorem sc__law_layer:FnScope N__law_layer q6 (defScope s__law_layer):=⟨rfl,rfl,rfl,by decide +kernel,rfl,by decide +kernel,by decide +kernel⟩
def t_layer:Nat->TF
 | 0=>fun _ _ _=>False
 | j+1=>fun ds n Q=>∃ (d i:Nat) (ts:List Thing) (dd:D) (b:Bool),ds=[.st,dd,.int i,.int d,.bl b]/\n=2/\(dd=.lst (ts.map encThing)\/dd=.tup (ts.map encThing))/\i<d/\d<=4/\GoodU d ts/\1<=ts.length/\ts.length<64/\ts.length+(d-i)<=j+2/\∀ tr,LayOf d i ts tr->Q tr n
private theorem ok_layer(T:Blt mg)(F:Fun K "_law_layer" "_law_layer" s__law_layer f fd)(hm:mg "_law_layer" = some (.ref f))(hk:W.keepIn K (.ref f)=true)(hb:Binds K fd ["_law_left_here", "_law_things_here", "_law_i", "_law_d", "_law_halves"] [])(Y_pick:Fn P w K mg base "_law_pick" 1 2 t_pick)(Y_by:Fn P w K mg base "_law_by" 1 2 t_by)(Y_names:Fn P w K mg base "_law_names" 1 1 t_names):∀ j:Nat,FnOk P w K mg base CX0 (j+1) f fd q6 (spD K 5 (t_layer j)):=by
 intro j
 induction j with
 | zero=>exact FnOk.botK fun ds n Q h=>h
 | succ j ih =>
  have Y_layer:Fn P w K mg base "_law_layer" (j+1) 5 (t_layer j):=⟨f,fd,_,ih,hm,hk,hb⟩
  refine Fun.okD F sc__law_layer (fun _ _ _ s H E G Z hr=>(pssd_cons (psd_set (i:=5) sc__law_layer.nd rfl (lo rfl) (pd_fn Y_by (hr.mono (by lia)) rfl (pad_cons (pd_var 1) (pad_cons (pd_var 2) pad_nil))))
  (pssd_cons (psd_unp (m:=10) (pd_tup (pad_cons pd_non (pad_cons pd_non (pad_cons pd_non pad_nil)))) (pgd_tup (k:=3) rfl rfl (pgsd_cons (pgd_name (i:=6) sc__law_layer.nd rfl (lo rfl) (by decide)) (pgsd_cons (pgd_name (i:=7) sc__law_layer.nd rfl (lo rfl) (by decide)) (pgsd_cons (pgd_name (i:=8) sc__law_layer.nd rfl (lo rfl) (by decide)) pgsd_nil)))))
  (pssd_cons (psd_if (ptd_cmp op_gt re_gt (pd_callB call_len_seq cr_len T.len bt_len (pad_cons (pd_var 5) pad_nil)) pd_int (nomark _)) (pssd_cons (psd_set (i:=9) sc__law_layer.nd rfl (lo rfl) (pd_div (pd_add (pd_callB call_len_seq cr_len T.len bt_len (pad_cons (pd_var 5) pad_nil)) pd_int) pd_int))
  (pssd_cons (psd_if (ptd_not (ptd_val (pd_var 4))) (pssd_one (psd_set (i:=9) sc__law_layer.nd rfl (lo rfl) (pd_add pd_int (pd_fn Y_pick (hr.mono (by lia)) rfl (pad_cons (pd_var 0) (pad_cons (pd_sub (pd_callB call_len_seq cr_len T.len bt_len (pad_cons (pd_var 5) pad_nil)) pd_int) pad_nil)))))) pssd_nil)
  (pssd_cons (psd_set (i:=6) sc__law_layer.nd rfl (lo rfl) (pd_fn Y_layer hr rfl (pad_cons (pd_var 0) (pad_cons (pd_slV rfl (pd_var 5) pod_none (pod_some (pd_var 9))) (pad_cons (pd_var 2) (pad_cons (pd_var 3) (pad_cons (pd_var 4) pad_nil)))))))
  (pssd_one (psd_set (i:=7) sc__law_layer.nd rfl (lo rfl) (pd_fn Y_layer hr rfl (pad_cons (pd_var 0) (pad_cons (pd_slV rfl (pd_var 5) (pod_some (pd_var 9)) pod_none) (pad_cons (pd_var 2) (pad_cons (pd_var 3) (pad_cons (pd_var 4) pad_nil))))))))))) pssd_nil)
  (pssd_cons (psd_if (ptd_cmp op_lt re_lt (pd_add (pd_var 2) pd_int) (pd_var 3) (nomark _)) (pssd_one (psd_set (i:=8) sc__law_layer.nd rfl (lo rfl) (pd_fn Y_layer hr rfl (pad_cons (pd_var 0) (pad_cons (pd_var 5) (pad_cons (pd_add (pd_var 2) pd_int) (pad_cons (pd_var 3) (pad_cons (pd_var 4) pad_nil)))))))) pssd_nil)
  (pssd_one (psd_ret (pd_tup (pad_cons (pd_fn Y_names (hr.mono (by lia)) rfl (pad_cons (pd_var 5) pad_nil)) (pad_cons (pd_var 6) (pad_cons (pd_var 7) (pad_cons (pd_var 8) pad_nil)))))))))))) ?_
  rintro ds n Q hl ⟨d,i,ts,dd,b,rfl,rfl,hdd,hi,hd,hg,h1,hz,hj,q⟩
  have ndd:notOwn dd=true:=by rcases hdd with rfl | rfl<;>rfl
  simp[startD,ndd]
  refine⟨i,d,ts,dd,rfl,hdd,hi,hd,hg,hz,fun rs ho=>?_⟩
  have eT:D.lst (rs.map encThing)=thsD rs:=rfl
  rw[eT]
  have hrl:=ho.perm.length_eq
  have hrg:=hg.perm ho.perm
  have kl:∀ R:D->Prop,R (.int (rs.length:Int))->kLen [thsD rs] R:=fun R h=>by unfold thsD;rw[q_kLenL,length_map];exact h
  have part:∀ (us:List Thing) (i':Nat) (R:D->Nat->Prop),i'<d->GoodU d us->1<=us.length->us.length<64->us.length+(d-i')<=j+1->(∀ tr,LayOf d i' us tr->R tr 2)->t_layer j [.st,.lst (us.map encThing),.int i',.int d,.bl b] 2 R:=fun us i' R h2 h3 h4 h5 h6 hR=>by
   cases j with
   | zero=>lia
   | succ j=>exact⟨d,i',us,_,b,rfl,rfl,.inl rfl,h2,hd,h3,h4,h5,by lia,hR⟩
  have nm:∀ R:D->Nat->Prop,R (namesD rs) 2->t_names [thsD rs] 2 R:=fun R h=>⟨rs,rfl,by lia,h⟩
  have hne:rs≠[]:=by rintro rfl;simp at hrl;lia
  have ei:((i:Int)+1)=((i+1:Nat):Int):=by lia
  have fin:∀ (ls hs:List Thing) (low high:D),ls++hs=rs->ls≠[]->hs≠[]->LayOf d i ls low->LayOf d i hs high->(if (i:Int)+1<(d:Int) then t_layer j [.st,thsD rs,.int ((i:Int)+1),.int d,.bl b] 2 fun x n1=>t_names [thsD rs] n1 fun y n1=>atD low fun l=>atD high fun h=>atD x fun x=>Q (.tup [y,l,h,x]) n1 else t_names [thsD rs] 2 fun y n1=>atD low fun l=>atD high fun h=>Q (.tup [y,l,h,.non]) n1):=fun ls hs low high e n1 n2 l1 l2=>by
   split
   ·rename_i hlt
    rw[ei]
    refine part rs (i+1) _ (by lia) hrg (by lia) (by lia) (by lia) fun x hx=>?_
    exact nm _ (atD_mk l1.own (atD_mk l2.own (atD_mk hx.own (q _ (.node ho hne (.inr ⟨e,n1,n2⟩) (by rw[if_neg (by lia)]) l1 l2 hx)))))
   ·rename_i hlt
    exact nm _ (atD_mk l1.own (atD_mk l2.own (q _ (.node (inn:=[]) ho hne (.inr ⟨e,n1,n2⟩) (by rw[if_pos (by lia)]) l1 l2 .non))))
  have two:∀ at_:Nat,1<=at_->at_<rs.length->lstAt (thsD rs) fun fs=>t_layer j [.st,.lst (cutL fs none (some (at_:Int))),.int i,.int d,.bl b] 2 fun d_10 n1=>lstAt (thsD rs) fun fs=>t_layer j [.st,.lst (cutL fs (some (at_:Int)) none),.int i,.int d,.bl b] n1 fun d_12 n1=>(if (i:Int)+1<(d:Int) then t_layer j [.st,thsD rs,.int ((i:Int)+1),.int d,.bl b] n1 fun x n1=>t_names [thsD rs] n1 fun y n1=>atD d_10 fun l=>atD d_12 fun h=>atD x fun x=>Q (.tup [y,l,h,x]) n1 else t_names [thsD rs] n1 fun y n1=>atD d_10 fun l=>atD d_12 fun h=>Q (.tup [y,l,h,.non]) n1):=fun at_ a1 a2=>by
   refine⟨_,.inl rfl,?_⟩
   dsimp only
   rw[cut_to _ _ (by rw[length_map];lia),<- map_take]
   refine part _ i _ hi (hrg.sub (take_sublist ..)) (by rw[length_take];lia) (by rw[length_take];lia) (by rw[length_take];lia) fun low hlow=>⟨_,.inl rfl,?_⟩
   dsimp only
   rw[cut_from _ _ (by rw[length_map];lia),<- map_drop]
   refine part _ i _ hi (hrg.sub (drop_sublist ..)) (by rw[length_drop];lia) (by rw[length_drop];lia) (by rw[length_drop];lia) fun high hhigh=>?_
   exact fin _ _ _ _ (take_append_drop at_ rs) (fun z=>by have:=congrArg List.length z;rw[length_take,length_nil] at this;lia) (fun z=>by have:=congrArg List.length z;rw[length_drop,length_nil] at this;lia) hlow hhigh
  simp
  refine kl _ ?_
  simp
  split
  ·rename_i h2
   have h2':2<=rs.length:=by lia
   refine kl _ ?_
   simp
   have eh:((rs.length:Int)+1)/2=(((rs.length+1)/2:Nat):Int):=by lia
   refine⟨⟨by decide,by decide⟩,?_⟩
   split
   ·rw [eh]
    exact two _ (by lia) (by lia)
   ·refine kl _ ?_
    simp
    refine pick_intro (by lia) (by lia) fun k k0 k1=>?_
    obtain⟨at_,ha⟩:=Int.eq_ofNat_of_zero_le (show 0<=1+k by lia)
    simp
    rw[ha]
    exact two at_ (by lia) (by lia)
  ·rename_i h2
   have h2':rs.length=1:=by lia
   split
   ·rename_i hlt
    rw[ei]
    refine part rs (i+1) _ (by lia) hrg (by lia) (by lia) (by lia) fun x hx=>?_
    exact nm _ (atD_mk hx.own (q _ (.node ho hne (.inl ⟨h2',rfl,rfl⟩) (by rw[if_neg (by lia)]) .non .non hx)))
   ·rename_i hlt
    exact nm _ (q _ (.node (inn:=[]) ho hne (.inl ⟨h2',rfl,rfl⟩) (by rw[if_pos (by lia)]) .non .non .non))
end
end K25
namespace K25
abbrev Pair:=Option Int × Option Int
def encPair(p:Pair):D:=.tup [encO p.1,encO p.2]
def encPairs(ps:List Pair):D:=.tup (ps.map encPair)
def crossedT:Pair->Bool
 | (some l,some g)=>decide (g<l)
 | _=>false
def emptyP:Pair:=(some 1,some 0)
def settledT(ps:List Pair):List Pair:=if ps.any crossedT then ps.map (fun _=>emptyP) else ps
def pairT(s:Span):Pair:=(leastT s.1,greatT s.2)
def plainT(b:List Span):List Pair:=settledT (b.map pairT)
@[simp] private theorem encO_none:encO none=.non:=rfl
@[simp] private theorem encO_some{i:Int}:encO (some i)=.int i:=rfl
section
variable {P:Program} {w:World} {K:W.Frag} {mg:Str->Option Value} {base:Heap} {f:Addr} {fd:FuncData}
abbrev s_is_crossed:Stmt:=top 9
abbrev N_is_crossed:List Str:=["pair", "least", "greatest"]
private theorem sc_is_crossed:FnScope N_is_crossed ["pair"] (defScope s_is_crossed):=⟨rfl,rfl,rfl,by decide +kernel,rfl,by decide +kernel,by decide +kernel⟩
def t_is_crossed:TF:=fun ds n Q=>∃ p:Pair,ds=[encPair p]/\Q (.bl (crossedT p)) n
private theorem ok_is_crossed(F:Fun K "is_crossed" "is_crossed" s_is_crossed f fd):FnOk P w K mg base CX0 1 f fd ["pair"] (spD K 1 t_is_crossed):=by
 refine Fun.okD F sc_is_crossed (fun _ _ _ s H E G Z hr=>(pssd_cons (psd_unp (m:=3) (pd_var 0) (pgd_tup (k:=2) rfl rfl (pgsd_cons (pgd_name (i:=1) sc_is_crossed.nd rfl (lo rfl) (by decide)) (pgsd_cons (pgd_name (i:=2) sc_is_crossed.nd rfl (lo rfl) (by decide)) pgsd_nil))))
  (pssd_one (psd_ret (pd_and (pd_cmp op_notN re_notN (pd_var 1) pd_non (nomark _)) (pd_and (pd_cmp op_notN re_notN (pd_var 2) pd_non (nomark _)) (pd_one (pd_cmp op_gt re_gt (pd_var 1) (pd_var 2) (nomark _))))))))) ?_
 rintro ds n Q hl ⟨⟨lo,hi⟩,rfl,q⟩
 rcases lo with _ | lo<;>rcases hi with _ | hi<;>simp[startD,encPair]<;>exact q
abbrev s_settled:Stmt:=top 10
abbrev N_settled:List Str:=["pairs"]
private theorem sc_settled:FnScope N_settled ["pairs"] (defScope s_settled):=⟨rfl,rfl,rfl,by decide +kernel,rfl,by decide +kernel,by decide +kernel⟩
private theorem nd_settled_0:("pair" :: N_settled:List Str).Nodup:=by decide +kernel
private theorem nd_settled_1:("pair" :: N_settled:List Str).Nodup:=by decide +kernel
def t_settled:TF:=fun ds n Q=>∃ (ps:List Pair) (d:D),ds=[d]/\(d=.lst (ps.map encPair)\/d=encPairs ps)/\ps.length<=1000/\Q (encPairs (settledT ps)) n
private theorem ok_settled(T:Blt mg)(G_EMPTY_PAIR:GDat K mg "EMPTY_PAIR" (.tup [.int 1,.int 0]))(F:Fun K "settled" "settled" s_settled f fd)(F_is_crossed:Fn P w K mg base "is_crossed" 1 1 t_is_crossed):FnOk P w K mg base CX0 2 f fd ["pairs"] (spD K 1 t_settled):=by
 refine Fun.okD F sc_settled (fun _ _ _ s H E G Z hr=>(pssd_cons (psd_if (ptd_val (pd_callB (call_any rfl) cr_any T.any bt_any (pad_cons (pd_comp (own:=["pair"]) (M:=N_settled) (compOk (by rfl)) rfl (pid_seq rfl (pd_var 0)) (fun _ _ _ _=>(pgd_name (i:=0) nd_settled_0 rfl (lo rfl) (by decide))) (fun _ _ _ _=>ptsd_nil) (fun _ _ _ _=>(pd_fn F_is_crossed (hr.mono (by decide)) rfl (pad_cons (pd_var 0) pad_nil)))) pad_nil))) (pssd_one (psd_ret (pd_callTy call_tuple_of cr_tuple T.tuple bt_tuple (pad_cons (pd_comp (own:=["pair"]) (M:=N_settled) (compOk (by rfl)) rfl (pid_seq rfl (pd_var 0)) (fun _ _ _ _=>(pgd_name (i:=0) nd_settled_1 rfl (lo rfl) (by decide))) (fun _ _ _ _=>ptsd_nil) (fun _ _ _ _=>(pd_glob G_EMPTY_PAIR rfl))) pad_nil)))) pssd_nil)
  (pssd_one (psd_ret (pd_callTy call_tuple_of cr_tuple T.tuple bt_tuple (pad_cons (pd_var 0) pad_nil)))))) ?_
 rintro ds n Q hl ⟨ps,d,rfl,hd,hz,q⟩
 have hno:notOwn d=true:=by rcases hd with rfl | rfl<;>rfl
 have hsz:ps.length<=sizeLine:=le_size hz
 have hit:∀ R:List D->Prop,R (ps.map encPair)->∃ es,(d=.lst es\/d=.tup es)/\R es:=fun R h=>⟨_,hd,h⟩
 simp[startD,hno]
 refine hit _ (comp_mapIn encPair (fun p=>.bl (crossedT p)) ps hsz (fun x hx R hR=>?_) ?_)
 ·simp [encPair]
  exact⟨x,rfl,hR⟩
 ·refine ⟨ps.map crossedT, by rw [List.map_map]; rfl, ?_⟩
  simp
  unfold settledT at q
  by_cases h:ps.any crossedT
  ·simp only [h, if_true]
   rw[if_pos h] at q
   refine hit _ (comp_mapIn encPair (fun p=>.tup [.int 1,.int 0]) ps hsz (fun x hx R hR=>?_) ?_)
   ·simp
    exact hR
   ·simp
    have e:encPairs (ps.map fun _=>emptyP)=.tup (ps.map fun _=>.tup [.int 1,.int 0]):=by unfold encPairs;rw[map_map];rfl
    rw[e] at q
    simpa using q
  ·rw [if_neg h] at q
   simp only[h]
   rcases hd with rfl | rfl
   ·simp;exact q
   ·unfold encPairs;simp;exact q
abbrev s_plain_box:Stmt:=top 11
abbrev N_plain_box:List Str:=["box"]
private theorem sc_plain_box:FnScope N_plain_box ["box"] (defScope s_plain_box):=⟨rfl,rfl,rfl,by decide +kernel,rfl,by decide +kernel,by decide +kernel⟩
private theorem nd_plain_box_0:("span" :: N_plain_box:List Str).Nodup:=by decide +kernel
def t_plain_box:TF:=fun ds n Q=>∃ b:List Span,ds=[encBox b]/\b.length<=1000/\Q (encPairs (plainT b)) n
private theorem ok_plain_box(F:Fun K "plain_box" "plain_box" s_plain_box f fd)(F_pair_of:Fn P w K mg base "pair_of" 2 1 t_pair_of)(F_settled:Fn P w K mg base "settled" 2 1 t_settled):FnOk P w K mg base CX0 3 f fd ["box"] (spD K 1 t_plain_box):=by
 refine Fun.okD F sc_plain_box (fun _ _ _ s H E G Z hr=>(pssd_one (psd_ret (pd_fn F_settled (hr.mono (by decide)) rfl (pad_cons (pd_comp (own:=["span"]) (M:=N_plain_box) (compOk (by rfl)) rfl (pid_seq rfl (pd_var 0)) (fun _ _ _ _=>(pgd_name (i:=0) nd_plain_box_0 rfl (lo rfl) (by decide))) (fun _ _ _ _=>ptsd_nil) (fun _ _ _ _=>(pd_fn F_pair_of (hr.mono (by decide)) rfl (pad_cons (pd_var 0) pad_nil)))) pad_nil))))) ?_
 rintro ds n Q hl ⟨b,rfl,hz,q⟩
 have nb:notOwn (encBox b)=true:=rfl
 simp[startD,nb]
 refine⟨b.map encSpan,.inr rfl,comp_mapIn encSpan (fun s=>encPair (pairT s)) b (le_size hz) (fun x hx R hR=>?_) ?_⟩
 ·simp [encSpan]
  exact⟨x,rfl,hR⟩
 ·exact⟨b.map pairT,_,rfl,.inl (by rw[map_map];rfl),by simpa using hz,q⟩
end
end K25
namespace K25
def houseOf(d:Nat)(ts:List Thing):D:=.tup [.int d,.tup (ts.map encThing)]
private theorem HalfOf.perm{d i:Nat}{ts us:List Thing}{tr:D}(h:HalfOf d i ts tr)(p:us.Perm ts):HalfOf d i us tr:=by
 cases h with
 | non=>rw[List.perm_nil.mp p];exact .non
 | node ho hne hp he a b c=>exact .node ⟨ho.perm.trans p.symm,ho.up⟩ hne hp he a b c
section
variable {P:Program} {w:World} {K:W.Frag} {mg:Str->Option Value} {base:Heap} {f:Addr} {fd:FuncData}
abbrev s_layer_of:Stmt:=top 37
abbrev N_layer_of:List Str:=["d", "by_name", "names", "i", "inner", "half"]
private theorem sc_layer_of:FnScope N_layer_of q7 (defScope s_layer_of):=⟨rfl,rfl,rfl,by decide +kernel,rfl,by decide +kernel,by decide +kernel⟩
def t_lay:Nat->TF
 | 0=>fun _ _ _=>False
 | j+1=>fun ds n Q=>∃ (d i:Nat) (hs rs:List Thing),ds=[.int d,byN hs,namesD rs,.int i]/\i<d/\d<=4/\(hs.map fun t=>t.1).Nodup/\(∀ t∈rs,t∈hs)/\GoodU d rs/\OrdT i rs rs/\1<=rs.length/\rs.length<256/\rs.length+(d-i)<=j+2/\∀ tr,HalfOf d i rs tr->Q tr n
private theorem ok_lay(T:Blt mg)(F:Fun K "layer_of" "layer_of" s_layer_of f fd)(hm:mg "layer_of" = some (.ref f))(hk:W.keepIn K (.ref f)=true)(hb:Binds K fd ["d", "by_name", "names", "i"] [])(F_names_in_order:Fn P w K mg base "names_in_order" 2 3 t_in_order)(F_halved_up:Fn P w K mg base "halved_up" 1 1 t_halved_up):∀ j:Nat,FnOk P w K mg base CX0 (j+2) f fd q7 (spD K 4 (t_lay j)):=by
 intro j
 induction j with
 | zero=>exact FnOk.botK fun ds n Q h=>h
 | succ j ih =>
  have F_layer_of:Fn P w K mg base "layer_of" (j+2) 4 (t_lay j):=⟨f,fd,_,ih,hm,hk,hb⟩
  refine Fun.okD F sc_layer_of (fun _ _ _ s H E G Z hr=>(pssd_cons (psd_set (i:=4) sc_layer_of.nd rfl (lo rfl) (pd_if (ptd_cmp op_eq re_eq (pd_add (pd_var 3) pd_int) (pd_var 0) (nomark _)) pd_non (pd_fn F_layer_of hr rfl (pad_cons (pd_var 0) (pad_cons (pd_var 1) (pad_cons (pd_fn F_names_in_order (hr.mono (by lia)) rfl (pad_cons (pd_var 1) (pad_cons (pd_var 2) (pad_cons (pd_add (pd_var 3) pd_int) pad_nil)))) (pad_cons (pd_add (pd_var 3) pd_int) pad_nil)))))))
  (pssd_cons (psd_if (ptd_cmp op_eq re_eq (pd_callB call_len_seq cr_len T.len bt_len (pad_cons (pd_var 2) pad_nil)) pd_int (nomark _)) (pssd_one (psd_ret (pd_tup (pad_cons (pd_var 2) (pad_cons pd_non (pad_cons pd_non (pad_cons (pd_var 4) pad_nil))))))) pssd_nil)
  (pssd_cons (psd_set (i:=5) sc_layer_of.nd rfl (lo rfl) (pd_fn F_halved_up (hr.mono (by lia)) rfl (pad_cons (pd_callB call_len_seq cr_len T.len bt_len (pad_cons (pd_var 2) pad_nil)) pad_nil)))
  (pssd_one (psd_ret (pd_tup (pad_cons (pd_var 2) (pad_cons (pd_fn F_layer_of hr rfl (pad_cons (pd_var 0) (pad_cons (pd_var 1) (pad_cons (pd_slT rfl (pd_var 2) pod_none (pod_some (pd_var 5))) (pad_cons (pd_var 3) pad_nil))))) (pad_cons (pd_fn F_layer_of hr rfl (pad_cons (pd_var 0) (pad_cons (pd_var 1) (pad_cons (pd_slT rfl (pd_var 2) (pod_some (pd_var 5)) pod_none) (pad_cons (pd_var 3) pad_nil))))) (pad_cons (pd_var 4) pad_nil))))))))))) ?_
  generalize hS:sSeq (sIf _ _ _) _=S
  rintro ds n Q hl ⟨d,i,hs,rs,rfl,hi,hd,hn,hsub,hg,ho,h1,hz,hj,q⟩
  have nb:notOwn (byN hs)=true:=id rfl
  have ei:((i:Int)+1)=((i+1:Nat):Int):=by lia
  have part:∀ (us:List Thing) (i':Nat) (R:D->Nat->Prop),i'<d->(∀ t∈us,t∈hs)->GoodU d us->OrdT i' us us->1<=us.length->us.length<256->us.length+(d-i')<=j+1->(∀ tr,HalfOf d i' us tr->R tr n)->t_lay j [.int d,byN hs,namesD us,.int i'] n R:=fun us i' R g1 g2 g3 g4 g5 g6 g7 hR=>by
   cases j with
   | zero=>lia
   | succ j=>exact⟨d,i',hs,us,rfl,g1,hd,hn,g2,g3,g4,g5,g6,by lia,hR⟩
  have kl:∀ R:D->Prop,R (.int (rs.length:Int))->kLen [namesD rs] R:=fun R h=>by unfold namesD;rw[q_kLenT,length_map];exact h
  have main:∀ inner,HalfOf d (i+1) (if i+1=d then [] else rs) inner->S { nx:=fun _ n=>Q .non n,rt:=Q } [some (.int d),some (byN hs),some (namesD rs),some (.int i),some inner,none] n:=fun inner hi2=>by
   have nin:=hi2.own
   have hne:rs≠[]:=by rintro rfl;simp at h1
   subst hS
   simp[nb,nin]
   refine kl _ ?_
   simp
   by_cases e1:rs.length=1
   ·rw [if_pos (by lia)]
    exact q _ (.node ho hne (.inl ⟨e1,rfl,rfl⟩) rfl .non .non hi2)
   ·rw [if_neg (by lia)]
    refine kl _ ?_
    refine⟨rs.length,rfl,?_⟩
    have hh:(rs.length+1)/2<=rs.length:=by lia
    generalize ehf:(rs.length+1)/2=hf at hh
    simp
    refine⟨_,rfl,?_⟩
    dsimp only
    rw[cut_to _ _ (by rw[length_map];exact hh),<- map_take]
    refine part (rs.take hf) i _ hi (fun t ht=>hsub t (List.mem_of_mem_take ht)) (hg.sub (take_sublist ..)) (ho.sub (take_sublist ..)) (by rw[length_take];lia) (by rw[length_take];lia) (by rw[length_take];lia) fun low hlow=>?_
    refine⟨_,rfl,?_⟩
    dsimp only
    rw[cut_from _ _ (by rw[length_map];exact hh),<- map_drop]
    refine part (rs.drop hf) i _ hi (fun t ht=>hsub t (List.mem_of_mem_drop ht)) (hg.sub (drop_sublist ..)) (ho.sub (drop_sublist ..)) (by rw[length_drop];lia) (by rw[length_drop];lia) (by rw[length_drop];lia) fun high hhigh=>?_
    exact q _ (.node ho hne (.inr ⟨by lia,by rw[ehf],by rw[ehf]⟩) rfl hlow hhigh hi2)
  clear hS
  simp[startD,nb]
  by_cases e1:i+1=d
  ·rw [if_pos e1] at main
   have e1':((i:Int)+1=(d:Int)):=by lia
   simp[e1']
   exact main _ .non
  ·rw [if_neg e1] at main
   have e1':¬ ((i:Int)+1=(d:Int)):=by lia
   simp[e1',nb]
   rw[ei]
   refine⟨i+1,d,hs,rs,rfl,by lia,hd,hn,hsub,hg,hz,fun us ou=>?_⟩
   have hul:=ou.perm.length_eq
   refine part us (i+1) _ (by lia) (fun t ht=>hsub t (ou.perm.mem_iff.mp ht)) (hg.perm ou.perm) (ou.sub (List.Sublist.refl _)) (by lia) (by lia) (by lia) fun tr htr=>?_
   exact main _ (htr.perm ou.perm.symm)
abbrev s_layers:Stmt:=top 38
abbrev N_layers:List Str:=["house", "d", "things"]
private theorem sc_layers:FnScope N_layers ["house"] (defScope s_layers):=⟨rfl,rfl,rfl,by decide +kernel,rfl,by decide +kernel,by decide +kernel⟩
def t_lays:TF:=fun ds n Q=>∃ (d:Nat) (ts:List Thing),ds=[houseOf d ts]/\1<=d/\d<=4/\GoodU d ts/\ts.length<=210/\∀ tr,HalfOf d 0 ts tr->Q tr n
private theorem ok_lays(T:Blt mg)(F:Fun K "layers" "layers" s_layers f fd)(F_things_by_name:Fn P w K mg base "things_by_name" 1 1 t_tbn)(F_order_by:Fn P w K mg base "order_by" 2 2 t_order_by)(F_layer_of:Fn P w K mg base "layer_of" 217 4 (t_lay 215)):FnOk P w K mg base CX0 218 f fd ["house"] (spD K 1 t_lays):=by
 refine Fun.okD F sc_layers (fun _ _ _ s H E G Z hr=>(pssd_cons (psd_unp (m:=3) (pd_var 0) (pgd_tup (k:=2) rfl rfl (pgsd_cons (pgd_name (i:=1) sc_layers.nd rfl (lo rfl) (by decide)) (pgsd_cons (pgd_name (i:=2) sc_layers.nd rfl (lo rfl) (by decide)) pgsd_nil))))
  (pssd_cons (psd_if (ptd_cmp op_eq re_eq (pd_callB call_len_seq cr_len T.len bt_len (pad_cons (pd_var 2) pad_nil)) pd_int (nomark _)) (pssd_one (psd_ret pd_non)) pssd_nil)
  (pssd_one (psd_ret (pd_fn F_layer_of (hr.mono (by decide)) rfl (pad_cons (pd_var 1) (pad_cons (pd_fn F_things_by_name (hr.mono (by decide)) rfl (pad_cons (pd_var 0) pad_nil)) (pad_cons (pd_fn F_order_by (hr.mono (by decide)) rfl (pad_cons (pd_var 0) (pad_cons pd_int pad_nil))) (pad_cons pd_int pad_nil)))))))))) ?_
 rintro ds n Q hl ⟨d,ts,rfl,hd1,hd,hg,hz,q⟩
 have eH:houseOf d ts=.tup [.int d,.tup (ts.map encThing)]:=rfl
 rw[eH]
 simp[startD]
 split
 ·rename_i e0
  have:ts=[]:=by cases ts with | nil=>rfl | cons _ _=>simp at e0
  subst this
  exact q _ .non
 ·rename_i e0
  have hpos:1<=ts.length:=by cases ts with | nil=>simp at e0 | cons _ _=>simp
  refine⟨.int d,ts,rfl,hg.nd,by lia,?_⟩
  refine⟨0,d,ts,.int d,rfl,by lia,hd,hg,by lia,fun rs ho=>?_⟩
  have hrl:=ho.perm.length_eq
  refine⟨d,0,ts,rs,rfl,by lia,hd,hg.nd,fun t ht=>ho.perm.mem_iff.mp ht,hg.perm ho.perm,ho.sub (List.Sublist.refl _),by lia,by lia,by show rs.length+(d-0)<=216;lia,fun tr htr=>q tr (htr.perm ho.perm.symm)⟩
end
end K25
namespace K25
def rowD(l:List Int):D:=.tup (l.map D.int)
inductive LT where
 | non
 | node (rs:List Thing) (low high inner:LT)
def lyD:LT->D
 | .non=>.non
 | .node rs l h n=>.tup [namesD rs,lyD l,lyD h,lyD n]
def isNT:LT->Bool
 | .non=>true
 | _=>false
def lenT:LT->Nat
 | .non=>0
 | .node rs _ _ _=>rs.length
def szT:LT->Nat
 | .non=>0
 | .node _ l h n=>1+szT l+szT h+szT n
private theorem no_lyD(T:LT):notOwn (lyD T)=true:=by cases T<;>rfl
private theorem isNon_lyD(T:LT):isNon (lyD T)=isNT T:=by cases T<;>rfl
def crd(i:Nat)(t:Thing):Int:=t.2.1[i]?.getD 0
def LOk(all:List Thing)(d:Nat):Nat->LT->Prop
 | _,.non=>True
 | i,.node rs l h n=>i<d/\rs≠[]/\rs.Pairwise (fun a b=>crd i a<=crd i b)/\(∀ t∈rs,t∈all)/\(2<=rs.length->1<=lenT l/\1<=lenT h/\lenT l+lenT h=rs.length)/\(isNT n=false->lenT n=rs.length)/\LOk all d i l/\LOk all d i h/\LOk all d (i+1) n
private theorem srow_head{i:Nat}{a b:Thing}{x y:Int}{xs ys:List Int}(h:(rowOf i a).lt (rowOf i b)=true)(ra:rot i a.2.1=x::xs)(rb:rot i b.2.1=y::ys):x<=y:=by
 unfold SRow.lt at h
 split at h
 ·rename_i e
  have e:SKey.t (rot i a.2.1)=SKey.t (rot i b.2.1):=e
  rw[ra,rb] at e
  injection e with e
  injection e with e1 e2
  lia
 ·have h' : HT.lexLt (rot i a.2.1) (rot i b.2.1) = true := h
  rw[ra,rb,HT.lexLt_cons] at h'
  by_cases e:x=y
  ·lia
  ·rw [if_neg e] at h'
   simp at h'
   lia
private theorem rot_lt{i:Nat}{a b:Thing}(ha:i<a.2.1.length)(hb:i<b.2.1.length)(h:(rowOf i a).lt (rowOf i b)=true):crd i a<=crd i b:=by
 have ra:rot i a.2.1=a.2.1[i]::(a.2.1.drop (i+1)++a.2.1.take i):=by unfold rot;rw[drop_eq_getElem_cons ha];rfl
 have rb:rot i b.2.1=b.2.1[i]::(b.2.1.drop (i+1)++b.2.1.take i):=by unfold rot;rw[drop_eq_getElem_cons hb];rfl
 have ca:crd i a=a.2.1[i]:=by unfold crd;rw[getElem?_eq_getElem ha];rfl
 have cb:crd i b=b.2.1[i]:=by unfold crd;rw[getElem?_eq_getElem hb];rfl
 rw[ca,cb]
 exact srow_head h ra rb
def belowP(p:Pair)(hi:Int):Bool:=match p.1 with | none=>false | some l=>decide (hi<l)
def aboveP(p:Pair)(lo:Int):Bool:=match p.2 with | none=>false | some g=>decide (g<lo)
def lotP(p:Pair)(lo hi:Int):Str:=if (belowP p hi||aboveP p lo)=true then "out" else if (liesT p.1 p.2 lo&&liesT p.1 p.2 hi)=true then "in" else "cut"
def loC(i:Nat)(rs:List Thing):Int:=(rs.head?.map (crd i)).getD 0
def hiC(i:Nat)(rs:List Thing):Int:=(rs.getLast?.map (crd i)).getD 0
def pairAt(ps:List Pair)(i:Nat):Pair:=ps[i]?.getD (none,none)
def lotN(ps:List Pair)(i:Nat)(rs:List Thing):Str:=lotP (pairAt ps i) (loC i rs) (hiC i rs)
def nms(rs:List Thing):List Int:=rs.map fun t=>t.1
private theorem namesD_row(rs:List Thing):namesD rs=rowD (nms rs):=by unfold namesD rowD nms;rw[map_map];rfl
def walkT(ps:List Pair):Nat->LT->List (List Int) × Nat
 | _,.non=>([],0)
 | i,.node rs l h n =>
  if lotN ps i rs = "cut" then((walkT ps i l).1++(walkT ps i h).1,1+(walkT ps i l).2+(walkT ps i h).2)
  else if lotN ps i rs = "in" then(if isNT n=true then([nms rs],1) else((walkT ps (i+1) n).1,1+(walkT ps (i+1) n).2))
  else([],1)
private theorem lot_one(p:Pair)(x:Int):lotP p x x ≠ "cut" := by
 unfold lotP
 split
 ·decide
 ·rename_i h
  split
  ·decide
  ·rename_i h2
   exfalso
   apply h2
   rcases p with ⟨_ | l,_ | g⟩<;>simp[belowP,aboveP,liesT] at h ⊢<;>lia
private theorem LOk.cut{all:List Thing}{d i:Nat}{rs:List Thing}{l h n:LT}{ps:List Pair}(o:LOk all d i (.node rs l h n))(hc:lotN ps i rs = "cut"):2<=rs.length:=by
 obtain⟨_,hne,_⟩:=o
 match rs,hne with
 | [t],_=>exact absurd hc (lot_one _ _)
 | a::b::r,_=>simp
end K25
namespace K25
def houseX(d:Nat)(ts:List Thing):D:=.tup [.int d,.tup (ts.map encThing)]
@[simp] private theorem no_houseX(d:Nat)(ts:List Thing):notOwn (houseX d ts)=true:=id rfl
private theorem plain_len(b:List Span):(plainT b).length=b.length:=by
 unfold plainT settledT
 split<;>simp
private theorem at_last{α:Type}(xs:List α)(z:α):atI (xs++[z]) (-1)=some z:=by
 unfold atI ixN
 rw[if_neg (by lia),if_pos (by simp;lia)]
 have e:(-1+((xs++[z]).length:Int)).toNat=xs.length:=by simp;lia
 rw[e]
 simp
private theorem pair_ix{ps:List Pair}{i:Nat}(hi:i<ps.length){R:D->Prop}(h:R (encPair (pairAt ps i))):rdIx (encPairs ps) (.int (i:Int)) R:=by
 refine⟨_,_,_,.inr (.inl rfl),rfl,atI_nat (j:=i) (by rw[getElem?_map,getElem?_eq_getElem hi];rfl),?_⟩
 unfold pairAt at h
 rw[getElem?_eq_getElem hi] at h
 exact h
private theorem place_ix{d i:Nat}{t:Thing}(hl:t.2.1.length=d)(hi:i<d){R:D->Prop}(h:R (.int (crd i t))):rdIx (encPlace t.2.1) (.int (i:Int)) R:=by
 refine⟨_,_,_,.inr (.inl rfl),rfl,atI_nat (j:=i) (by rw[getElem?_map,getElem?_eq_getElem (by lia)];rfl),?_⟩
 unfold crd at h
 rw[getElem?_eq_getElem (by lia)] at h
 exact h
section
variable {P:Program} {w:World} {K:W.Frag} {mg:Str->Option Value} {base:Heap} {f:Addr} {fd:FuncData}
abbrev s_all_below:Stmt:=top 5
abbrev N_all_below:List Str:=["ends", "pair"]
private theorem sc_all_below:FnScope N_all_below q0 (defScope s_all_below):=⟨rfl,rfl,rfl,by decide +kernel,rfl,by decide +kernel,by decide +kernel⟩
def t_all_below:TF:=fun ds n Q=>∃ (lo hi:Int) (p:Pair),ds=[.tup [.int lo,.int hi],encPair p]/\Q (.bl (belowP p hi)) n
private theorem ok_all_below(F:Fun K "all_below" "all_below" s_all_below f fd):FnOk P w K mg base CX0 1 f fd q0 (spD K 2 t_all_below):=by
 refine Fun.okD F sc_all_below (fun _ _ _ s H E G Z hr=>(pssd_one (psd_ret (pd_and (pd_cmp op_notN re_notN (pd_ix ix_seq re_ix (pd_var 1) pd_int (fun _ _=>rfl)) pd_non (nomark _)) (pd_one (pd_cmp op_lt re_lt (pd_ix ix_seq re_ix (pd_var 0) pd_int (fun _ _=>rfl)) (pd_ix ix_seq re_ix (pd_var 1) pd_int (fun _ _=>rfl)) (nomark _))))))) ?_
 rintro ds n Q hl ⟨lo,hi,⟨a,b⟩,rfl,q⟩
 cases a<;>cases b<;>(simp[startD,encPair];exact q)
abbrev s_all_above:Stmt:=top 6
abbrev N_all_above:List Str:=["ends", "pair"]
private theorem sc_all_above:FnScope N_all_above q0 (defScope s_all_above):=⟨rfl,rfl,rfl,by decide +kernel,rfl,by decide +kernel,by decide +kernel⟩
def t_all_above:TF:=fun ds n Q=>∃ (lo hi:Int) (p:Pair),ds=[.tup [.int lo,.int hi],encPair p]/\Q (.bl (aboveP p lo)) n
private theorem ok_all_above(F:Fun K "all_above" "all_above" s_all_above f fd):FnOk P w K mg base CX0 1 f fd q0 (spD K 2 t_all_above):=by
 refine Fun.okD F sc_all_above (fun _ _ _ s H E G Z hr=>(pssd_one (psd_ret (pd_and (pd_cmp op_notN re_notN (pd_ix ix_seq re_ix (pd_var 1) pd_int (fun _ _=>rfl)) pd_non (nomark _)) (pd_one (pd_cmp op_gt re_gt (pd_ix ix_seq re_ix (pd_var 0) pd_int (fun _ _=>rfl)) (pd_ix ix_seq re_ix (pd_var 1) pd_int (fun _ _=>rfl)) (nomark _))))))) ?_
 rintro ds n Q hl ⟨lo,hi,⟨a,b⟩,rfl,q⟩
 cases a<;>cases b<;>(simp[startD,encPair];exact q)
abbrev s_lot_of:Stmt:=top 29
abbrev N_lot_of:List Str:=["ends", "pair"]
private theorem sc_lot_of:FnScope N_lot_of q0 (defScope s_lot_of):=⟨rfl,rfl,rfl,by decide +kernel,rfl,by decide +kernel,by decide +kernel⟩
def t_lot_of:TF:=fun ds n Q=>∃ (lo hi:Int) (p:Pair),ds=[.tup [.int lo,.int hi],encPair p]/\Q (.str (lotP p lo hi)) n
private theorem ok_lot_of(F:Fun K "lot_of" "lot_of" s_lot_of f fd)(F_all_below:Fn P w K mg base "all_below" 1 2 t_all_below)(F_all_above:Fn P w K mg base "all_above" 1 2 t_all_above)(F_lies_in:Fn P w K mg base "lies_in" 1 2 t_lies_in):FnOk P w K mg base CX0 2 f fd q0 (spD K 2 t_lot_of):=by
 refine Fun.okD F sc_lot_of (fun _ _ _ s H E G Z hr=>(pssd_cons (psd_if (PWD.pt (pwd_or (ptd_val (pd_fn F_all_below (hr.mono (by decide)) rfl (pad_cons (pd_var 0) (pad_cons (pd_var 1) pad_nil)))) (pwd_or1 (ptd_val (pd_fn F_all_above (hr.mono (by decide)) rfl (pad_cons (pd_var 0) (pad_cons (pd_var 1) pad_nil))))))) (pssd_one (psd_ret pd_str)) pssd_nil)
  (pssd_one (psd_ret (pd_if (PWD.pt (pwd_and (ptd_val (pd_fn F_lies_in (hr.mono (by decide)) rfl (pad_cons (pd_var 1) (pad_cons (pd_ix ix_seq re_ix (pd_var 0) pd_int (fun _ _=>rfl)) pad_nil)))) (pwd_and1 (ptd_val (pd_fn F_lies_in (hr.mono (by decide)) rfl (pad_cons (pd_var 1) (pad_cons (pd_ix ix_seq re_ix (pd_var 0) pd_int (fun _ _=>rfl)) pad_nil))))))) pd_str pd_str))))) ?_
 rintro ds n Q hl ⟨lo,hi,p,rfl,q⟩
 have np:notOwn (encPair p)=true:=id rfl
 have li:∀ (x:Int) (n:Nat) (R:D->Nat->Prop),R (.bl (liesT p.1 p.2 x)) n->t_lies_in [encPair p,.int x] n R:=fun x n R h=>⟨p.1,p.2,x,rfl,h⟩
 unfold lotP at q
 simp[startD,np]
 refine⟨lo,hi,p,rfl,?_⟩
 cases h1:belowP p hi with
 | true =>
  rw[h1] at q
  simp at q ⊢
  exact q
 | false =>
  rw[h1] at q
  simp[np]
  refine⟨lo,hi,p,rfl,?_⟩
  cases h2:aboveP p lo with
  | true =>
   rw[h2] at q
   simp at q ⊢
   exact q
  | false =>
   rw[h2] at q
   simp[np]
   refine li _ _ _ ?_
   cases h3:liesT p.1 p.2 lo with
   | false =>
    rw[h3] at q
    simp at q ⊢
    exact q
   | true =>
    rw[h3] at q
    simp[np]
    refine li _ _ _ ?_
    cases h4:liesT p.1 p.2 hi with
    | false =>
     rw[h4] at q
     simp at q ⊢
     exact q
    | true =>
     rw[h4] at q
     simp at q ⊢
     exact q
abbrev s_ends_of:Stmt:=top 30
abbrev N_ends_of:List Str:=["by_name", "names", "i"]
private theorem sc_ends_of:FnScope N_ends_of q2 (defScope s_ends_of):=⟨rfl,rfl,rfl,by decide +kernel,rfl,by decide +kernel,by decide +kernel⟩
def t_ends:TF:=fun ds n Q=>∃ (ts rs:List Thing) (i d:Nat),ds=[byN ts,namesD rs,.int (i:Int)]/\rs≠[]/\(∀ t∈rs,t∈ts)/\GoodU d ts/\i<d/\Q (.tup [.int (loC i rs),.int (hiC i rs)]) n
private theorem ok_ends(F:Fun K "ends_of" "ends_of" s_ends_of f fd):FnOk P w K mg base CX0 1 f fd q2 (spD K 3 t_ends):=by
 refine Fun.okD F sc_ends_of (fun _ _ _ s H E G Z hr=>(pssd_one (psd_ret (pd_tup (pad_cons (pd_ix ix_seq re_ix (pd_ix ix_seq re_ix (pd_dix (hu_of hr) (pd_var 0) (pd_ix ix_seq re_ix (pd_var 1) pd_int (fun _ _=>rfl)) (fun _ _=>rfl)) pd_int (fun _ _=>rfl)) (pd_var 2) (fun _ _=>rfl)) (pad_cons (pd_ix ix_seq re_ix (pd_ix ix_seq re_ix (pd_dix (hu_of hr) (pd_var 0) (pd_ix ix_seq re_ix (pd_var 1) (pd_neg pd_int) (fun _ _=>rfl)) (fun _ _=>rfl)) pd_int (fun _ _=>rfl)) (pd_var 2) (fun _ _=>rfl)) pad_nil)))))) ?_
 rintro ds n Q hl ⟨ts,rs,i,d,rfl,hne,hsub,hg,hi,q⟩
 obtain⟨a,r,ea⟩:∃ a r,rs=a::r:=by cases rs with | nil=>exact absurd rfl hne | cons a r=>exact⟨a,r,rfl⟩
 obtain⟨r',z,ez⟩:∃ r' z,rs=r'++[z]:=⟨rs.dropLast,rs.getLast hne,(List.dropLast_concat_getLast hne).symm⟩
 have ma:a∈ts:=hsub a (by rw[ea];simp)
 have mz:z∈ts:=hsub z (by rw[ez];simp)
 have ix0:∀ R:D->Prop,R (.int a.1)->rdIx (namesD rs) (.int 0) R:=fun R h=>⟨_,0,_,.inr (.inl rfl),rfl,by rw[ea];exact atI_nat (j:=0) rfl,h⟩
 have ixz:∀ R:D->Prop,R (.int z.1)->rdIx (namesD rs) (.int (-1)) R:=fun R h=>⟨_,-1,_,.inr (.inl rfl),rfl,by rw[ez,map_append];exact at_last _ _,h⟩
 have dx:∀ {t:Thing} (R:D->Prop),t∈ts->R (encThing t)->rdDx (byN ts) (.int t.1) R:=fun {t} R hm h=>by
  unfold byN
  rw[q_rdDxI]
  exact⟨_,atK_names hm hg.nd,h⟩
 have el:loC i rs=crd i a:=by unfold loC;rw[ea];rfl
 have eh:hiC i rs=crd i z:=by unfold hiC;rw[ez];simp
 rw[el,eh] at q
 have i1:∀ (t:Thing) (R:D->Prop),R (encPlace t.2.1)->rdIx (encThing t) (.int 1) R:=fun t R h=>⟨_,1,_,.inr (.inl rfl),rfl,rfl,h⟩
 simp[startD]
 refine ix0 _ (dx _ ma (i1 a _ (place_ix (hg.each a ma) hi ?_)))
 refine ixz _ (dx _ mz (i1 z _ (place_ix (hg.each z mz) hi ?_)))
 exact q
abbrev Wt:=LT × Nat
def encW(x:Wt):D:=.tup [lyD x.1,.int (x.2:Int)]
def szW(s:List Wt):Nat:=(s.map fun x=>szT x.1).sum
def lnW(s:List Wt):Nat:=(s.map fun x=>lenT x.1).sum
def restW(ps:List Pair)(s:List Wt):List (List Int):=(s.reverse.map fun x=>(walkT ps x.2 x.1).1).flatten
def restK(ps:List Pair)(s:List Wt):Nat:=(s.map fun x=>(walkT ps x.2 x.1).2).sum
private theorem szW_snoc(s:List Wt)(x:Wt):szW (s++[x])=szW s+szT x.1:=by simp[szW]
private theorem lnW_snoc(s:List Wt)(x:Wt):lnW (s++[x])=lnW s+lenT x.1:=by simp[lnW]
private theorem restW_snoc(ps:List Pair)(s:List Wt)(x:Wt):restW ps (s++[x])=(walkT ps x.2 x.1).1++restW ps s:=by simp[restW]
private theorem restK_snoc(ps:List Pair)(s:List Wt)(x:Wt):restK ps (s++[x])=restK ps s+(walkT ps x.2 x.1).2:=by simp[restK]
structure WtOk(all:List Thing)(d:Nat)(x:Wt):Prop where
 o:LOk all d x.2 x.1
 n:isNT x.1=false
private theorem lnW_ge{all:List Thing}{d:Nat}:∀ {s:List Wt},(∀ x∈s,WtOk all d x)->s.length<=lnW s
 | [],_=>Nat.le_refl _
 | x :: s, h => by
  have ih:=lnW_ge (s:=s) fun y hy=>h y (mem_cons_of_mem _ hy)
  obtain⟨o,n⟩:=h x (by simp)
  obtain⟨T,i⟩:=x
  have h1:1<=lenT T:=by
   cases T with
   | non=>simp[isNT] at n
   | node rs l hh nn=>have:=o.2.1;show 1<=rs.length;cases rs with | nil=>exact absurd rfl this | cons _ _=>simp
  have e:lnW ((T,i)::s)=lenT T+lnW s:=by simp[lnW]
  rw[e,length_cons]
  lia
private theorem isNT_len{T:LT}(h:1<=lenT T):isNT T=false:=by cases T with | non=>simp[lenT] at h | node _ _ _ _=>rfl
structure JTb(all:List Thing)(d:Nat)(ps:List Pair)(n:Nat)(total:List (List Int))(tl:Nat)(hd:List (Option D))(m:Nat)(rho:Rho)(n':Nat):Prop where
 e:n'=n
 r:∃ (acc:List (List Int)) (stk:List Wt) (lk:Nat) (z1 z2 z3 z4 z5 z6:Option D),m=szW stk/\(∀ x∈stk,WtOk all d x)/\acc++restW ps stk=total/\lk+restK ps stk=tl/\acc.length+lnW stk<=300 /\
  rho=hd++[some (.own (acc.map rowD)),some (.int (lk:Int)),some (.own (stk.map encW)),z1,z2,z3,z4,z5,z6]
private theorem JTb.mk2{all:List Thing}{d:Nat}{ps:List Pair}{n:Nat}{total:List (List Int)}{tl:Nat}{h1 h2 h3 h4 h5:Option D}{m:Nat}{L:Int}{A B:List D}{z1 z2 z3 z4 z5 z6:Option D}(acc:List (List Int))(stk:List Wt)(lk:Nat)(hm:m=szW stk)(hw:∀ x∈stk,WtOk all d x)(ha:acc++restW ps stk=total)(hk:lk+restK ps stk=tl)(hz:acc.length+lnW stk<=300)(eL:L=(lk:Int))(eA:A=acc.map rowD)(eB:B=stk.map encW) :
  JTb all d ps n total tl [h1,h2,h3,h4,h5] m [h1,h2,h3,h4,h5,some (.own A),some (.int L),some (.own B),z1,z2,z3,z4,z5,z6] n:=by
 subst eL eA eB
 exact⟨rfl,acc,stk,lk,z1,z2,z3,z4,z5,z6,hm,hw,ha,hk,hz,rfl⟩
abbrev s_taken_by_layers:Stmt:=top 31
abbrev N_taken_by_layers:List Str:=["house", "tree", "box", "by_name", "plain", "taken", "looks", "waiting", "names", "low", "high", "inner", "i", "lot"]
private theorem sc_taken_by_layers:FnScope N_taken_by_layers ["house", "tree", "box"] (defScope s_taken_by_layers):=⟨rfl,rfl,rfl,by decide +kernel,rfl,by decide +kernel,by decide +kernel⟩
def t_tbl:TF:=fun ds n Q=>∃ (d:Nat) (ts:List Thing) (T:LT) (b:List Span),ds=[houseX d ts,lyD T,encBox b]/\b.length=d/\d<=4/\GoodU d ts/\ts.length<=300/\LOk ts d 0 T/\lenT T<=300/\Q (.tup [.tup ((walkT (plainT b) 0 T).1.map rowD),.int ((walkT (plainT b) 0 T).2:Int)]) n
private theorem ok_tbl(T:Blt mg)(F:Fun K "taken_by_layers" "taken_by_layers" s_taken_by_layers f fd)(F_things_by_name:Fn P w K mg base "things_by_name" 1 1 t_tbn)(F_plain_box:Fn P w K mg base "plain_box" 3 1 t_plain_box)(F_lot_of:Fn P w K mg base "lot_of" 2 2 t_lot_of)(F_ends_of:Fn P w K mg base "ends_of" 1 3 t_ends):FnOk P w K mg base CX0 4 f fd ["house", "tree", "box"] (spD K 3 t_tbl):=by
 refine Fun.okD F sc_taken_by_layers (fun _ _ _ s H E G Z hr=>(pssd_cons (psd_set (i:=3) sc_taken_by_layers.nd rfl (lo rfl) (pd_fn F_things_by_name (hr.mono (by decide)) rfl (pad_cons (pd_var 0) pad_nil)))
  (pssd_cons (psd_set (i:=4) sc_taken_by_layers.nd rfl (lo rfl) (pd_fn F_plain_box (hr.mono (by decide)) rfl (pad_cons (pd_var 2) pad_nil)))
  (pssd_cons (psd_own (i:=5) sc_taken_by_layers.nd rfl (lo rfl) pad_nil)
  (pssd_cons (psd_set (i:=6) sc_taken_by_layers.nd rfl (lo rfl) pd_int)
  (pssd_cons (psd_ownIf (i:=7) sc_taken_by_layers.nd rfl (lo rfl) (ptd_cmp op_isN re_isN (pd_var 1) pd_non (nomark _)) pad_nil (pad_cons (pd_tup (pad_cons (pd_var 1) (pad_cons pd_int pad_nil))) pad_nil))
  (pssd_cons (psd_while PassesOwn.never (ptd_cmp op_gt re_gt (pd_ownLen (i:=7) T.len rfl) pd_int (nomark _))
  (pssd_cons (psd_pop (i:=7) (m:=14) rfl (pgd_tup (k:=2) rfl rfl (pgsd_cons (pgd_tup (k:=4) rfl rfl (pgsd_cons (pgd_name (i:=8) sc_taken_by_layers.nd rfl (lo rfl) (by decide)) (pgsd_cons (pgd_name (i:=9) sc_taken_by_layers.nd rfl (lo rfl) (by decide)) (pgsd_cons (pgd_name (i:=10) sc_taken_by_layers.nd rfl (lo rfl) (by decide)) (pgsd_cons (pgd_name (i:=11) sc_taken_by_layers.nd rfl (lo rfl) (by decide)) pgsd_nil))))) (pgsd_cons (pgd_name (i:=12) sc_taken_by_layers.nd rfl (lo rfl) (by decide)) pgsd_nil))))
  (pssd_cons (psd_augI ip_add (i:=6) sc_taken_by_layers.nd rfl (lo rfl) pd_int)
  (pssd_cons (psd_set (i:=13) sc_taken_by_layers.nd rfl (lo rfl) (pd_fn F_lot_of (hr.mono (by decide)) rfl (pad_cons (pd_fn F_ends_of (hr.mono (by decide)) rfl (pad_cons (pd_var 3) (pad_cons (pd_var 8) (pad_cons (pd_var 12) pad_nil)))) (pad_cons (pd_ix ix_seq re_ix (pd_var 4) (pd_var 12) (fun _ _=>rfl)) pad_nil))))
  (pssd_one (psd_if (ptd_cmp op_eq re_eq (pd_var 13) pd_str (nomark _)) (pssd_cons (psd_append (i:=7) (pad_cons (pd_tup (pad_cons (pd_var 10) (pad_cons (pd_var 12) pad_nil))) pad_nil) rfl)
  (pssd_one (psd_append (i:=7) (pad_cons (pd_tup (pad_cons (pd_var 9) (pad_cons (pd_var 12) pad_nil))) pad_nil) rfl))) (pssd_one (psd_if (PWD.pt (pwd_and (ptd_cmp op_eq re_eq (pd_var 13) pd_str (nomark _)) (pwd_and1 (ptd_cmp op_isN re_isN (pd_var 11) pd_non (nomark _))))) (pssd_one (psd_append (i:=5) (pad_cons (pd_var 8) pad_nil) rfl)) (pssd_one (psd_if (ptd_cmp op_eq re_eq (pd_var 13) pd_str (nomark _)) (pssd_one (psd_append (i:=7) (pad_cons (pd_tup (pad_cons (pd_var 11) (pad_cons (pd_add (pd_var 12) pd_int) pad_nil))) pad_nil) rfl)) pssd_nil))))))))))
  (pssd_one (psd_frz 5 (psd_ret (pd_tup (pad_cons (pd_callTy call_tuple_of cr_tuple T.tuple bt_tuple (pad_cons (pd_var 5) pad_nil)) (pad_cons (pd_var 6) pad_nil))))))))))))) ?_
 generalize hB:sSeq (sPop 7 _) _=B
 rintro ds n Q hl ⟨d,ts,T,b,rfl,hb,hd,hg,hz,ho,hlen,q⟩
 have nb:notOwn (encBox b)=true:=id rfl
 have nT:=no_lyD T
 have nP:notOwn (encPairs (plainT b))=true:=id rfl
 have hpl:(plainT b).length=d:=by rw[plain_len,hb]
 have wh:∀ (stk0:List Wt),(∀ x∈stk0,WtOk ts d x)->restW (plainT b) stk0=(walkT (plainT b) 0 T).1->restK (plainT b) stk0=(walkT (plainT b) 0 T).2->lnW stk0<=300 ->
   JTb ts d (plainT b) n (walkT (plainT b) 0 T).1 (walkT (plainT b) 0 T).2 [some (houseX d ts),some (lyD T),some (encBox b),some (byN ts),some (encPairs (plainT b))] (szW stk0) [some (houseX d ts),some (lyD T),some (encBox b),some (byN ts),some (encPairs (plainT b)),some (.own []),some (.int 0),some (.own (stk0.map encW)),none,none,none,none,none,none] n:=fun stk0 h1 h2 h3 h4 =>
  JTb.mk2 [] stk0 0 rfl h1 (by simpa using h2) (by lia) (by simpa using h4) rfl rfl rfl
 simp[startD,nb,nT]
 refine⟨_,ts,rfl,hg.nd,by lia,?_⟩
 simp[nb]
 refine⟨b,rfl,by lia,?_⟩
 generalize plainT b=ps at *
 generalize hhd:[some (houseX d ts),some (lyD T),some (encBox b),some (byN ts),some (encPairs ps)]=hd0 at *
 have step : ∀ (m : Nat) (acc : List (List Int)) (stk : List Wt) (lk : Nat) (z1 z2 z3 z4 z5 z6 : Option D) (F : EndsD), m = szW stk -> (∀ x ∈ stk, WtOk ts d x) -> acc ++ restW ps stk = (walkT ps 0 T).1 -> lk + restK ps stk = (walkT ps 0 T).2 -> acc.length + lnW stk <= 300 -> stk ≠ [] ->
   (∀ rho' n2,(∃ m',m'<m/\JTb ts d ps n (walkT ps 0 T).1 (walkT ps 0 T).2 hd0 m' rho' n2)->F.nx rho' n2)->B F (hd0++[some (.own (acc.map rowD)),some (.int (lk:Int)),some (.own (stk.map encW)),z1,z2,z3,z4,z5,z6]) n:=by
  subst hB
  subst hhd
  rintro m acc stk lk z1 z2 z3 z4 z5 z6 F rfl hwk hacc hlk hsum hne hF
  obtain⟨stk,x,rfl⟩:∃ s x,stk=s++[x]:=⟨stk.dropLast,stk.getLast hne,(List.dropLast_concat_getLast hne).symm⟩
  obtain⟨Tx,i⟩:=x
  obtain⟨hx,hxn⟩:=hwk (Tx,i) (by simp)
  have hws:∀ y∈stk,WtOk ts d y:=fun y hy=>hwk y (by simp[hy])
  rw[restW_snoc] at hacc
  rw[restK_snoc] at hlk
  rw[lnW_snoc] at hsum
  rw[szW_snoc] at hF
  dsimp only at hx hxn hacc hlk hsum hF
  have hsl:=lnW_ge hws
  cases Tx with
  | non=>simp[isNT] at hxn
  | node rs l h nn =>
   obtain⟨hi,hrne,hsort,hsub,hsplit,hinn,ol,oh,on⟩:=id hx
   have hF':∀ rho' n2,(∃ m',m'<szW stk+(1+szT l+szT h+szT nn)/\JTb ts d ps n (walkT ps 0 T).1 (walkT ps 0 T).2 [some (houseX d ts),some (lyD T),some (encBox b),some (byN ts),some (encPairs ps)] m' rho' n2)->F.nx rho' n2:=hF
   clear hF
   have hrl:1<=rs.length:=by cases rs with | nil=>exact absurd rfl hrne | cons _ _=>simp
   have hsum':acc.length+(lnW stk+rs.length)<=300:=hsum
   have nl:=no_lyD l
   have nh:=no_lyD h
   have nnn:=no_lyD nn
   have iN:=isNon_lyD nn
   have eW:walkT ps i (.node rs l h nn)=if lotN ps i rs = "cut" then((walkT ps i l).1++(walkT ps i h).1,1+(walkT ps i l).2+(walkT ps i h).2) else if lotN ps i rs = "in" then(if isNT nn=true then([nms rs],1) else((walkT ps (i+1) nn).1,1+(walkT ps (i+1) nn).2)) else([],1):=rfl
   rw[eW] at hacc hlk
   have eI:encW (.node rs l h nn,i)=.tup [.tup [namesD rs,lyD l,lyD h,lyD nn],.int (i:Int)]:=rfl
   refine⟨stk.map encW,encW (.node rs l h nn,i),by rw[map_append];rfl,?_⟩
   rw[eI]
   have nP':notOwn (encPairs ps)=true:=id rfl
   simp[nl,nh,nnn,nP']
   refine⟨ts,rs,i,d,rfl,hrne,hsub,hg,hi,pair_ix (by lia) ⟨_,_,_,rfl,?_⟩⟩
   have eL:lotP (pairAt ps i) (loC i rs) (hiC i rs)=lotN ps i rs:=rfl
   rw[eL]
   have h2:=fun hc=>LOk.cut (ps:=ps) hx hc
   generalize lotN ps i rs=lt at *
   simp[nl,nh,nnn,iN]
   split
   ·rename_i hc
    rw[if_pos hc] at hacc hlk
    obtain⟨q1,q2,q3⟩:=hsplit (h2 hc)
    have e1:D.tup [lyD h,.int (i:Int)]=encW (h,i):=rfl
    have e2:D.tup [lyD l,.int (i:Int)]=encW (l,i):=rfl
    rw[e1,e2]
    refine⟨lt_size (by lia),lt_size (by lia),hF' _ _ ⟨szW stk+szT h+szT l,by lia,JTb.mk2 acc (stk++[(h,i)]++[(l,i)]) (lk+1) (by rw[szW_snoc,szW_snoc]) ?_ ?_ ?_ ?_ (by simp) rfl ?_⟩⟩
    ·intro y hy
     simp at hy
     rcases hy with hy | rfl | rfl
     ·exact hws y hy
     ·exact⟨oh,isNT_len q2⟩
     ·exact⟨ol,isNT_len q1⟩
    ·rw[<- hacc,restW_snoc,restW_snoc];simp
    ·rw[restK_snoc,restK_snoc];simp at hlk ⊢;lia
    ·rw[lnW_snoc,lnW_snoc];dsimp only;lia
    ·simp
   ·rename_i hc
    rw[if_neg hc] at hacc hlk
    split
    ·rename_i hin
     rw[if_pos hin] at hacc hlk
     split
     ·rename_i hN
      rw[if_pos hN] at hacc hlk
      refine⟨lt_size (by lia),hF' _ _ ⟨szW stk,by lia,JTb.mk2 (acc++[nms rs]) stk (lk+1) rfl hws (by rw[append_assoc];exact hacc) (by simp at hlk;lia) (by simp;lia) (by simp) (by rw[map_append,namesD_row];rfl) rfl⟩⟩
     ·rename_i hN
      rw[if_neg hN] at hacc hlk
      have hN':isNT nn=false:=by simpa using hN
      have q4:=hinn hN'
      have e3:D.tup [lyD nn,.int ((i:Int)+1)]=encW (nn,i+1):=rfl
      rw[e3]
      refine⟨lt_size (by lia),hF' _ _ ⟨szW stk+szT nn,by lia,JTb.mk2 acc (stk++[(nn,i+1)]) (lk+1) (by rw[szW_snoc]) ?_ ?_ ?_ ?_ (by simp) rfl (by simp)⟩⟩
      ·intro y hy
       simp at hy
       rcases hy with hy | rfl
       ·exact hws y hy
       ·exact⟨on,hN'⟩
      ·rw[<- hacc,restW_snoc]
      ·rw[restK_snoc];simp at hlk ⊢;lia
      ·rw[lnW_snoc];dsimp only;lia
    ·rename_i hin
     rw[if_neg hin] at hacc hlk
     exact hF' _ _ ⟨szW stk,by lia,JTb.mk2 acc stk (lk+1) rfl hws (by simpa using hacc) (by simp at hlk;lia) (by lia) (by simp) rfl rfl⟩
 simp[nT,isNon_lyD]
 split
 ·rename_i hN
  cases T with
  | node _ _ _ _=>simp[isNT] at hN
  | non =>
   refine⟨JTb ts d ps n (walkT ps 0 .non).1 (walkT ps 0 .non).2 hd0,⟨_,by rw[<- hhd];exact JTb.mk2 [] [] 0 rfl (by simp) rfl rfl (by simp[lnW]) rfl rfl rfl⟩,?_⟩
   rintro m rho n' ⟨rfl,acc,stk,lk,z1,z2,z3,z4,z5,z6,rfl,hwk,hacc,hlk,hsum,rfl⟩
   subst hhd
   refine⟨stk.map encW,rfl,?_⟩
   dsimp only
   split
   ·rename_i hp
    exact step _ acc stk lk z1 z2 z3 z4 z5 z6 _ rfl hwk hacc hlk hsum (by rintro rfl;simp at hp) fun _ _ h=>h
   ·rename_i hp
    have hs:stk=[]:=by cases stk with | nil=>rfl | cons a b=>simp at hp
    subst hs
    simp[restW] at hacc
    simp[restK] at hlk
    simp
    rw[hacc,hlk]
    exact q
 ·rename_i hN
  refine⟨JTb ts d ps n (walkT ps 0 T).1 (walkT ps 0 T).2 hd0,⟨_,by rw[<- hhd];exact JTb.mk2 [] [(T,0)] 0 rfl (by simp;exact⟨ho,by simpa using hN⟩) (by simp[restW]) (by simp[restK]) (by simpa [lnW] using hlen) rfl rfl rfl⟩,?_⟩
  rintro m rho n' ⟨rfl,acc,stk,lk,z1,z2,z3,z4,z5,z6,rfl,hwk,hacc,hlk,hsum,rfl⟩
  subst hhd
  refine⟨stk.map encW,rfl,?_⟩
  dsimp only
  split
  ·rename_i hp
   exact step _ acc stk lk z1 z2 z3 z4 z5 z6 _ rfl hwk hacc hlk hsum (by rintro rfl;simp at hp) fun _ _ h=>h
  ·rename_i hp
   have hs:stk=[]:=by cases stk with | nil=>rfl | cons a b=>simp at hp
   subst hs
   simp[restW] at hacc
   simp[restK] at hlk
   simp
   rw[hacc,hlk]
   exact q
end
end K25
namespace K25
structure JBx(hd:List (Option D))(i:Nat)(rho:Rho)(n':Nat):Prop where
 e:n'=2
 r:∃ (b:List Span) (k:Int) (z1 z2 z3:Option D),b.length=i/\rho=hd++[some (.own (b.map encSpan)),some (.int k),z1,z2,z3]
section
variable {P:Program} {w:World} {K:W.Frag} {mg:Str->Option Value} {base:Heap} {f:Addr} {fd:FuncData}
abbrev s__law_end:Stmt:=top 47
abbrev N__law_end:List Str:=["_law_left_here", "_law_pool_here"]
private theorem sc__law_end:FnScope N__law_end q1 (defScope s__law_end):=⟨rfl,rfl,rfl,by decide +kernel,rfl,by decide +kernel,by decide +kernel⟩
def t_end:TF:=fun ds n Q=>∃ xs:List Int,ds=[.st,numsD xs]/\n=2/\1<=xs.length/\xs.length<=8/\(∀ x∈xs,small x)/\∀ e:End,Q (encEnd e) n
private theorem ok_end(T:Blt mg)(F:Fun K "_law_end" "_law_end" s__law_end f fd)(Y_pick:Fn P w K mg base "_law_pick" 1 2 t_pick)(Y_number:Fn P w K mg base "_law_number" 2 2 t_number):FnOk P w K mg base CX0 3 f fd q1 (spD K 2 t_end):=by
 refine Fun.okD F sc__law_end (fun _ _ _ s H E G Z hr=>(pssd_cons (psd_if (ptd_cmp op_eq re_eq (pd_fn Y_pick (hr.mono (by decide)) rfl (pad_cons (pd_var 0) (pad_cons pd_int pad_nil))) pd_int (nomark _)) (pssd_one (psd_ret pd_non)) pssd_nil)
  (pssd_one (psd_ret (pd_tup (pad_cons (pd_add (pd_fn Y_number (hr.mono (by decide)) rfl (pad_cons (pd_var 0) (pad_cons (pd_var 1) pad_nil))) (pd_ix ix_seq re_ix (pd_lst (pad_cons pd_int (pad_cons pd_int (pad_cons pd_int (pad_cons pd_int (pad_cons (pd_neg pd_int) pad_nil)))))) (pd_fn Y_pick (hr.mono (by decide)) rfl (pad_cons (pd_var 0) (pad_cons pd_int pad_nil))) (fun _ _=>rfl))) (pad_cons (pd_cmp op_eq re_eq (pd_fn Y_pick (hr.mono (by decide)) rfl (pad_cons (pd_var 0) (pad_cons pd_int pad_nil))) pd_int (nomark _)) pad_nil))))))) ?_
 rintro ds n Q hl ⟨xs,rfl,rfl,hx1,hx8,hxs,q⟩
 have nx:notOwn (numsD xs)=true:=rfl
 simp[startD]
 refine pick_intro (by decide) (by decide) fun k h0 h1=>?_
 simp
 split
 ·exact q none
 ·simp [nx]
  refine⟨xs,rfl,rfl,hx1,by lia,fun z hz=>?_⟩
  simp
  refine pick_intro (by decide) (by decide) fun k3 h4 h5=>pickI (js:=[0,0,0,1,-1]) (-1) 1 h4 (by simpa using h5) (by decide) fun t _ _=>?_
  simp
  refine pick_intro (by decide) (by decide) fun k4 h6 h7=>?_
  simp
  exact q (some (z+t,decide (k4=0)))
abbrev s__law_box:Stmt:=top 48
abbrev N__law_box:List Str:=["_law_left_here", "_law_d", "_law_pool_here", "_law_spans", "_law_turn", "_law_i", "_law_low", "_law_high"]
private theorem sc__law_box:FnScope N__law_box q10 (defScope s__law_box):=⟨rfl,rfl,rfl,by decide +kernel,rfl,by decide +kernel,by decide +kernel⟩
def t_box:TF:=fun ds n Q=>∃ (d:Nat) (xs:List Int),ds=[.st,.int (d:Int),numsD xs]/\n=2/\d<=4/\1<=xs.length/\xs.length<=8/\(∀ x∈xs,small x)/\∀ b:List Span,b.length=d->Q (encBox b) n
private theorem ok_box(T:Blt mg)(F:Fun K "_law_box" "_law_box" s__law_box f fd)(Y_pick:Fn P w K mg base "_law_pick" 1 2 t_pick)(Y_end:Fn P w K mg base "_law_end" 3 2 t_end):FnOk P w K mg base CX0 4 f fd q10 (spD K 3 t_box):=by
 refine Fun.okD F sc__law_box (fun _ _ _ s H E G Z hr=>(pssd_cons (psd_own (i:=3) sc__law_box.nd rfl (lo rfl) pad_nil)
  (pssd_cons (psd_set (i:=4) sc__law_box.nd rfl (lo rfl) (pd_fn Y_pick (hr.mono (by decide)) rfl (pad_cons (pd_var 0) (pad_cons pd_int pad_nil))))
  (pssd_cons (psd_for (m:=8) PassesOwn.never rfl (pid_rng T.range (pad_cons (pd_var 1) pad_nil)) (pgd_name (i:=5) sc__law_box.nd rfl (lo rfl) (by decide))
  (pssd_cons (psd_parK (i:=6) (j:=7) rfl sc__law_box.nd rfl rfl (by decide) rfl rfl (pad_cons (pd_fn Y_end (hr.mono (by decide)) rfl (pad_cons (pd_var 0) (pad_cons (pd_var 2) pad_nil))) (pad_cons (pd_fn Y_end (hr.mono (by decide)) rfl (pad_cons (pd_var 0) (pad_cons (pd_var 2) pad_nil))) pad_nil)))
  (pssd_cons (psd_if (PWD.pt (pwd_and (ptd_cmp op_eq re_eq (pd_var 4) pd_int (nomark _)) (pwd_and (ptd_cmp op_notN re_notN (pd_var 6) pd_non (nomark _)) (pwd_and (ptd_cmp op_notN re_notN (pd_var 7) pd_non (nomark _)) (pwd_and1 (ptd_cmp op_gt re_gt (pd_ix ix_seq re_ix (pd_var 6) pd_int (fun _ _=>rfl)) (pd_ix ix_seq re_ix (pd_var 7) pd_int (fun _ _=>rfl)) (nomark _))))))) (pssd_one (psd_parK (i:=6) (j:=7) rfl sc__law_box.nd rfl rfl (by decide) rfl rfl (pad_cons (pd_var 7) (pad_cons (pd_var 6) pad_nil)))) pssd_nil)
  (pssd_one (psd_append (i:=3) (pad_cons (pd_tup (pad_cons (pd_var 6) (pad_cons (pd_var 7) pad_nil))) pad_nil) rfl)))))
  (pssd_one (psd_frz 3 (psd_ret (pd_callTy call_tuple_of cr_tuple T.tuple bt_tuple (pad_cons (pd_var 3) pad_nil))))))))) ?_
 rintro ds n Q hl ⟨d,xs,rfl,rfl,hd,hx1,hx8,hxs,q⟩
 have nx:notOwn (numsD xs)=true:=rfl
 generalize hS:sAppend 3 _=S
 generalize hM:sSeq (sIf _ _ _) S=M
 have stp:∀ (L:List D) (a c:End) (h0 h1 h2 y1 y2:Option D) (F:EndsD),L.length<sizeLine->F.nx [h0,h1,h2,some (.own (L++[.tup [encEnd a,encEnd c]])),y1,y2,some (encEnd a),some (encEnd c)] 2 ->
   S F [h0,h1,h2,some (.own L),y1,y2,some (encEnd a),some (encEnd c)] 2:=fun L a c h0 h1 h2 y1 y2 F hb h=>by
  subst hS
  have na:=no_encEnd a
  have nc:=no_encEnd c
  generalize encEnd a=da at *
  generalize encEnd c=dc at *
  simp[na,nc]
  exact⟨hb,h⟩
 have main:∀ (L:List D) (lo hi:End) (k:Int) (h0 h1 h2 y2:Option D) (F:EndsD),L.length<sizeLine->(∀ a c:End,F.nx [h0,h1,h2,some (.own (L++[.tup [encEnd a,encEnd c]])),some (.int k),y2,some (encEnd a),some (encEnd c)] 2) ->
   M F [h0,h1,h2,some (.own L),some (.int k),y2,some (encEnd lo),some (encEnd hi)] 2:=fun L lo hi k h0 h1 h2 y2 F hb h=>by
  subst hM
  by_cases hk:k=0
  ·rcases lo with _ | ⟨ln, ls⟩
   ·simp [no_encEnd, hk]
    exact stp L none hi _ _ _ _ _ _ hb (by rw[<- hk];exact h none hi)
   ·rcases hi with _ | ⟨hn, hs⟩
    ·simp [hk]
     exact stp L (some (ln,ls)) none _ _ _ _ _ _ hb (by rw[<- hk];exact h _ none)
    ·simp [hk]
     split
     ·exact stp L (some (hn,hs)) (some (ln,ls)) _ _ _ _ _ _ hb (by rw[<- hk];exact h _ _)
     ·exact stp L (some (ln,ls)) (some (hn,hs)) _ _ _ _ _ _ hb (by rw[<- hk];exact h _ _)
  ·simp [hk]
   exact stp L lo hi _ _ _ _ _ _ hb (h _ _)
 simp[startD]
 refine pick_intro (by decide) (by decide) fun k h0 h1=>?_
 refine⟨by lia,JBx [some .st,some (.int (d:Int)),some (numsD xs)],⟨rfl,[],k,none,none,none,rfl,rfl⟩,?_,?_⟩
 ·rintro i d' rho n' e ⟨rfl, b, k, z1, z2, z3, hb, rfl⟩
  obtain⟨hi,rfl⟩:=rng_at e
  simp[nx]
  refine⟨xs,rfl,rfl,hx1,hx8,hxs,fun lo=>?_⟩
  simp[nx]
  refine⟨xs,rfl,rfl,hx1,hx8,hxs,fun hi=>?_⟩
  refine main _ lo hi _ _ _ _ _ _ (lt_size (by simp;lia)) fun a c=>⟨rfl,b++[(a,c)],k,_,_,_,by simp[hb],by rw[map_append];exact rfl⟩
 ·rintro rho n' ⟨rfl, b, k, z1, z2, z3, hb, rfl⟩
  rw[rng_len] at hb
  simp
  exact q b (by simpa using hb)
end
end K25
namespace K25
private theorem below_anti{p:Pair}{x y:Int}(h:x<=y)(hb:belowP p y=true):belowP p x=true:=by
 rcases p with ⟨_ | l,g⟩<;>simp[belowP] at hb ⊢<;>lia
private theorem above_mono{p:Pair}{x y:Int}(h:x<=y)(hb:aboveP p x=true):aboveP p y=true:=by
 rcases p with ⟨l,_ | g⟩<;>simp[aboveP] at hb ⊢<;>lia
private theorem loC_le{i:Nat}{rs:List Thing}(h:rs.Pairwise fun a b=>crd i a<=crd i b){t:Thing}(ht:t∈rs):loC i rs<=crd i t:=by
 cases rs with
 | nil=>simp at ht
 | cons a r =>
  show crd i a<=crd i t
  rcases List.mem_cons.mp ht with rfl | ht
  ·exact Int.le_refl _
  ·exact(List.pairwise_cons.mp h).1 t ht
private theorem hiC_ge{i:Nat}{rs:List Thing}(h:rs.Pairwise fun a b=>crd i a<=crd i b){t:Thing}(ht:t∈rs):crd i t<=hiC i rs:=by
 have hne:rs≠[]:=by rintro rfl;simp at ht
 obtain⟨r',z,rfl⟩:∃ r' z,rs=r'++[z]:=⟨rs.dropLast,rs.getLast hne,(List.dropLast_concat_getLast hne).symm⟩
 have e:hiC i (r'++[z])=crd i z:=by unfold hiC;simp
 rw[e]
 rcases List.mem_append.mp ht with ht | ht
 ·exact(List.pairwise_append.mp h).2.2 t ht z (by simp)
 ·rw[List.mem_singleton.mp ht];exact Int.le_refl _
private theorem loC_mem{i:Nat}{rs:List Thing}(hne:rs≠[]):∃ t∈rs,loC i rs=crd i t:=by
 cases rs with
 | nil=>exact absurd rfl hne
 | cons a r=>exact⟨a,by simp,rfl⟩
private theorem hiC_mem{i:Nat}{rs:List Thing}(hne:rs≠[]):∃ t∈rs,hiC i rs=crd i t:=by
 obtain⟨r',z,rfl⟩:∃ r' z,rs=r'++[z]:=⟨rs.dropLast,rs.getLast hne,(List.dropLast_concat_getLast hne).symm⟩
 exact⟨z,by simp,by unfold hiC;simp⟩
section
variable {p:Pair} {i:Nat} {rs:List Thing}
private theorem lies_two{lo hi:Int}(h:lo<=hi):(liesT p.1 p.2 lo&&liesT p.1 p.2 hi)=(!belowP p lo&&!aboveP p hi):=by
 rcases p with ⟨_ | l,_ | g⟩<;>simp[liesT,belowP,aboveP]<;>(try rw[Bool.eq_iff_iff])<;>(try simp)<;>lia
end
end K25
namespace K25
@[simp] private theorem ofString_inj{a b : String} : Str.ofString a = Str.ofString b ↔ a = b := by
 constructor
 ·intro h
  rw[Str.ofString_eq_toList,Str.ofString_eq_toList] at h
  injection h with h
  have h2:a.toList.map Char.toNat=b.toList.map Char.toNat:=by simpa using h
  have h3:a.toList=b.toList:=List.map_inj_right (fun x y e=>Char.ext (UInt32.toNat_inj.mp e)) |>.mp h2
  exact String.toList_inj.mp h3
 ·intro h;rw[h]
@[simp] private theorem q_rdEqS{x y:Str}{k:D->Prop}:rdEq (.str x) (.str y) k↔k (.bl (decide (x=y))):=by
 have e:decide (ofS (.str x)=ofS (.str y))=decide (x=y):=by simp[ofS]
 exact⟨fun h=>by have:=h.2.2.2;rwa [e] at this,fun h=>⟨rfl,rfl,rfl,by rw[e];exact h⟩⟩
@[simp] private theorem q_rdNeS{x y:Str}{k:D->Prop}:rdNe (.str x) (.str y) k↔k (.bl (!decide (x=y))):=by
 have e:decide (ofS (.str x)=ofS (.str y))=decide (x=y):=by simp[ofS]
 exact⟨fun h=>by have:=h.2.2.2;rwa [e] at this,fun h=>⟨rfl,rfl,rfl,by rw[e];exact h⟩⟩
@[simp] private theorem eqD_str{x y : String} : eqD (.str (Str.ofString x)) (.str (Str.ofString y)) = decide (x = y) := by
 unfold eqD
 by_cases h:x=y
 ·subst h;simp
 ·have : ¬ Str.ofString x = Str.ofString y := fun e => h (ofString_inj.mp e)
  simp[h,this]
@[simp] private theorem q_rdIn2{neg : Bool}{x a b : String}{k : D -> Prop} : rdIn neg (.str (Str.ofString x)) (.tup [.str (Str.ofString a), .str (Str.ofString b)]) k ↔ k (.bl (if neg then !(decide (a = x) || decide (b = x)) else (decide (a = x) || decide (b = x)))) := by
 have e:inD (.str (Str.ofString x)) [.str (Str.ofString a),.str (Str.ofString b)]=(decide (a=x)||decide (b=x)):=by
  unfold inD
  simp
 constructor
 ·rintro ⟨_, es, h, _, h3⟩
  rcases h with h | h
  ·cases h
   rw[e] at h3
   exact h3
  ·cases h
 ·intro h
  exact⟨rfl,_,.inl rfl,rfl,by rw[e];exact h⟩
def absT(x:Int):Int:=if x<0 then -x else x
def stepsT(p q:List Int):Int:=((p.zip q).map fun x=>absT (x.1-x.2)).sum
inductive Ask where
 | count (b:List Span) | sum (b:List Span) | least (b:List Span) | most (b:List Span)
 | all (b:List Span) | first (b:List Span) (k:Nat) | best (b:List Span) (k:Nat) | near (b:List Span) (p:List Int) (k:Nat)
def encAsk:Ask->D
 | .count b=>.tup [.str "count",encBox b]
 | .sum b=>.tup [.str "sum",encBox b]
 | .least b=>.tup [.str "least",encBox b]
 | .most b=>.tup [.str "most",encBox b]
 | .all b=>.tup [.str "all",encBox b]
 | .first b k=>.tup [.str "first",encBox b,.int k]
 | .best b k=>.tup [.str "best",encBox b,.int k]
 | .near b p k=>.tup [.str "near",encBox b,encPlace p,.int k]
def boxA:Ask->List Span
 | .count b=>b
 | .sum b=>b
 | .least b=>b
 | .most b=>b
 | .all b=>b
 | .first b _=>b
 | .best b _=>b
 | .near b _ _=>b
def keyA:Ask->Thing->SKey
 | .least _,t=>.n t.2.2
 | .most _,t=>.n (-t.2.2)
 | .best _ _,t=>.n (-t.2.2)
 | .near _ p _,t=>.n (stepsT t.2.1 p)
 | _,t=>.t t.2.1
def numA:Ask->Bool
 | .least _=>true
 | .most _=>true
 | .best _ _=>true
 | .near _ _ _=>true
 | _=>false
def ordA:Ask->Bool
 | .count _=>false
 | .sum _=>false
 | _=>true
def resA:Ask->List Thing->List Thing->D
 | .count _,ts,_=>.int ts.length
 | .sum _,ts,_=>.int (ts.map fun t=>t.2.2).sum
 | .least _,_,vs=>match vs with | []=>.non | t::_=>.int t.1
 | .most _,_,vs=>match vs with | []=>.non | t::_=>.int t.1
 | .all _,_,vs=>.tup (vs.map fun t=>.int t.1)
 | .first _ k,_,vs=>.tup ((vs.take k).map fun t=>.int t.1)
 | .best _ k,_,vs=>.tup ((vs.take k).map fun t=>.int t.1)
 | .near _ _ k,_,vs=>.tup ((vs.take k).map fun t=>.int t.1)
def rowA(a:Ask)(t:Thing):SRow:=⟨keyA a t,t.1,[]⟩
def aheadT(a:Ask)(t u:Thing):Bool:=(rowA a t).lt (rowA a u)
def Put(a:Ask)(ts vs:List Thing):Prop:=vs.Perm ts/\vs.Pairwise (fun t u=>aheadT a t u=true)
private theorem put_rows{a:Ask}{ts:List Thing}{rows:List SRow}(hp:rows.Perm (ts.map (rowA a)))(hs:rows.Pairwise (fun x y=>x.lt y=true)):∃ vs,Put a ts vs/\rows=vs.map (rowA a):=by
 obtain⟨vs,p,rfl⟩:=perm_map hp
 exact⟨vs,⟨p,List.pairwise_map.mp hs⟩,rfl⟩
private theorem put_unique{a:Ask}{ts us vs ws:List Thing}(h1:Put a ts vs)(h2:Put a us ws)(h:ts.Perm us):vs=ws :=
 sorted_unique (lt:=fun x y=>aheadT a x y=true) (fun a h=>by unfold aheadT at h;rw[SRow.lt_irr] at h;cases h) (fun a b c h1 h2=>SRow.lt_trans h1 h2) ((h1.1.trans h).trans h2.1.symm) h1.2 h2.2
private theorem zip_ints(p q:List Int):zipD (p.map D.int) (q.map D.int)=(p.zip q).map fun x=>.tup [.int x.1,.int x.2]:=by
 unfold zipD
 rw[List.zipWith_map,List.map_zip_eq_zipWith]
 rfl
section
variable {P:Program} {w:World} {K:W.Frag} {mg:Str->Option Value} {base:Heap} {f:Addr} {fd:FuncData}
abbrev s_steps:Stmt:=top 13
abbrev N_steps:List Str:=["one", "other"]
private theorem sc_steps:FnScope N_steps ["one", "other"] (defScope s_steps):=⟨rfl,rfl,rfl,by decide +kernel,rfl,by decide +kernel,by decide +kernel⟩
private theorem nd_steps_0:("mine" :: "yours" :: N_steps:List Str).Nodup:=by decide +kernel
def t_steps:TF:=fun ds n Q=>∃ p q:List Int,ds=[encPlace p,encPlace q]/\p.length<=1000/\Q (.int (stepsT p q)) n
private theorem ok_steps(T:Blt mg)(T2:Blt2 mg)(F:Fun K "steps" "steps" s_steps f fd):FnOk P w K mg base CX0 1 f fd ["one", "other"] (spD K 2 t_steps):=by
 refine Fun.okD F sc_steps (fun _ _ _ s H E G Z hr=>(pssd_one (psd_ret (pd_callB (call_sum rfl) cr_sum T2.sum bt_sum (pad_cons (pd_comp (own:=["mine", "yours"]) (M:=N_steps) (compOk (by rfl)) rfl (pid_zip rfl T.zip (pad_cons (pd_var 0) (pad_cons (pd_var 1) pad_nil))) (fun _ _ _ _=>(pgd_tup (k:=2) rfl rfl (pgsd_cons (pgd_name (i:=0) nd_steps_0 rfl (lo rfl) (by decide)) (pgsd_cons (pgd_name (i:=1) nd_steps_0 rfl (lo rfl) (by decide)) pgsd_nil)))) (fun _ _ _ _=>ptsd_nil) (fun _ _ _ _=>(pd_callB call_abs cr_abs T.abs bt_abs (pad_cons (pd_sub (pd_var 0) (pd_var 1)) pad_nil)))) pad_nil))))) ?_
 rintro ds n Q hl ⟨p,q',rfl,hz,q⟩
 have n1:notOwn (encPlace p)=true:=rfl
 have n2:notOwn (encPlace q')=true:=rfl
 simp[startD,n1,n2]
 refine(q_kZip (d1:=encPlace p) (d2:=encPlace q') rfl rfl).mpr ?_
 rw[zip_ints]
 refine comp_mapIn (fun x:Int × Int=>.tup [.int x.1,.int x.2]) (fun x=>.int (absT (x.1-x.2))) (p.zip q') (le_size (by rw[List.length_zip];lia)) (fun x hx R hR=>?_) ?_
 ·simp
  exact hR
 ·exact⟨(p.zip q').map fun x:Int × Int=>absT (x.1-x.2),by rw[map_map];rfl,q⟩
abbrev s_key_for:Stmt:=top 18
abbrev N_key_for:List Str:=["ask", "thing", "name", "place", "worth", "word"]
private theorem sc_key_for:FnScope N_key_for ["ask", "thing"] (defScope s_key_for):=⟨rfl,rfl,rfl,by decide +kernel,rfl,by decide +kernel,by decide +kernel⟩
def t_key_for:TF:=fun ds n Q=>∃ (a:Ask) (t:Thing),ds=[encAsk a,encThing t]/\t.2.1.length<=1000/\Q (keyA a t).d n
private theorem ok_key_for(T:Blt mg)(F:Fun K "key_for" "key_for" s_key_for f fd)(F_steps:Fn P w K mg base "steps" 1 2 t_steps):FnOk P w K mg base CX0 2 f fd ["ask", "thing"] (spD K 2 t_key_for):=by
 refine Fun.okD F sc_key_for (fun _ _ _ s H E G Z hr=>(pssd_cons (psd_unp (m:=6) (pd_var 1) (pgd_tup (k:=3) rfl rfl (pgsd_cons (pgd_name (i:=2) sc_key_for.nd rfl (lo rfl) (by decide)) (pgsd_cons (pgd_name (i:=3) sc_key_for.nd rfl (lo rfl) (by decide)) (pgsd_cons (pgd_name (i:=4) sc_key_for.nd rfl (lo rfl) (by decide)) pgsd_nil)))))
  (pssd_cons (psd_set (i:=5) sc_key_for.nd rfl (lo rfl) (pd_ix ix_seq re_ix (pd_var 0) pd_int (fun _ _=>rfl)))
  (pssd_cons (psd_if (ptd_cmp op_eq re_eq (pd_var 5) pd_str (nomark _)) (pssd_one (psd_ret (pd_var 4))) pssd_nil)
  (pssd_cons (psd_if (ptd_cmp op_in_seq (re_in (neg:=false)) (pd_var 5) (pd_tup (pad_cons pd_str (pad_cons pd_str pad_nil))) (by with_unfolding_all rfl)) (pssd_one (psd_ret (pd_neg (pd_var 4)))) pssd_nil)
  (pssd_cons (psd_if (ptd_cmp op_eq re_eq (pd_var 5) pd_str (nomark _)) (pssd_one (psd_ret (pd_fn F_steps (hr.mono (by decide)) rfl (pad_cons (pd_var 3) (pad_cons (pd_ix ix_seq re_ix (pd_var 0) pd_int (fun _ _=>rfl)) pad_nil))))) pssd_nil)
  (pssd_one (psd_ret (pd_var 3))))))))) ?_
 rintro ds n Q hl ⟨a,⟨x,p,y⟩,rfl,hz,q⟩
 have n1:notOwn (encPlace p)=true:=rfl
 cases a with
 | count b =>
  simp[startD,encAsk,encThing,n1]
  exact q
 | sum b =>
  simp[startD,encAsk,encThing,n1]
  exact q
 | least b =>
  simp[startD,encAsk,encThing,n1]
  exact q
 | most b =>
  simp[startD,encAsk,encThing,n1]
  exact q
 | all b =>
  simp[startD,encAsk,encThing,n1]
  exact q
 | first b k =>
  simp[startD,encAsk,encThing,n1]
  exact q
 | best b k =>
  simp[startD,encAsk,encThing,n1]
  exact q
 | near b p2 k =>
  have n2:notOwn (encPlace p2)=true:=rfl
  have e2:atI [D.str (Str.ofString "near"),encBox b,encPlace p2,D.int k] 2=some (encPlace p2):=rfl
  simp[startD,encAsk,encThing,n1,e2]
  exact⟨p,p2,rfl,hz,q⟩
abbrev s_names_for:Stmt:=top 19
abbrev N_names_for:List Str:=["things", "ask"]
private theorem sc_names_for:FnScope N_names_for q4 (defScope s_names_for):=⟨rfl,rfl,rfl,by decide +kernel,rfl,by decide +kernel,by decide +kernel⟩
private theorem nd_names_for_0:("thing" :: N_names_for:List Str).Nodup:=by decide +kernel
private theorem nd_names_for_1:("key" :: "name" :: N_names_for:List Str).Nodup:=by decide +kernel
def t_names_for:TF:=fun ds n Q=>∃ (a:Ask) (ts:List Thing),ds=[.lst (ts.map encThing),encAsk a]/\ts.length<300/\(∀ t∈ts,t.2.1.length<=1000)/\(ts.map fun t=>t.1).Nodup/\∀ vs:List Thing,Put a ts vs->Q (.lst (vs.map fun t=>.int t.1)) n
private theorem ok_names_for(T:Blt mg)(F:Fun K "names_for" "names_for" s_names_for f fd)(F_key_for:Fn P w K mg base "key_for" 2 2 t_key_for):FnOk P w K mg base CX0 3 f fd q4 (spD K 2 t_names_for):=by
 refine Fun.okD F sc_names_for (fun _ _ _ s H E G Z hr=>(pssd_one (psd_ret (pd_comp (own:=["key", "name"]) (M:=N_names_for) (compOk (by rfl)) rfl (pid_seq rfl (pd_callB (call_sortT hr) (cr_sortT rfl) T.sorted bt_sorted (pad_cons (pd_comp (own:=["thing"]) (M:=N_names_for) (compOk (by rfl)) rfl (pid_seq rfl (pd_var 0)) (fun _ _ _ _=>(pgd_name (i:=0) nd_names_for_0 rfl (lo rfl) (by decide))) (fun _ _ _ _=>ptsd_nil) (fun _ _ _ _=>(pd_tup (pad_cons (pd_fn F_key_for (hr.mono (by decide)) rfl (pad_cons (pd_var 2) (pad_cons (pd_var 0) pad_nil))) (pad_cons (pd_ix ix_seq re_ix (pd_var 0) pd_int (fun _ _=>rfl)) pad_nil))))) pad_nil))) (fun _ _ _ _=>(pgd_tup (k:=2) rfl rfl (pgsd_cons (pgd_name (i:=0) nd_names_for_1 rfl (lo rfl) (by decide)) (pgsd_cons (pgd_name (i:=1) nd_names_for_1 rfl (lo rfl) (by decide)) pgsd_nil)))) (fun _ _ _ _=>ptsd_nil) (fun _ _ _ _=>(pd_var 1)))))) ?_
 rintro ds n Q hl ⟨a,ts,rfl,hz,hlen,hnd,q⟩
 have na:notOwn (encAsk a)=true:=by cases a<;>rfl
 simp[startD,na]
 refine comp_mapIn encThing (fun t=>(rowA a t).d) ts (le_size (by lia)) (fun t ht R hR=>?_) ?_
 ·have nt : notOwn (encThing t) = true := rfl
  have e0:atI [D.int t.1,encPlace t.2.1,D.int t.2.2] 0=some (.int t.1):=rfl
  have nk:notOwn (keyA a t).d=true:=by cases a<;>rfl
  have i0:∀ R:D->Prop,R (.int t.1)->rdIx (encThing t) (.int 0) R:=fun R h=>⟨_,_,_,.inr (.inl rfl),rfl,e0,h⟩
  simp[nt,na]
  refine⟨a,t,rfl,hlen t ht,?_⟩
  simp[nk]
  exact i0 _ hR
 ·refine ⟨ts.map (rowA a), numA a, by rw [List.map_map]; rfl, by rw [List.length_map]; lia, ?_, ?_, fun rows hp hs => ⟨_, .inl rfl, ?_⟩⟩
  ·intro x hx
   obtain⟨t,_,rfl⟩:=List.mem_map.mp hx
   cases a<;>rfl
  ·rw [List.map_map]
   exact hnd
  ·have hl' : rows.length = ts.length := by rw [hp.length_eq, List.length_map]
   have hk:∀ x∈rows,∃ k m,x.d=.tup [k,.int m]/\m=x.name/\notOwn k=true:=fun x hx=>by
    obtain⟨t,_,rfl⟩:=List.mem_map.mp (hp.mem_iff.mp hx)
    exact⟨_,_,rfl,rfl,by cases a<;>rfl⟩
   refine comp_mapIn SRow.d (fun x=>.int x.name) rows (le_size (by lia)) (fun x hx R hR=>?_) ?_
   ·obtain ⟨k, m, e, rfl, no⟩ := hk x hx
    rw[e]
    simp[no]
    exact hR
   ·obtain ⟨vs, pv, rfl⟩ := put_rows hp hs
    rw[map_map]
    exact q _ pv
abbrev s_answer_of:Stmt:=top 20
abbrev N_answer_of:List Str:=["things", "ask", "word", "names"]
private theorem sc_answer_of:FnScope N_answer_of q4 (defScope s_answer_of):=⟨rfl,rfl,rfl,by decide +kernel,rfl,by decide +kernel,by decide +kernel⟩
private theorem nd_answer_of_0:("name" :: "place" :: "worth" :: N_answer_of:List Str).Nodup:=by decide +kernel
def t_answer_of:TF:=fun ds n Q=>∃ (a:Ask) (ts:List Thing),ds=[.lst (ts.map encThing),encAsk a]/\ts.length<300/\(∀ t∈ts,t.2.1.length<=1000)/\(ts.map fun t=>t.1).Nodup/\∀ vs:List Thing,(ordA a=true->Put a ts vs)->Q (resA a ts vs) n
private theorem ok_answer_of(T:Blt mg)(T2:Blt2 mg)(F:Fun K "answer_of" "answer_of" s_answer_of f fd)(F_names_for:Fn P w K mg base "names_for" 3 2 t_names_for):FnOk P w K mg base CX0 4 f fd q4 (spD K 2 t_answer_of):=by
 refine Fun.okD F sc_answer_of (fun _ _ _ s H E G Z hr=>(pssd_cons (psd_set (i:=2) sc_answer_of.nd rfl (lo rfl) (pd_ix ix_seq re_ix (pd_var 1) pd_int (fun _ _=>rfl)))
  (pssd_cons (psd_if (ptd_cmp op_eq re_eq (pd_var 2) pd_str (nomark _)) (pssd_one (psd_ret (pd_callB call_len_seq cr_len T.len bt_len (pad_cons (pd_var 0) pad_nil)))) pssd_nil)
  (pssd_cons (psd_if (ptd_cmp op_eq re_eq (pd_var 2) pd_str (nomark _)) (pssd_one (psd_ret (pd_callB (call_sum rfl) cr_sum T2.sum bt_sum (pad_cons (pd_comp (own:=["name", "place", "worth"]) (M:=N_answer_of) (compOk (by rfl)) rfl (pid_seq rfl (pd_var 0)) (fun _ _ _ _=>(pgd_tup (k:=3) rfl rfl (pgsd_cons (pgd_name (i:=0) nd_answer_of_0 rfl (lo rfl) (by decide)) (pgsd_cons (pgd_name (i:=1) nd_answer_of_0 rfl (lo rfl) (by decide)) (pgsd_cons (pgd_name (i:=2) nd_answer_of_0 rfl (lo rfl) (by decide)) pgsd_nil))))) (fun _ _ _ _=>ptsd_nil) (fun _ _ _ _=>(pd_var 2))) pad_nil)))) pssd_nil)
  (pssd_cons (psd_set (i:=3) sc_answer_of.nd rfl (lo rfl) (pd_fn F_names_for (hr.mono (by decide)) rfl (pad_cons (pd_var 0) (pad_cons (pd_var 1) pad_nil))))
  (pssd_cons (psd_if (ptd_cmp op_in_seq (re_in (neg:=false)) (pd_var 2) (pd_tup (pad_cons pd_str (pad_cons pd_str pad_nil))) (by with_unfolding_all rfl)) (pssd_one (psd_ret (pd_if (ptd_cmp op_gt re_gt (pd_callB call_len_seq cr_len T.len bt_len (pad_cons (pd_var 3) pad_nil)) pd_int (nomark _)) (pd_ix ix_seq re_ix (pd_var 3) pd_int (fun _ _=>rfl)) pd_non))) pssd_nil)
  (pssd_cons (psd_if (ptd_cmp op_eq re_eq (pd_var 2) pd_str (nomark _)) (pssd_one (psd_ret (pd_callTy call_tuple_of cr_tuple T.tuple bt_tuple (pad_cons (pd_var 3) pad_nil)))) pssd_nil)
  (pssd_one (psd_ret (pd_callTy call_tuple_of cr_tuple T.tuple bt_tuple (pad_cons (pd_slV rfl (pd_var 3) pod_none (pod_some (pd_ix ix_seq re_ix (pd_var 1) (pd_neg pd_int) (fun _ _=>rfl)))) pad_nil))))))))))) ?_
 rintro ds n Q hl ⟨a,ts,rfl,hz,hlen,hnd,q⟩
 have cut:∀ (vs:List Thing) (k:Nat),cutL (vs.map fun t=>D.int t.1) none (some (k:Int))=(vs.take k).map fun t=>D.int t.1:=fun vs k=>by
  unfold cutL
  rw[HT.sIx_nat,HT.sIx_none,drop_zero,Nat.sub_zero,map_take,length_map]
  by_cases h:k<=vs.length
  ·rw[Nat.min_eq_left h]
  ·rw[Nat.min_eq_right (by lia),take_of_length_le (by simp),take_of_length_le (by simp;lia)]
 have i0:∀ (t:Thing) (vs:List Thing) (R:D->Prop),R (.int t.1)->rdIx (.lst (D.int t.1::vs.map fun t=>D.int t.1)) (.int 0) R:=fun t vs R h=>⟨_,_,_,.inl rfl,rfl,by unfold atI ixN;simp,h⟩
 cases a with
 | count b =>
  simp[startD,encAsk]
  exact q [] (fun h=>by cases h)
 | sum b =>
  simp[startD,encAsk]
  refine comp_mapIn encThing (fun t=>.int t.2.2) ts (le_size (by lia)) (fun t ht R hR=>?_) ?_
  ·have n1 : notOwn (encPlace t.2.1) = true := rfl
   simp[encThing,n1]
   exact hR
  ·have r : Q (.int (ts.map fun t : Thing => t.2.2).sum) n := q [] (fun h => by cases h)
   exact⟨ts.map fun t:Thing=>t.2.2,by rw[map_map];rfl,r⟩
 | least b =>
  simp[startD,encAsk]
  refine⟨.least b,ts,rfl,hz,hlen,hnd,fun vs hp=>?_⟩
  have r:=q vs fun _=>hp
  cases vs with
  | nil=>simp;exact r
  | cons t vs =>
   have r:Q (.int t.1) n:=r
   simp
   exact r
 | most b =>
  simp[startD,encAsk]
  refine⟨.most b,ts,rfl,hz,hlen,hnd,fun vs hp=>?_⟩
  have r:=q vs fun _=>hp
  cases vs with
  | nil=>simp;exact r
  | cons t vs =>
   have r:Q (.int t.1) n:=r
   simp
   exact r
 | all b =>
  simp[startD,encAsk]
  exact⟨.all b,ts,rfl,hz,hlen,hnd,fun vs hp=>by simp;exact q vs fun _=>hp⟩
 | first b k =>
  have e2:atI [D.str (Str.ofString "first"),encBox b,D.int k] (-1)=some (.int k):=rfl
  simp[startD,encAsk]
  refine⟨.first b k,ts,rfl,hz,hlen,hnd,fun vs hp=>?_⟩
  simp[e2,cut]
  rw[<- map_take]
  exact q vs fun _=>hp
 | best b k =>
  have e2:atI [D.str (Str.ofString "best"),encBox b,D.int k] (-1)=some (.int k):=rfl
  simp[startD,encAsk]
  refine⟨.best b k,ts,rfl,hz,hlen,hnd,fun vs hp=>?_⟩
  simp[e2,cut]
  rw[<- map_take]
  exact q vs fun _=>hp
 | near b p k =>
  have e2:atI [D.str (Str.ofString "near"),encBox b,encPlace p,D.int k] (-1)=some (.int k):=rfl
  simp[startD,encAsk]
  refine⟨.near b p k,ts,rfl,hz,hlen,hnd,fun vs hp=>?_⟩
  simp[e2,cut]
  rw[<- map_take]
  exact q vs fun _=>hp
abbrev s_answer:Stmt:=top 21
abbrev N_answer:List Str:=["house", "ask"]
private theorem sc_answer:FnScope N_answer ["house", "ask"] (defScope s_answer):=⟨rfl,rfl,rfl,by decide +kernel,rfl,by decide +kernel,by decide +kernel⟩
private theorem nd_answer_0:("thing" :: N_answer:List Str).Nodup:=by decide +kernel
def fitA(a:Ask)(ts:List Thing):List Thing:=ts.filter fun t=>fitsT (boxA a) t.2.1
def t_answer:TF:=fun ds n Q=>∃ (a:Ask) (ts:List Thing) (dd:D),ds=[.tup [dd,.tup (ts.map encThing)],encAsk a]/\(boxA a).length<=1000/\ts.length<300/\(∀ t∈ts,t.2.1.length<=1000)/\(ts.map fun t=>t.1).Nodup/\∀ vs:List Thing,(ordA a=true->Put a (fitA a ts) vs)->Q (resA a (fitA a ts) vs) n
private theorem ok_answer(T:Blt mg)(F:Fun K "answer" "answer" s_answer f fd)(F_fits:Fn P w K mg base "fits" 3 2 t_fits)(F_answer_of:Fn P w K mg base "answer_of" 4 2 t_answer_of):FnOk P w K mg base CX0 5 f fd ["house", "ask"] (spD K 2 t_answer):=by
 refine Fun.okD F sc_answer (fun _ _ _ s H E G Z hr=>(pssd_one (psd_ret (pd_fn F_answer_of (hr.mono (by decide)) rfl (pad_cons (pd_comp (own:=["thing"]) (M:=N_answer) (compOk (by rfl)) rfl (pid_seq rfl (pd_ix ix_seq re_ix (pd_var 0) pd_int (fun _ _=>rfl))) (fun _ _ _ _=>(pgd_name (i:=0) nd_answer_0 rfl (lo rfl) (by decide))) (fun _ _ _ _=>(ptsd_one (ptd_val (pd_fn F_fits (hr.mono (by decide)) rfl (pad_cons (pd_ix ix_seq re_ix (pd_var 2) pd_int (fun _ _=>rfl)) (pad_cons (pd_ix ix_seq re_ix (pd_var 0) pd_int (fun _ _=>rfl)) pad_nil)))))) (fun _ _ _ _=>(pd_var 0))) (pad_cons (pd_var 1) pad_nil)))))) ?_
 rintro ds n Q hl ⟨a,ts,dd,rfl,hb,hz,hlen,hnd,q⟩
 have na:notOwn (encAsk a)=true:=by cases a<;>rfl
 have ia:∀ R:D->Prop,R (encBox (boxA a))->rdIx (encAsk a) (.int 1) R:=fun R h=>by
  cases a<;>exact⟨_,_,_,.inr (.inl rfl),rfl,rfl,h⟩
 have e1:atI [dd,D.tup (ts.map encThing)] 1=some (.tup (ts.map encThing)):=rfl
 simp[startD,na,e1]
 refine comp_filtIn encThing (fun t=>fitsT (boxA a) t.2.1) encThing ts (le_size (by lia)) (fun t ht R S h1 h2=>?_) ?_
 ·have nt : notOwn (encThing t) = true := rfl
  have e1:atI [D.int t.1,encPlace t.2.1,D.int t.2.2] 1=some (encPlace t.2.1):=rfl
  have i1:∀ R:D->Prop,R (encPlace t.2.1)->rdIx (encThing t) (.int 1) R:=fun R h=>⟨_,_,_,.inr (.inl rfl),rfl,e1,h⟩
  simp[nt,na]
  refine ia _ (i1 _ ⟨boxA a,t.2.1,hb,rfl,?_⟩)
  cases hf:fitsT (boxA a) t.2.1
  ·simp;exact h2 hf
  ·simp;exact h1 hf
 ·have fl : (fitA a ts).length <= ts.length := List.length_filter_le ..
  refine⟨a,fitA a ts,rfl,by lia,fun t ht=>hlen t (List.mem_filter.mp ht).1,?_,q⟩
  exact hnd.sublist (List.Sublist.map _ List.filter_sublist)
end
end K25
namespace K25
def thsT:LT->List Thing
 | .non=>[]
 | .node rs _ _ _=>rs
def LPm(d:Nat):Nat->LT->Prop
 | _,.non=>True
 | i,.node rs l h n=>(2<=rs.length->(thsT l++thsT h).Perm rs)/\(i+1<d->isNT n=false/\(thsT n).Perm rs)/\(i+1=d->isNT n=true)/\LPm d i l/\LPm d i h/\LPm d (i+1) n
private theorem LayOf.tree2{d:Nat}{all:List Thing}(hall:∀ t∈all,t.2.1.length=d){i:Nat}{ts:List Thing}{tr:D}(h:LayOf d i ts tr):(ts=[]\/i<d)->(∀ t∈ts,t∈all)->∃ T:LT,lyD T=tr/\LOk all d i T/\lenT T=ts.length/\LPm d i T/\(thsT T).Perm ts:=by
 induction h with
 | non=>exact fun _ _=>⟨.non,rfl,trivial,rfl,trivial,.nil⟩
 | @node i ts rs ls hs inn low high inner ho hne hp he l1 l2 l3 ih1 ih2 ih3 =>
  intro hi hsub
  have hrl:=ho.perm.length_eq
  have hts:ts≠[]:=by rintro rfl;simp at hrl;exact hne hrl
  have hi':=hi.resolve_left hts
  have hrs:∀ t∈rs,t∈all:=fun t ht=>hsub t (ho.perm.mem_iff.mp ht)
  have sl:∀ t∈ls,t∈all:=fun t ht=>by
   rcases hp with ⟨_,rfl,_⟩ | ⟨e,_⟩
   ·simp at ht
   ·exact hrs t (by rw[<- e];simp[ht])
  have sh:∀ t∈hs,t∈all:=fun t ht=>by
   rcases hp with ⟨_,_,rfl⟩ | ⟨e,_⟩
   ·simp at ht
   ·exact hrs t (by rw[<- e];simp[ht])
  obtain⟨L,eL,oL,nL,pL,qL⟩:=ih1 (.inr hi') sl
  obtain⟨M,eM,oM,nM,pM,qM⟩:=ih2 (.inr hi') sh
  have hN:∃ N:LT,lyD N=inner/\LOk all d (i+1) N/\lenT N=inn.length/\LPm d (i+1) N/\(thsT N).Perm inn:=by
   by_cases c:i+1=d
   ·rw [if_pos c] at he
    exact ih3 (.inl he) (by rw[he];simp)
   ·rw [if_neg c] at he
    exact ih3 (.inr (by lia)) (by rw[he];exact hrs)
  obtain⟨N,eN,oN,nN,pN,qN⟩:=hN
  have hnon:i+1=d->isNT N=true:=fun c=>by
   rw[if_pos c] at he
   have:lenT N=0:=by rw[nN,he];rfl
   cases N with
   | non=>rfl
   | node rs' _ _ _ =>
    obtain⟨_,q,_⟩:=oN
    simp only[lenT] at this
    exact absurd (List.length_eq_zero_iff.mp this) q
  have hpos:1<=rs.length:=by cases rs with | nil=>exact absurd rfl hne | cons _ _=>simp
  refine⟨.node rs L M N,by rw[<- eL,<- eM,<- eN];rfl,⟨hi',hne,?_,hrs,fun h2=>?_,fun hn=>?_,oL,oM,oN⟩,hrl,⟨fun h2=>?_,fun c=>?_,hnon,pL,pM,pN⟩,ho.perm⟩
  ·refine ho.up.imp_of_mem fun {a b} ha hb h=>rot_lt (by rw[hall a (hrs a ha)];exact hi') (by rw[hall b (hrs b hb)];exact hi') h
  ·rcases hp with ⟨h1, _⟩ | ⟨e, n1, n2⟩
   ·lia
   ·have e1 : ls.length + hs.length = rs.length := by rw [<- e, List.length_append]
    have p1:1<=ls.length:=by cases ls with | nil=>exact absurd rfl n1 | cons _ _=>simp
    have p2:1<=hs.length:=by cases hs with | nil=>exact absurd rfl n2 | cons _ _=>simp
    lia
  ·rw [nN, he]
   split
   ·rename_i c
    rw[hnon c] at hn
    cases hn
   ·rfl
  ·rcases hp with ⟨h1, _⟩ | ⟨e, n1, n2⟩
   ·lia
   ·rw[<- e];exact qL.append qM
  ·rw [if_neg (by lia)] at he
   rw[he] at nN qN
   exact⟨isNT_len (by lia),qN⟩
def liesP(p:Pair)(x:Int):Bool:=liesT p.1 p.2 x
private theorem liesP_eq(p:Pair)(x:Int):liesP p x=(!belowP p x&&!aboveP p x):=by
 have:=lies_two (p:=p) (Int.le_refl x)
 rw[Bool.and_self] at this
 exact this
def fitF(ps:List Pair)(i d:Nat)(t:Thing):Bool:=(List.range (d-i)).all fun k=>liesP (pairAt ps (i+k)) (crd (i+k) t)
private theorem fitF_step{ps:List Pair}{i d:Nat}{t:Thing}(h:i<d):fitF ps i d t=(liesP (pairAt ps i) (crd i t)&&fitF ps (i+1) d t):=by
 unfold fitF
 rw[show d-i=(d-(i+1))+1 by lia,List.range_succ_eq_map,all_cons,all_map]
 congr 1
 refine congrArg (fun f=>List.all _ f) ?_
 funext k
 show liesP (pairAt ps (i+(k+1))) (crd (i+(k+1)) t)=liesP (pairAt ps (i+1+k)) (crd (i+1+k) t)
 rw[show i+(k+1)=i+1+k by lia]
private theorem fitF_end{ps:List Pair}{d:Nat}{t:Thing}:fitF ps d d t=true:=by unfold fitF;simp
private theorem filter_none{α:Type}{p:α->Bool}{l:List α}(h:∀ a∈l,p a=false):l.filter p=[]:=List.filter_eq_nil_iff.mpr fun a ha=>by rw[h a ha];simp
private theorem filter_congr2{α:Type}{p q:α->Bool}{l:List α}(h:∀ a∈l,p a=q a):l.filter p=l.filter q:=List.filter_congr h
private theorem walk_fit{all:List Thing}{d:Nat}(ps:List Pair):∀ (T:LT) (i:Nat),LOk all d i T->LPm d i T->∃ uss:List (List Thing),(walkT ps i T).1=uss.map nms/\uss.flatten.Perm ((thsT T).filter (fitF ps i d))
 | .non,i,_,_=>⟨[],rfl,.nil⟩
 | .node rs l h n, i, o, m => by
  obtain⟨hi,hne,hsort,hsub,hsplit,hinn,ol,oh,on⟩:=id o
  obtain⟨m1,m2,m3,ml,mh,mn⟩:=id m
  have lh:loC i rs<=hiC i rs:=by
   obtain⟨t,ht,e⟩:=loC_mem (i:=i) hne
   rw[e];exact hiC_ge hsort ht
  have eL:lotN ps i rs=if (belowP (pairAt ps i) (hiC i rs)||aboveP (pairAt ps i) (loC i rs))=true then("out" : Str) else if (!belowP (pairAt ps i) (loC i rs)&&!aboveP (pairAt ps i) (hiC i rs))=true then("in" : Str) else("cut" : Str):=by
   unfold lotN lotP
   rw[lies_two lh]
  have s1:¬ ("out" : Str)=("cut" : Str):=by decide
  have s2:¬ ("out" : Str)=("in" : Str):=by decide
  have s3:¬ ("in" : Str)=("cut" : Str):=by decide
  have s4:¬ ("cut" : Str)=("in" : Str):=by decide
  have eW:walkT ps i (.node rs l h n)=if lotN ps i rs = "cut" then((walkT ps i l).1++(walkT ps i h).1,1+(walkT ps i l).2+(walkT ps i h).2) else if lotN ps i rs = "in" then(if isNT n=true then([nms rs],1) else((walkT ps (i+1) n).1,1+(walkT ps (i+1) n).2)) else([],1):=rfl
  rw[eW]
  show ∃ uss:List (List Thing),_/\uss.flatten.Perm (rs.filter (fitF ps i d))
  by_cases c1:(belowP (pairAt ps i) (hiC i rs)||aboveP (pairAt ps i) (loC i rs))=true
  ·rw [if_pos c1] at eL
   rw[eL,if_neg s1,if_neg s2]
   refine⟨[],rfl,?_⟩
   rw[filter_none fun t ht=>?_]
   ·exact .nil
   ·rw [fitF_step hi, liesP_eq]
    rcases Bool.or_eq_true .. ▸ c1 with c | c
    ·rw[below_anti (hiC_ge hsort ht) c];rfl
    ·rw[above_mono (loC_le hsort ht) c];simp
  ·rw [if_neg c1] at eL
   by_cases c2:(!belowP (pairAt ps i) (loC i rs)&&!aboveP (pairAt ps i) (hiC i rs))=true
   ·rw [if_pos c2] at eL
    rw[eL,if_neg s3,if_pos rfl]
    have hb:belowP (pairAt ps i) (loC i rs)=false:=by
     cases h:belowP (pairAt ps i) (loC i rs) with
     | false=>rfl
     | true=>rw[h] at c2;simp at c2
    have ha:aboveP (pairAt ps i) (hiC i rs)=false:=by
     cases h:aboveP (pairAt ps i) (hiC i rs) with
     | false=>rfl
     | true=>rw[h] at c2;simp at c2
    have ef:rs.filter (fitF ps i d)=rs.filter (fitF ps (i+1) d):=filter_congr2 fun t ht=>by
     rw[fitF_step hi,liesP_eq]
     have b1:belowP (pairAt ps i) (crd i t)=false:=by
      cases h:belowP (pairAt ps i) (crd i t) with
      | false=>rfl
      | true=>rw[below_anti (loC_le hsort ht) h] at hb;cases hb
     have b2:aboveP (pairAt ps i) (crd i t)=false:=by
      cases h:aboveP (pairAt ps i) (crd i t) with
      | false=>rfl
      | true=>rw[above_mono (hiC_ge hsort ht) h] at ha;cases ha
     rw[b1,b2];simp
    rw[ef]
    cases hN:isNT n with
    | true =>
     rw[if_pos rfl]
     have hid:i+1=d:=by
      by_cases c:i+1<d
      ·rw[(m2 c).1] at hN;cases hN
      ·lia
     refine⟨[rs],rfl,?_⟩
     rw[hid,List.filter_eq_self.mpr fun t _=>fitF_end]
     simp
    | false =>
     rw[if_neg (by simp)]
     have c:i+1<d:=by
      by_cases c:i+1<d
      ·exact c
      ·rw[m3 (by lia)] at hN;cases hN
     obtain⟨uss,e1,e2⟩:=walk_fit ps n (i+1) on mn
     exact⟨uss,e1,e2.trans ((m2 c).2.filter _)⟩
   ·rw [if_neg c2] at eL
    rw[eL,if_pos rfl]
    obtain⟨ul,e1,e2⟩:=walk_fit ps l i ol ml
    obtain⟨uh,e3,e4⟩:=walk_fit ps h i oh mh
    refine⟨ul++uh,by rw[map_append,e1,e3],?_⟩
    rw[List.flatten_append]
    refine(e2.append e4).trans ?_
    rw[<- List.filter_append]
    exact(m1 (o.cut eL)).filter _
private theorem fitsT_at:∀ {b:List Span} {p:List Int},b.length=p.length->(fitsT b p=true↔∀ k,k<b.length->spanT (b[k]?.getD (none,none)) (p[k]?.getD 0)=true)
 | [],[],_=>by simp[fitsT]
 | [],_::_,h=>by simp at h
 | _::_,[],h=>by simp at h
 | s :: b, x :: p, h => by
  have e:fitsT (s::b) (x::p)=(spanT s x&&fitsT b p):=by unfold fitsT;simp
  rw[e,Bool.and_eq_true,fitsT_at (b:=b) (p:=p) (by simpa using h)]
  constructor
  ·rintro ⟨h1, h2⟩ k hk
   cases k with
   | zero=>exact h1
   | succ k=>simpa using h2 k (by simpa using hk)
  ·intro h
   exact⟨by simpa using h 0 (by simp),fun k hk=>by simpa using h (k+1) (by simpa using hk)⟩
private theorem fitF_fits{b:List Span}{t:Thing}{d:Nat}(hb:b.length=d)(ht:t.2.1.length=d)(h1:1<=d):fitF (plainT b) 0 d t=fitsT b t.2.1:=by
 rw[Bool.eq_iff_iff,fitsT_at (by lia)]
 unfold fitF
 rw[all_eq_true]
 have pa:∀ k,k<d->pairAt (b.map pairT) k=pairT (b[k]?.getD (none,none)):=fun k hk=>by
  unfold pairAt
  rw[getElem?_map,getElem?_eq_getElem (by lia)]
  rfl
 unfold plainT settledT
 by_cases c:(b.map pairT).any crossedT=true
 ·rw [if_pos c]
  constructor
  ·intro h
   have h0:=h 0 (by simp;lia)
   have e0:pairAt ((b.map pairT).map fun _=>emptyP) (0+0)=emptyP:=by
    unfold pairAt
    rw[getElem?_map,getElem?_eq_getElem (by simp;lia)]
    rfl
   rw[e0] at h0
   simp[liesP,emptyP,liesT] at h0
   lia
  ·intro h
   exfalso
   rw[List.any_map,List.any_eq_true] at c
   obtain⟨s,hs,hc⟩:=c
   obtain⟨k,hk,e⟩:=List.mem_iff_getElem.mp hs
   have h2:=h k hk
   rw[getElem?_eq_getElem hk] at h2
   have h3:spanT s (t.2.1[k]?.getD 0)=true:=by rw[<- e];exact h2
   obtain⟨lo,hi⟩:=s
   rcases hlo:leastT lo with _ | l<;>rcases hhi:greatT hi with _ | g<;>simp[pairT,crossedT,hlo,hhi] at hc
   simp[spanT,liesT,hlo,hhi] at h3
   lia
 ·rw [if_neg c]
  constructor
  ·intro h k hk
   have:=h k (by simp;lia)
   rw[Nat.zero_add,pa k (by lia)] at this
   exact this
  ·intro h k hk
   have hk':k<d:=by simpa using hk
   rw[Nat.zero_add,pa k hk']
   exact h k (by lia)
end K25
namespace K25
private theorem comp2B{own:Nat}{g1:TGD}{tt1:TBD}{it2:TID}{g2:TGD}{tt2:TBD}{te:TD}{rho:Rho}{P:D->Nat->Prop}{n:Nat}{α:Type}(enc:α->D)(h:α->List D)(xs:List α){B:Nat}(hB:B<=1000)(hz:(xs.flatMap h).length<=B)
  (he:∀ x∈xs,∀ (acc:List D) (R:List D->Nat->Prop),acc.length+(h x).length<=B->R (acc++h x) n->g1 (enc x) (replicate own none++rho) fun rho2=>rho2.drop own=rho/\tt1 rho2 n fun c n2=>if c=true then it2 rho2 n2 (inIn g2 tt2 te rho2 acc R) else R acc n2)
  (fin:P (.lst (xs.flatMap h)) n):compIn2 own g1 tt1 it2 g2 tt2 te rho P (xs.map enc) n:=by
 refine⟨fun i ac n'=>n'=n/\ac=(xs.take i).flatMap h,⟨rfl,by simp⟩,?_,?_⟩
 ·rintro i d ac n' e ⟨rfl, rfl⟩
  rw[getElem?_map] at e
  cases q:xs[i]? with
  | none=>rw[q] at e;cases e
  | some x =>
   rw[q] at e
   cases e
   have e2:(xs.take (i+1)).flatMap h=(xs.take i).flatMap h++h x:=by rw[take_add_one,q];simp
   refine he x (mem_of_getElem? q) _ _ ?_ ⟨rfl,e2.symm⟩
   have e3:xs.flatMap h=(xs.take (i+1)).flatMap h++(xs.drop (i+1)).flatMap h:=by rw[<- List.flatMap_append,take_append_drop]
   rw[e3,length_append,e2,length_append] at hz
   lia
 ·rintro ac n' ⟨rfl, rfl⟩
  rw[length_map,take_length]
  exact⟨le_size (Nat.le_trans hz hB),fin⟩
section
variable {P:Program} {w:World} {K:W.Frag} {mg:Str->Option Value} {base:Heap} {f:Addr} {fd:FuncData}
abbrev s_answer_out_of:Stmt:=top 22
abbrev N_answer_out_of:List Str:=["house", "taken", "ask", "by_name"]
private theorem sc_answer_out_of:FnScope N_answer_out_of ["house", "taken", "ask"] (defScope s_answer_out_of):=⟨rfl,rfl,rfl,by decide +kernel,rfl,by decide +kernel,by decide +kernel⟩
private theorem nd_answer_out_of_0:("names" :: "name" :: N_answer_out_of:List Str).Nodup:=by decide +kernel
def t_aout:TF:=fun ds n Q=>∃ (d:Nat) (ts:List Thing) (a:Ask) (uss:List (List Thing)),ds=[houseX d ts,.tup (uss.map namesD),encAsk a]/\(ts.map fun t=>t.1).Nodup/\ts.length<=250/\(∀ t∈uss.flatten,t∈ts)/\uss.flatten.length<300/\(∀ t∈ts,t.2.1.length<=1000)/\(uss.flatten.map fun t=>t.1).Nodup/\∀ vs:List Thing,(ordA a=true->Put a uss.flatten vs)->Q (resA a uss.flatten vs) n
private theorem ok_aout(F:Fun K "answer_out_of" "answer_out_of" s_answer_out_of f fd)(F_things_by_name:Fn P w K mg base "things_by_name" 1 1 t_tbn)(F_answer_of:Fn P w K mg base "answer_of" 4 2 t_answer_of):FnOk P w K mg base CX0 5 f fd ["house", "taken", "ask"] (spD K 3 t_aout):=by
 refine Fun.okD F sc_answer_out_of (fun _ _ _ s H E G Z hr=>(pssd_cons (psd_set (i:=3) sc_answer_out_of.nd rfl (lo rfl) (pd_fn F_things_by_name (hr.mono (by decide)) rfl (pad_cons (pd_var 0) pad_nil)))
  (pssd_one (psd_ret (pd_fn F_answer_of (hr.mono (by decide)) rfl (pad_cons (pd_comp2 (own:=["names", "name"]) (M:=N_answer_out_of) (compOk (by rfl)) rfl (pid_seq rfl (pd_var 1)) (fun _ _ _ _=>(pgd_name (i:=0) nd_answer_out_of_0 rfl (lo rfl) (by decide))) (fun _ _ _ _=>ptsd_nil) (fun _ _ _ _=>(pid_seq rfl (pd_var 0))) (fun _ _ _ _=>(pgd_name (i:=1) nd_answer_out_of_0 rfl (lo rfl) (by decide))) (fun _ _ _ _=>ptsd_nil) (fun _ _ _ _=>(pd_dix (hu_of hr) (pd_var 5) (pd_var 1) (fun _ _=>rfl)))) (pad_cons (pd_var 2) pad_nil))))))) ?_
 rintro ds n Q hl ⟨d,ts,a,uss,rfl,hn,hz,hsub,hu,hlen,hun,q⟩
 have na:notOwn (encAsk a)=true:=by cases a<;>rfl
 simp[startD,na]
 refine⟨_,ts,rfl,hn,by lia,?_⟩
 simp[na]
 have e:(uss.flatMap fun us=>us.map encThing)=uss.flatten.map encThing:=by rw[List.map_flatten,List.flatMap_def]
 refine comp2B (B:=800) namesD (fun us=>us.map encThing) uss (by decide) (by rw[e,length_map];lia) (fun us hus acc R hacc hR=>?_) ?_
 ·simp
  refine⟨_,.inr rfl,?_⟩
  refine inIn_filt (acc:=acc) (fun t:Thing=>D.int t.1) (fun _=>true) encThing us (by rw[length_map] at hacc;lia) (fun t ht R S h1 h2=>?_) (by rw[List.filter_eq_self.mpr (fun _ _=>rfl)];exact hR)
  simp
  unfold byN
  rw[q_rdDxI]
  exact⟨_,atK_names (hsub t (List.mem_flatten.mpr ⟨us,hus,ht⟩)) hn,h1 rfl⟩
 ·rw [e]
  exact⟨a,uss.flatten,rfl,hu,fun t ht=>hlen t (hsub t ht),hun,q⟩
abbrev s_by_layers:Stmt:=top 32
abbrev N_by_layers:List Str:=["house", "tree", "ask", "taken", "looks"]
private theorem sc_by_layers:FnScope N_by_layers ["house", "tree", "ask"] (defScope s_by_layers):=⟨rfl,rfl,rfl,by decide +kernel,rfl,by decide +kernel,by decide +kernel⟩
def t_byl:TF:=fun ds n Q=>∃ (d:Nat) (ts:List Thing) (T:LT) (a:Ask),ds=[houseX d ts,lyD T,encAsk a]/\(boxA a).length=d/\1<=d/\d<=4/\GoodU d ts/\ts.length<=250/\LOk ts d 0 T/\LPm d 0 T/\(thsT T).Perm ts/\lenT T<=250/\∀ us vs:List Thing,us.Perm (fitA a ts)->(ordA a=true->Put a us vs)->Q (.tup [resA a us vs,.int ((walkT (plainT (boxA a)) 0 T).2:Int)]) n
private theorem ok_byl(F:Fun K "by_layers" "by_layers" s_by_layers f fd)(F_taken_by_layers:Fn P w K mg base "taken_by_layers" 4 3 t_tbl)(F_answer_out_of:Fn P w K mg base "answer_out_of" 5 3 t_aout):FnOk P w K mg base CX0 6 f fd ["house", "tree", "ask"] (spD K 3 t_byl):=by
 refine Fun.okD F sc_by_layers (fun _ _ _ s H E G Z hr=>(pssd_cons (psd_unp (m:=5) (pd_fn F_taken_by_layers (hr.mono (by decide)) rfl (pad_cons (pd_var 0) (pad_cons (pd_var 1) (pad_cons (pd_ix ix_seq re_ix (pd_var 2) pd_int (fun _ _=>rfl)) pad_nil)))) (pgd_tup (k:=2) rfl rfl (pgsd_cons (pgd_name (i:=3) sc_by_layers.nd rfl (lo rfl) (by decide)) (pgsd_cons (pgd_name (i:=4) sc_by_layers.nd rfl (lo rfl) (by decide)) pgsd_nil))))
  (pssd_one (psd_ret (pd_tup (pad_cons (pd_fn F_answer_out_of (hr.mono (by decide)) rfl (pad_cons (pd_var 0) (pad_cons (pd_var 3) (pad_cons (pd_var 2) pad_nil)))) (pad_cons (pd_var 4) pad_nil))))))) ?_
 rintro ds n Q hl ⟨d,ts,Tr,a,rfl,hb,hd1,hd4,hg,hz,ho,hp,hper,hlen,q⟩
 have na:notOwn (encAsk a)=true:=by cases a<;>rfl
 have nT:=no_lyD Tr
 have ia:∀ R:D->Prop,R (encBox (boxA a))->rdIx (encAsk a) (.int 1) R:=fun R h=>by
  cases a<;>exact⟨_,_,_,.inr (.inl rfl),rfl,rfl,h⟩
 have nR:∀ us vs:List Thing,notOwn (resA a us vs)=true:=fun us vs=>by
  cases a<;>first | rfl | (cases vs<;>rfl)
 obtain⟨uss,e1,e2⟩:=walk_fit (plainT (boxA a)) Tr 0 ho hp
 have e3:uss.flatten.Perm (fitA a ts):=by
  refine(e2.trans (hper.filter _)).trans ?_
  unfold fitA
  rw[List.filter_congr fun t ht=>fitF_fits hb (hg.each t ht) hd1]
 have e4:(walkT (plainT (boxA a)) 0 Tr).1.map rowD=uss.map namesD:=by
  rw[e1,map_map]
  exact map_congr_left fun us _=>(namesD_row us).symm
 have hl1:=e3.length_eq
 have hl2:(fitA a ts).length<=ts.length:=List.length_filter_le ..
 simp[startD,nT,na]
 refine ia _ ⟨d,ts,Tr,boxA a,rfl,hb,hd4,hg,by lia,ho,by lia,?_⟩
 rw[e4]
 simp[na]
 refine⟨d,ts,a,uss,rfl,hg.nd,hz,fun t ht=>(List.mem_filter.mp (e3.mem_iff.mp ht)).1,by lia,fun t ht=>by rw[hg.each t ht];lia,?_,fun vs hv=>?_⟩
 ·exact(e3.map _).nodup_iff.mpr (hg.nd.sublist (List.Sublist.map _ List.filter_sublist))
 ·have := nR uss.flatten vs
  simp[this]
  exact q _ vs e3 hv
end
end K25
namespace K25
def hv(n:Nat):List Nat:=if h:1<n then(n+1)/2::hv ((n+1)/2) else []
termination_by n
decreasing_by lia
private theorem hv_gt{n:Nat}(h:1<n):hv n=(n+1)/2::hv ((n+1)/2):=by rw[hv,dif_pos h]
private theorem hv_le{n:Nat}(h:¬ 1<n):hv n=[]:=by rw[hv,dif_neg h]
private theorem hv_len:∀ n:Nat,(hv n).length<=n:=by
 intro n
 induction n using Nat.strongRecOn with
 | ind n ih =>
  by_cases h:1<n
  ·rw [hv_gt h, List.length_cons]
   have:=ih ((n+1)/2) (by lia)
   lia
  ·rw[hv_le h];simp
private theorem hv_mem:∀ n m:Nat,m∈hv n->0<m/\m<n:=by
 intro n
 induction n using Nat.strongRecOn with
 | ind n ih =>
  intro m hm
  by_cases h:1<n
  ·rw [hv_gt h] at hm
   rcases List.mem_cons.mp hm with rfl | hm
   ·lia
   ·have := ih _ (by lia) m hm
    lia
  ·rw[hv_le h] at hm;simp at hm
def sumT(f:Nat->Nat)(n:Nat):Nat:=((hv n).map f).sum
private theorem sumT_gt{f:Nat->Nat}{n:Nat}(h:1<n):sumT f n=f ((n+1)/2)+sumT f ((n+1)/2):=by unfold sumT;rw[hv_gt h];simp
private theorem sumT_le{f:Nat->Nat}{n:Nat}(h:¬ 1<n):sumT f n=0:=by unfold sumT;rw[hv_le h];rfl
private theorem sumT_mono{f:Nat->Nat}(hf:∀ a b,a<=b->f a<=f b):∀ b a,a<=b->sumT f a<=sumT f b:=by
 intro b
 induction b using Nat.strongRecOn with
 | ind b ih =>
  intro a hab
  by_cases h:1<a
  ·rw [sumT_gt h, sumT_gt (show 1 < b by lia)]
   have h1:=hf ((a+1)/2) ((b+1)/2) (by lia)
   have h2:=ih ((b+1)/2) (by lia) ((a+1)/2) (by lia)
   lia
  ·rw[sumT_le h];lia
private theorem hv_len_mono{a b:Nat}(h:a<=b):(hv a).length<=(hv b).length:=by
 have e:∀ n,(hv n).length=sumT (fun _=>1) n:=fun n=>by
  unfold sumT
  induction hv n with
  | nil=>rfl
  | cons x l ih=>simp[ih];lia
 rw[e,e]
 exact sumT_mono (fun _ _ _=>Nat.le_refl _) b a h
def lineT(n:Nat):Nat:=if (hv n).length=0 then 1 else 4*(hv n).length-1
private theorem lineT_mono{a b:Nat}(h:a<=b):lineT a<=lineT b:=by
 unfold lineT
 have:=hv_len_mono h
 split<;>split<;>lia
def mostT:Nat->Nat->Nat
 | 0,_=>0
 | d+1,n=>if n=0 then 0 else lineT n+(if d=0 then 0 else max (mostT d n) (2*sumT (mostT d) n))
private theorem mostT_succ(d n:Nat):mostT (d+1) n=if n=0 then 0 else lineT n+(if d=0 then 0 else max (mostT d n) (2*sumT (mostT d) n)):=by rw[mostT]
private theorem mostT_mono:∀ d a b:Nat,a<=b->mostT d a<=mostT d b
 | 0,a,b,h=>Nat.le_refl _
 | d + 1, a, b, h => by
  unfold mostT
  have h1:=mostT_mono d a b h
  have h2:=sumT_mono (mostT_mono d) b a h
  have h3:=lineT_mono h
  split
  ·lia
  ·rw [if_neg (by lia : ¬ b = 0)]
   split
   ·lia
   ·lia
def natsD(xs:List Nat):List D:=xs.map fun m:Nat=>D.int (m:Int)
section
variable {P:Program} {w:World} {K:W.Frag} {mg:Str->Option Value} {base:Heap} {f:Addr} {fd:FuncData}
structure JHv(c n m:Nat)(rho:Rho)(n':Nat):Prop where
 e:n'=n
 r:∃ (acc:List Nat),acc++hv m=hv c/\rho=[some (.int m),some (.own (natsD acc))]
abbrev s_halvings:Stmt:=top 33
abbrev N_halvings:List Str:=["n", "halves"]
private theorem sc_halvings:FnScope N_halvings ["n"] (defScope s_halvings):=⟨rfl,rfl,rfl,by decide +kernel,rfl,by decide +kernel,by decide +kernel⟩
def t_halvings:TF:=fun ds n Q=>∃ c:Nat,ds=[.int c]/\c<=900/\Q (.lst (natsD (hv c))) n
private theorem ok_halvings(T:Blt mg)(F:Fun K "halvings" "halvings" s_halvings f fd)(F_halved_up:Fn P w K mg base "halved_up" 1 1 t_halved_up):FnOk P w K mg base CX0 2 f fd ["n"] (spD K 1 t_halvings):=by
 refine Fun.okD F sc_halvings (fun _ _ _ s H E G Z hr=>(pssd_cons (psd_own (i:=1) sc_halvings.nd rfl (lo rfl) pad_nil)
  (pssd_cons (psd_while PassesOwn.never (ptd_cmp op_gt re_gt (pd_var 0) pd_int (nomark _))
  (pssd_cons (psd_set (i:=0) sc_halvings.nd rfl (lo rfl) (pd_fn F_halved_up (hr.mono (by decide)) rfl (pad_cons (pd_var 0) pad_nil)))
  (pssd_one (psd_append (i:=1) (pad_cons (pd_var 0) pad_nil) rfl))))
  (pssd_one (psd_frz 1 (psd_ret (pd_var 1))))))) ?_
 rintro ds n Q hl ⟨c,rfl,hc,q⟩
 simp[startD]
 refine⟨JHv c n,⟨c,rfl,[],rfl,rfl⟩,?_⟩
 rintro m rho n' ⟨rfl,acc,ha,rfl⟩
 simp
 split
 ·rename_i h
  have h1:1<m:=by lia
  refine⟨m,rfl,?_⟩
  simp
  have hl:acc.length+(hv m).length=(hv c).length:=by rw[<- ha,length_append]
  have:=hv_len c
  refine⟨lt_size (by unfold natsD;rw[length_map];lia),(m+1)/2,by lia,rfl,acc++[(m+1)/2],?_,?_⟩
  ·rw[append_assoc,List.singleton_append,<- hv_gt h1,ha]
  ·unfold natsD;rw[map_append];rfl
 ·rename_i h
  have h1:¬ 1<m:=by lia
  rw[hv_le h1,append_nil] at ha
  subst ha
  exact q
abbrev s_most_line_looks:Stmt:=top 34
abbrev N_most_line_looks:List Str:=["n", "many"]
private theorem sc_most_line_looks:FnScope N_most_line_looks ["n"] (defScope s_most_line_looks):=⟨rfl,rfl,rfl,by decide +kernel,rfl,by decide +kernel,by decide +kernel⟩
def t_most_line:TF:=fun ds n Q=>∃ c:Nat,ds=[.int c]/\c<=900/\Q (.int (lineT c)) n
private theorem ok_most_line(T:Blt mg)(F:Fun K "most_line_looks" "most_line_looks" s_most_line_looks f fd)(F_halvings:Fn P w K mg base "halvings" 2 1 t_halvings):FnOk P w K mg base CX0 3 f fd ["n"] (spD K 1 t_most_line):=by
 refine Fun.okD F sc_most_line_looks (fun _ _ _ s H E G Z hr=>(pssd_cons (psd_set (i:=1) sc_most_line_looks.nd rfl (lo rfl) (pd_callB call_len_seq cr_len T.len bt_len (pad_cons (pd_fn F_halvings (hr.mono (by decide)) rfl (pad_cons (pd_var 0) pad_nil)) pad_nil)))
  (pssd_one (psd_ret (pd_if (ptd_cmp op_eq re_eq (pd_var 1) pd_int (nomark _)) pd_int (pd_sub (pd_mul pd_int (pd_var 1)) pd_int)))))) ?_
 rintro ds n Q hl ⟨c,rfl,hc,q⟩
 simp[startD]
 refine⟨c,rfl,hc,?_⟩
 have hl:(natsD (hv c)).length=(hv c).length:=by unfold natsD;rw[length_map]
 simp[hl]
 have e:((lineT c:Nat):Int)=if (hv c).length=0 then 1 else 4*((hv c).length:Int)-1:=by
  unfold lineT;split<;>lia
 rw[e] at q
 split
 ·rename_i h
  rw[if_pos (by simpa using h)] at q
  exact q
 ·rename_i h
  rw[if_neg (by simpa using h)] at q
  exact⟨.inl ⟨by decide,by decide⟩,q⟩
abbrev s_most_layer_looks:Stmt:=top 35
abbrev N_most_layer_looks:List Str:=["n", "d", "parted"]
private theorem sc_most_layer_looks:FnScope N_most_layer_looks ["n", "d"] (defScope s_most_layer_looks):=⟨rfl,rfl,rfl,by decide +kernel,rfl,by decide +kernel,by decide +kernel⟩
private theorem nd_most_layer_looks_0:("half" :: N_most_layer_looks:List Str).Nodup:=by decide +kernel
def t_most:Nat->TF
 | 0=>fun _ _ _=>False
 | j+1=>fun ds n Q=>∃ c d:Nat,ds=[.int c,.int d]/\c<=900/\1<=d/\d<=j+1/\Q (.int (mostT d c)) n
private theorem ok_most(T:Blt mg)(T2:Blt2 mg)(F:Fun K "most_layer_looks" "most_layer_looks" s_most_layer_looks f fd)(hm:mg "most_layer_looks" = some (.ref f))(hk:W.keepIn K (.ref f)=true)(hb:Binds K fd ["n", "d"] [])(F_halvings:Fn P w K mg base "halvings" 2 1 t_halvings)(F_most_line_looks:Fn P w K mg base "most_line_looks" 3 1 t_most_line):∀ j:Nat,FnOk P w K mg base CX0 (j+3) f fd ["n", "d"] (spD K 2 (t_most j)):=by
 intro j
 induction j with
 | zero=>exact FnOk.botK fun ds n Q h=>h
 | succ j ih =>
  have F_most_layer_looks:Fn P w K mg base "most_layer_looks" (j+3) 2 (t_most j):=⟨f,fd,_,ih,hm,hk,hb⟩
  refine Fun.okD F sc_most_layer_looks (fun _ _ _ s H E G Z hr=>(pssd_cons (psd_if (ptd_cmp op_eq re_eq (pd_var 0) pd_int (nomark _)) (pssd_one (psd_ret pd_int)) pssd_nil)
  (pssd_cons (psd_if (ptd_cmp op_eq re_eq (pd_var 1) pd_int (nomark _)) (pssd_one (psd_ret (pd_fn F_most_line_looks (hr.mono (by lia)) rfl (pad_cons (pd_var 0) pad_nil)))) pssd_nil)
  (pssd_cons (psd_set (i:=2) sc_most_layer_looks.nd rfl (lo rfl) (pd_mul pd_int (pd_callB (call_sum rfl) cr_sum T2.sum bt_sum (pad_cons (pd_comp (own:=["half"]) (M:=N_most_layer_looks) (compOk (by rfl)) rfl (pid_seq rfl (pd_fn F_halvings (hr.mono (by lia)) rfl (pad_cons (pd_var 0) pad_nil))) (fun _ _ _ _=>(pgd_name (i:=0) nd_most_layer_looks_0 rfl (lo rfl) (by decide))) (fun _ _ _ _=>ptsd_nil) (fun _ _ _ _=>(pd_fn F_most_layer_looks hr rfl (pad_cons (pd_var 0) (pad_cons (pd_sub (pd_var 2) pd_int) pad_nil))))) pad_nil))))
  (pssd_one (psd_ret (pd_add (pd_fn F_most_line_looks (hr.mono (by lia)) rfl (pad_cons (pd_var 0) pad_nil)) (pd_callB (call_max2 rfl) cr_max2 T.max bt_max (pad_cons (pd_fn F_most_layer_looks hr rfl (pad_cons (pd_var 0) (pad_cons (pd_sub (pd_var 1) pd_int) pad_nil))) (pad_cons (pd_var 2) pad_nil)))))))))) ?_
  rintro ds n Q hl ⟨c,d,rfl,hc,hd1,hd,q⟩
  simp[startD]
  obtain⟨d,rfl⟩:∃ e,d=e+1:=⟨d-1,by lia⟩
  split
  ·rename_i h
   have h':c=0:=by simpa using h
   subst h'
   simp[mostT] at q
   exact q
  ·rename_i h
   have h':¬ c=0:=by simpa using h
   unfold mostT at q
   rw[if_neg h'] at q
   split
   ·rename_i h2
    have h2':d=0:=by lia
    subst h2'
    simp at q
    exact⟨c,rfl,hc,by simpa using q⟩
   ·rename_i h2
    have h2':¬ d=0:=by lia
    rw[if_neg h2'] at q
    cases j with
    | zero=>lia
    | succ j =>
     refine⟨c,rfl,hc,?_⟩
     have hm:=hv_mem c
     have e1:((d+1:Nat):Int)-1=d:=by lia
     have hlen:=hv_len c
     refine⟨_,.inl rfl,?_⟩
     refine comp_mapIn (fun m:Nat=>D.int m) (fun m:Nat=>D.int (mostT d m)) (hv c) (le_size (by lia)) (fun m hm' R hR=>?_) ?_
     ·have := hm m hm'
      simp
      exact⟨m,d,rfl,by lia,by lia,by lia,hR⟩
     ·have es : kSum [.lst ((hv c).map fun m : Nat => D.int (mostT d m))] = kSum [.lst (((hv c).map fun m : Nat => ((mostT d m : Nat) : Int)).map D.int)] := by rw [List.map_map]; rfl
      have e2:((hv c).map fun m:Nat=>((mostT d m:Nat):Int)).sum=((sumT (mostT d) c:Nat):Int):=by
       unfold sumT
       induction hv c with
       | nil=>rfl
       | cons x l ih=>simp[ih]
      rw[es]
      refine⟨_,rfl,?_⟩
      rw[e2]
      simp
      refine⟨.inl ⟨by decide,by decide⟩,c,rfl,hc,?_⟩
      simp
      refine⟨c,d,rfl,hc,by lia,by lia,?_⟩
      simp
      have e3:((lineT c:Nat):Int)+(if ((mostT d c:Nat):Int)<2*((sumT (mostT d) c:Nat):Int) then 2*((sumT (mostT d) c:Nat):Int) else((mostT d c:Nat):Int))=((lineT c+max (mostT d c) (2*sumT (mostT d) c):Nat):Int):=by
       split<;>lia
      rw[e3]
      exact q
end
end K25
namespace K25
def LHf(d:Nat):Nat->LT->Prop
 | _,.non=>True
 | i,.node rs l h n=>(2<=rs.length->lenT l=(rs.length+1)/2/\lenT h=rs.length-(rs.length+1)/2/\thsT l++thsT h=rs)/\LHf d i l/\LHf d i h/\LHf d (i+1) n
private theorem lenT_ths(T:LT):lenT T=(thsT T).length:=by cases T<;>rfl
private theorem half_min{n:Nat}:min ((n+1)/2) n=(n+1)/2:=by lia
private theorem half_sum{a b n:Nat}(h:2<=n)(e1:a=(n+1)/2)(e2:b=n-(n+1)/2):1<=a/\1<=b/\a+b=n:=by lia
private theorem ne_succ{i d:Nat}(h:i<d)(c:¬ i+1=d):i+1<d:=by lia
private theorem lt_ne{a b:Nat}(h:a<b):¬ a=b:=by lia
private theorem HalfOf.tree{d:Nat}{all:List Thing}(hall:∀ t∈all,t.2.1.length=d){i:Nat}{ts:List Thing}{tr:D}(h:HalfOf d i ts tr):(ts=[]\/i<d)->(∀ t∈ts,t∈all)->∃ T:LT,lyD T=tr/\LOk all d i T/\lenT T=ts.length/\LPm d i T/\(thsT T).Perm ts/\LHf d i T/\(OrdT i ts ts->thsT T=ts):=by
 induction h with
 | non=>exact fun _ _=>⟨.non,rfl,trivial,rfl,trivial,.nil,trivial,fun _=>rfl⟩
 | @node i ts rs ls hs inn low high inner ho hne hp he l1 l2 l3 ih1 ih2 ih3 =>
  intro hi hsub
  have hrl:=ho.perm.length_eq
  have hts:ts≠[]:=by rintro rfl;simp at hrl;exact hne hrl
  have hi':=hi.resolve_left hts
  have hrs:∀ t∈rs,t∈all:=fun t ht=>hsub t (ho.perm.mem_iff.mp ht)
  have sl:∀ t∈ls,t∈all:=fun t ht=>by
   rcases hp with ⟨_,rfl,_⟩ | ⟨_,rfl,_⟩
   ·simp at ht
   ·exact hrs t (List.mem_of_mem_take ht)
  have sh:∀ t∈hs,t∈all:=fun t ht=>by
   rcases hp with ⟨_,_,rfl⟩ | ⟨_,_,rfl⟩
   ·simp at ht
   ·exact hrs t (List.mem_of_mem_drop ht)
  obtain⟨L,eL,oL,nL,pL,qL,fL,gL⟩:=ih1 (.inr hi') sl
  obtain⟨M,eM,oM,nM,pM,qM,fM,gM⟩:=ih2 (.inr hi') sh
  have hN:∃ N:LT,lyD N=inner/\LOk all d (i+1) N/\lenT N=inn.length/\LPm d (i+1) N/\(thsT N).Perm inn/\LHf d (i+1) N/\(OrdT (i+1) inn inn->thsT N=inn):=by
   by_cases c:i+1=d
   ·rw [if_pos c] at he
    exact ih3 (.inl he) (by rw[he];simp)
   ·rw [if_neg c] at he
    exact ih3 (.inr (ne_succ hi' c)) (by rw[he];exact hrs)
  obtain⟨N,eN,oN,nN,pN,qN,fN,gN⟩:=hN
  have hnon:i+1=d->isNT N=true:=fun c=>by
   rw[if_pos c] at he
   have:lenT N=0:=by rw[nN,he];rfl
   cases N with
   | non=>rfl
   | node rs' _ _ _ =>
    obtain⟨_,q,_⟩:=oN
    simp only[lenT] at this
    exact absurd (List.length_eq_zero_iff.mp this) q
  have hpos:1<=rs.length:=by cases rs with | nil=>exact absurd rfl hne | cons _ _=>simp
  have split:2<=rs.length->lenT L=(rs.length+1)/2/\lenT M=rs.length-(rs.length+1)/2/\thsT L++thsT M=rs:=fun h2=>by
   rcases hp with ⟨h1,_⟩ | ⟨_,rfl,rfl⟩
   ·rw[h1] at h2;exact absurd h2 (by decide)
   ·refine ⟨by rw [nL, List.length_take, half_min], by rw [nM, List.length_drop], ?_⟩
    rw[gL (ho.sub (take_sublist ..)),gM (ho.sub (drop_sublist ..)),take_append_drop]
  refine⟨.node rs L M N,by rw[<- eL,<- eM,<- eN];rfl,⟨hi',hne,?_,hrs,fun h2=>?_,fun hn=>?_,oL,oM,oN⟩,hrl,⟨fun h2=>?_,fun c=>?_,hnon,pL,pM,pN⟩,ho.perm,⟨split,fL,fM,fN⟩,fun o=>?_⟩
  ·refine ho.up.imp_of_mem fun {a b} ha hb h=>rot_lt (by rw[hall a (hrs a ha)];exact hi') (by rw[hall b (hrs b hb)];exact hi') h
  ·obtain ⟨e1, e2, _⟩ := split h2
   exact half_sum h2 e1 e2
  ·rw [nN, he]
   split
   ·rename_i c
    rw[hnon c] at hn
    cases hn
   ·rfl
  ·rw[(split h2).2.2]
  ·rw [if_neg (lt_ne c)] at he
   rw[he] at nN qN
   exact⟨isNT_len (by rw[nN];exact hpos),qN⟩
  ·exact ho.unique o
private theorem hv_pos{n:Nat}(h:2<=n):1<=(hv n).length:=by rw[hv_gt (by lia)];simp
private theorem hv_half{n:Nat}(h:2<=n):(hv n).length=(hv ((n+1)/2)).length+1:=by rw[hv_gt (by lia)];simp
def inC(ps:List Pair)(i:Nat)(n:LT):Nat:=if isNT n=true then 0 else(walkT ps (i+1) n).2
private theorem look_cut{ps:List Pair}{i:Nat}{rs:List Thing}{l h n:LT}(c:lotN ps i rs = "cut"):(walkT ps i (.node rs l h n)).2=1+(walkT ps i l).2+(walkT ps i h).2:=by
 show(if lotN ps i rs = "cut" then _ else _:List (List Int) × Nat).2=_
 rw[if_pos c]
private theorem look_in{ps:List Pair}{i:Nat}{rs:List Thing}{l h n:LT}(c:lotN ps i rs = "in"):(walkT ps i (.node rs l h n)).2=1+inC ps i n:=by
 show(if lotN ps i rs = "cut" then _ else _:List (List Int) × Nat).2=_
 rw[if_neg (by rw[c];decide),if_pos c]
 unfold inC
 split<;>rfl
private theorem look_out{ps:List Pair}{i:Nat}{rs:List Thing}{l h n:LT}(c:lotN ps i rs = "out"):(walkT ps i (.node rs l h n)).2=1:=by
 show(if lotN ps i rs = "cut" then _ else _:List (List Int) × Nat).2=_
 rw[if_neg (by rw[c];decide),if_neg (by rw[c];decide)]
def okLo(p:Pair)(i:Nat)(rs:List Thing):Prop:=∀ t∈rs,belowP p (crd i t)=false
def okHi(p:Pair)(i:Nat)(rs:List Thing):Prop:=∀ t∈rs,aboveP p (crd i t)=false
private theorem lot_cases(ps:List Pair)(i:Nat)(rs:List Thing)(hne:rs≠[])(hs:rs.Pairwise fun a b=>crd i a<=crd i b) :
  (lotN ps i rs = "out" /\ (belowP (pairAt ps i) (hiC i rs)=true\/aboveP (pairAt ps i) (loC i rs)=true)) \/
  (lotN ps i rs = "in" /\ okLo (pairAt ps i) i rs/\okHi (pairAt ps i) i rs) \/
  (lotN ps i rs = "cut" /\ belowP (pairAt ps i) (hiC i rs)=false/\aboveP (pairAt ps i) (loC i rs)=false/\(belowP (pairAt ps i) (loC i rs)=true\/aboveP (pairAt ps i) (hiC i rs)=true)):=by
 have lh:loC i rs<=hiC i rs:=by
  obtain⟨t,ht,e⟩:=loC_mem (i:=i) hne
  rw[e];exact hiC_ge hs ht
 unfold lotN lotP
 rw[lies_two lh]
 by_cases c1:(belowP (pairAt ps i) (hiC i rs)||aboveP (pairAt ps i) (loC i rs))=true
 ·rw [if_pos c1]
  exact .inl ⟨rfl,by simpa using c1⟩
 ·rw [if_neg c1]
  by_cases c2:(!belowP (pairAt ps i) (loC i rs)&&!aboveP (pairAt ps i) (hiC i rs))=true
  ·rw [if_pos c2]
   rw[Bool.and_eq_true,Bool.not_eq_true',Bool.not_eq_true'] at c2
   refine .inr (.inl ⟨rfl,fun t ht=>?_,fun t ht=>?_⟩)
   ·cases h : belowP (pairAt ps i) (crd i t) with
    | false=>rfl
    | true=>rw[below_anti (loC_le hs ht) h] at c2;exact absurd c2.1 (by simp)
   ·cases h : aboveP (pairAt ps i) (crd i t) with
    | false=>rfl
    | true=>rw[above_mono (hiC_ge hs ht) h] at c2;exact absurd c2.2 (by simp)
  ·rw [if_neg c2]
   refine .inr (.inr ⟨rfl,?_⟩)
   cases h1:belowP (pairAt ps i) (hiC i rs)<;>cases h2:aboveP (pairAt ps i) (loC i rs)<;>cases h3:belowP (pairAt ps i) (loC i rs)<;>cases h4:aboveP (pairAt ps i) (hiC i rs)<;>simp[h1,h2,h3,h4] at c1 c2 ⊢
def InB(ps:List Pair)(W:Nat->Nat)(i:Nat):LT->Prop
 | .non=>True
 | .node rs l h n=>inC ps i n<=W rs.length/\InB ps W i l/\InB ps W i h
def outT(ps:List Pair)(i:Nat)(T:LT):Prop:=(walkT ps i T).2<=1
section
variable {all:List Thing} {d i:Nat} {ps:List Pair} {W:Nat->Nat}
private theorem not_out{T:LT}(o:LOk all d i T)(h:¬ outT ps i T):(∃ t∈thsT T,belowP (pairAt ps i) (crd i t)=false)/\∃ t∈thsT T,aboveP (pairAt ps i) (crd i t)=false:=by
 cases T with
 | non=>exact absurd (by unfold outT;simp[walkT]) h
 | node rs l hh n =>
  obtain⟨hi,hne,hsort,_⟩:=id o
  obtain⟨a,ha,ea⟩:=hiC_mem (i:=i) hne
  obtain⟨b,hb,eb⟩:=loC_mem (i:=i) hne
  rcases lot_cases ps i rs hne hsort with ⟨c,_⟩ | ⟨c,k1,k2⟩ | ⟨c,k1,k2,k3⟩
  ·exact absurd (by unfold outT;rw[look_out c];exact Nat.le_refl _) h
  ·exact⟨⟨a,ha,k1 a ha⟩,⟨a,ha,k2 a ha⟩⟩
  ·exact⟨⟨a,ha,by rw[<- ea];exact k1⟩,⟨b,hb,by rw[<- eb];exact k2⟩⟩
private theorem in_look{T:LT}(o:LOk all d i T)(b:InB ps W i T)(h1:okLo (pairAt ps i) i (thsT T))(h2:okHi (pairAt ps i) i (thsT T)):(walkT ps i T).2<=1+W (lenT T):=by
 cases T with
 | non=>simp[walkT]
 | node rs l hh n =>
  obtain⟨hi,hne,hsort,_⟩:=id o
  have b1:inC ps i n<=W rs.length:=b.1
  obtain⟨a,ha,ea⟩:=hiC_mem (i:=i) hne
  obtain⟨c0,hb,eb⟩:=loC_mem (i:=i) hne
  show _<=1+W rs.length
  rcases lot_cases ps i rs hne hsort with ⟨c,_⟩ | ⟨c,k1,k2⟩ | ⟨c,k1,k2,k3⟩
  ·rw[look_out c];lia
  ·rw[look_in c];lia
  ·exfalso
   rcases k3 with k3 | k3
   ·rw[eb,h1 c0 hb] at k3;cases k3
   ·rw[ea,h2 a ha] at k3;cases k3
private theorem both_in{rs:List Thing}{l h:LT}(hsort:rs.Pairwise fun a b=>crd i a<=crd i b)(e:thsT l++thsT h=rs)(ol:LOk all d i l)(oh:LOk all d i h)(nl:¬ outT ps i l)(nh:¬ outT ps i h):okLo (pairAt ps i) i (thsT h)/\okHi (pairAt ps i) i (thsT l):=by
 obtain⟨⟨a,ha,ea⟩,_⟩:=not_out ol nl
 obtain⟨_,b,hb,eb⟩:=not_out oh nh
 rw[<- e,List.pairwise_append] at hsort
 refine⟨fun t ht=>?_,fun t ht=>?_⟩
 ·cases c : belowP (pairAt ps i) (crd i t) with
  | false=>rfl
  | true=>rw[below_anti (hsort.2.2 a ha t ht) c] at ea;cases ea
 ·cases c : aboveP (pairAt ps i) (crd i t) with
  | false=>rfl
  | true=>rw[above_mono (hsort.2.2 t ht b hb) c] at eb;cases eb
private theorem look_one(hW:∀ a b,a<=b->W a<=W b):∀ (T:LT),LOk all d i T->LHf d i T->InB ps W i T->(okHi (pairAt ps i) i (thsT T)\/okLo (pairAt ps i) i (thsT T)) ->
  (walkT ps i T).2<=2*(hv (lenT T)).length+1+sumT W (lenT T)\/(walkT ps i T).2<=1+W (lenT T)/\okLo (pairAt ps i) i (thsT T)/\okHi (pairAt ps i) i (thsT T)
 | .non,_,_,_,_=>.inl (by simp[walkT])
 | .node rs l h n, o, f, b, q => by
  obtain⟨hi,hne,hsort,hsub,hsplit,hinn,ol,oh,on⟩:=id o
  obtain⟨f1,fl,fh,fn⟩:=id f
  obtain⟨b1,bl,bh⟩:=id b
  have q':okHi (pairAt ps i) i rs\/okLo (pairAt ps i) i rs:=q
  show _<=2*(hv rs.length).length+1+sumT W rs.length\/_<=1+W rs.length/\okLo (pairAt ps i) i rs/\okHi (pairAt ps i) i rs
  rcases lot_cases ps i rs hne hsort with ⟨c,_⟩ | ⟨c,k1,k2⟩ | ⟨c,k1,k2,k3⟩
  ·rw[look_out c];exact .inl (by lia)
  ·rw[look_in c];exact .inr ⟨by lia,k1,k2⟩
  ·left
   have h2:=o.cut c
   obtain⟨e1,e2,e3⟩:=f1 h2
   have hl1:lenT l<=(rs.length+1)/2:=by lia
   have hl2:lenT h<=(rs.length+1)/2:=by lia
   have ml:∀ t∈thsT l,t∈rs:=fun t ht=>by rw[<- e3];simp[ht]
   have mh:∀ t∈thsT h,t∈rs:=fun t ht=>by rw[<- e3];simp[ht]
   have il:=look_one hW l ol fl bl (q'.imp (fun z t ht=>z t (ml t ht)) fun z t ht=>z t (ml t ht))
   have ih:=look_one hW h oh fh bh (q'.imp (fun z t ht=>z t (mh t ht)) fun z t ht=>z t (mh t ht))
   have sl:=sumT_mono hW _ _ hl1
   have sh:=sumT_mono hW _ _ hl2
   have wl:=hW _ _ hl1
   have wh:=hW _ _ hl2
   have vl:=hv_len_mono hl1
   have vh:=hv_len_mono hl2
   rw[look_cut c,hv_half h2,sumT_gt (by lia)]
   by_cases nl:outT ps i l
   ·unfold outT at nl
    rcases ih with ih | ⟨ih,_⟩<;>lia
   ·by_cases nh : outT ps i h
    ·unfold outT at nh
     rcases il with il | ⟨il,_⟩<;>lia
    ·obtain ⟨g1, g2⟩ := both_in hsort e3 ol oh nl nh
     obtain⟨a,ha,ea⟩:=hiC_mem (i:=i) hne
     obtain⟨c0,hb,eb⟩:=loC_mem (i:=i) hne
     have no:¬ (okLo (pairAt ps i) i (thsT l)/\okHi (pairAt ps i) i (thsT h)):=fun⟨z1,z2⟩=>by
      have z3:∀ t∈rs,belowP (pairAt ps i) (crd i t)=false/\aboveP (pairAt ps i) (crd i t)=false:=fun t ht=>by
       rw[<- e3] at ht
       rcases List.mem_append.mp ht with ht | ht
       ·exact⟨z1 t ht,g2 t ht⟩
       ·exact⟨g1 t ht,z2 t ht⟩
      rcases k3 with k3 | k3
      ·rw[eb,(z3 c0 hb).1] at k3;cases k3
      ·rw[ea,(z3 a ha).2] at k3;cases k3
     rcases q' with q' | q'
     ·have hh := in_look oh bh g1 fun t ht => q' t (mh t ht)
      rcases il with il | ⟨_,z1,z2⟩
      ·lia
      ·exact absurd ⟨z1,fun t ht=>q' t (mh t ht)⟩ no
     ·have hh := in_look ol bl (fun t ht => q' t (ml t ht)) g2
      rcases ih with ih | ⟨_,z1,z2⟩
      ·lia
      ·exact absurd ⟨fun t ht=>q' t (ml t ht),z2⟩ no
private theorem lineT_two{n:Nat}(h:2<=n):lineT n=4*(hv n).length-1:=by
 unfold lineT
 rw[if_neg (by have:=hv_pos h;lia)]
private theorem lineT_pos(n:Nat):1<=lineT n:=by unfold lineT;split<;>lia
private theorem lineT_up(n:Nat):lineT n<=4*(hv n).length+1:=by unfold lineT;split<;>lia
private theorem look_two(hW:∀ a b,a<=b->W a<=W b):∀ (T:LT),LOk all d i T->LHf d i T->InB ps W i T ->
  (walkT ps i T).2<=lineT (lenT T)+2*sumT W (lenT T)\/(walkT ps i T).2<=1+W (lenT T)
 | .non,_,_,_=>.inl (by simp[walkT])
 | .node rs l h n, o, f, b => by
  obtain⟨hi,hne,hsort,hsub,hsplit,hinn,ol,oh,on⟩:=id o
  obtain⟨f1,fl,fh,fn⟩:=id f
  obtain⟨b1,bl,bh⟩:=id b
  have lp:=lineT_pos rs.length
  show _<=lineT rs.length+2*sumT W rs.length\/_<=1+W rs.length
  rcases lot_cases ps i rs hne hsort with ⟨c,_⟩ | ⟨c,k1,k2⟩ | ⟨c,k1,k2,k3⟩
  ·rw[look_out c];exact .inl (by lia)
  ·rw[look_in c];exact .inr (by lia)
  ·left
   have h2:=o.cut c
   obtain⟨e1,e2,e3⟩:=f1 h2
   have hl1:lenT l<=(rs.length+1)/2:=by lia
   have hl2:lenT h<=(rs.length+1)/2:=by lia
   have il:=look_two hW l ol fl bl
   have ih:=look_two hW h oh fh bh
   have sl:=sumT_mono hW _ _ hl1
   have sh:=sumT_mono hW _ _ hl2
   have wl:=hW _ _ hl1
   have wh:=hW _ _ hl2
   have vl:=hv_len_mono hl1
   have vh:=hv_len_mono hl2
   have tl:=lineT_up (lenT l)
   have th:=lineT_up (lenT h)
   rw[look_cut c,lineT_two h2,hv_half h2,sumT_gt (by lia)]
   by_cases nl:outT ps i l
   ·unfold outT at nl
    rcases ih with ih | ih<;>lia
   ·by_cases nh : outT ps i h
    ·unfold outT at nh
     rcases il with il | il<;>lia
    ·obtain ⟨g1, g2⟩ := both_in hsort e3 ol oh nl nh
     have jl:=look_one hW l ol fl bl (.inl g2)
     have jh:=look_one hW h oh fh bh (.inr g1)
     rcases jl with jl | ⟨jl,_⟩<;>rcases jh with jh | ⟨jh,_⟩<;>lia
end
private theorem in_b{all:List Thing}{d:Nat}{ps:List Pair}{i k:Nat}(hd:d=i+(k+1))(ih:∀ T,LOk all d (i+1) T->LPm d (i+1) T->LHf d (i+1) T->(walkT ps (i+1) T).2<=mostT k (lenT T)):∀ T:LT,LOk all d i T->LPm d i T->LHf d i T->InB ps (mostT k) i T
 | .non,_,_,_=>trivial
 | .node rs l h n, o, m, f => by
  obtain⟨hi,hne,hsort,hsub,hsplit,hinn,ol,oh,on⟩:=id o
  obtain⟨m1,m2,m3,ml,mh,mn⟩:=id m
  obtain⟨f1,fl,fh,fn⟩:=id f
  refine⟨?_,in_b hd ih l ol ml fl,in_b hd ih h oh mh fh⟩
  unfold inC
  split
  ·exact Nat.zero_le _
  ·rename_i hn
   have e:=hinn (by simpa using hn)
   rw[<- e]
   exact ih n on mn fn
private theorem look_most{all:List Thing}{d:Nat}(ps:List Pair):∀ (k i:Nat),d=i+k->∀ T,LOk all d i T->LPm d i T->LHf d i T->(walkT ps i T).2<=mostT k (lenT T)
 | 0,i,hd,.non,_,_,_=>by simp[walkT]
 | 0,i,hd,.node rs l h n,o,_,_=>absurd o.1 (by lia)
 | k + 1, i, hd, T, o, m, f => by
  have b:=in_b hd (look_most ps k (i+1) (by lia)) T o m f
  have r:=look_two (mostT_mono k) T o f b
  cases T with
  | non=>simp[walkT]
  | node rs l h n =>
   have hp:¬ rs.length=0:=fun z=>o.2.1 (List.length_eq_zero_iff.mp z)
   have lp:=lineT_pos rs.length
   show _<=mostT (k+1) rs.length
   have r':(walkT ps i (.node rs l h n)).2<=lineT rs.length+2*sumT (mostT k) rs.length\/(walkT ps i (.node rs l h n)).2<=1+mostT k rs.length:=r
   rw[mostT_succ,if_neg hp]
   by_cases hk:k=0
   ·subst hk
    rw[if_pos rfl]
    have z1:mostT 0 rs.length=0:=by rw[mostT]
    have z2:sumT (mostT 0) rs.length=0:=by
     unfold sumT
     have:(hv rs.length).map (mostT 0)=(hv rs.length).map fun _=>0:=map_congr_left fun x _=>by rw[mostT]
     rw[this]
     induction hv rs.length with
     | nil=>rfl
     | cons _ _ ih=>simp[ih]
    rw[z1,z2] at r'
    lia
   ·rw [if_neg hk]
    lia
private theorem looks_ge{all:List Thing}{d:Nat}(ps:List Pair):∀ (T:LT) (i:Nat),LOk all d i T->(walkT ps i T).1.length<=(walkT ps i T).2
 | .non,_,_=>Nat.le_refl _
 | .node rs l h n, i, o => by
  have i1:=looks_ge ps l i o.2.2.2.2.2.2.1
  have i2:=looks_ge ps h i o.2.2.2.2.2.2.2.1
  have i3:=looks_ge ps n (i+1) o.2.2.2.2.2.2.2.2
  unfold walkT
  split
  ·simp only[length_append];lia
  ·split
   ·split
    ·exact Nat.le_refl _
    ·simp only;lia
   ·exact Nat.zero_le _
end K25
namespace K25
private theorem sum_perm{l m:List Int}(h:l.Perm m):l.sum=m.sum:=by
 induction h with
 | nil=>rfl
 | cons x h ih=>rw[sum_cons,sum_cons,ih]
 | swap x y l=>simp only[sum_cons];lia
 | trans _ _ h1 h2=>exact h1.trans h2
private theorem res_eq{a:Ask}{us fs vs ws:List Thing}(hp:us.Perm fs)(h1:ordA a=true->Put a us vs)(h2:ordA a=true->Put a fs ws):resA a us vs=resA a fs ws:=by
 cases a with
 | count b=>show D.int us.length=D.int fs.length;rw[hp.length_eq]
 | sum b=>show D.int (us.map fun t=>t.2.2).sum=D.int (fs.map fun t=>t.2.2).sum;rw[sum_perm (hp.map _)]
 | _=>rw[put_unique (h1 rfl) (h2 rfl) hp];rfl
private theorem sorted_eq : ∀ {l m : List Int}, l.Perm m -> l.Pairwise (· <= ·) -> m.Pairwise (· <= ·) -> l = m
  | [],m,p,_,_=>(List.nil_perm.mp p).symm
  | a::l,[],p,_,_=>by simp at p
  | a :: l, b :: m, p, h1, h2 => by
    have ha:a∈b::m:=p.mem_iff.mp (by simp)
    have hb:b∈a::l:=p.mem_iff.mpr (by simp)
    have e:a=b:=by
      rcases List.mem_cons.mp ha with h | h
      · exact h
      · rcases List.mem_cons.mp hb with h' | h'
        · exact h'.symm
        · have g1 := (List.pairwise_cons.mp h1).1 b h'
          have g2:=(List.pairwise_cons.mp h2).1 a h
          lia
    subst e
    rw[sorted_eq (List.perm_cons _ |>.mp p) (List.pairwise_cons.mp h1).2 (List.pairwise_cons.mp h2).2]
private theorem eqDs_self:∀ l:List Int,eqDs (l.map D.int) (l.map D.int)=true
 | []=>rfl
 | x::l=>by
  rw[map_cons]
  simp[eqDs,eqD,eqDs_self l]
private theorem okE_names(l:List Int)(k:Nat):okE (.tup (l.map D.int)) (k+1)=true:=okE_tup.mpr fun d hd=>by
 obtain⟨x,_,rfl⟩:=List.mem_map.mp hd
 exact okE_int
def encM:Option Nat->D
 | none=>.non
 | some m=>.int (m:Int)
private theorem no_encM(m:Option Nat):notOwn (encM m)=true:=by cases m<;>rfl
private theorem res_ok(a:Ask)(us vs:List Thing):okE (resA a us vs) 19=true/\eqD (resA a us vs) (resA a us vs)=true/\notOwn (resA a us vs)=true:=by
 have tp:∀ ws:List Thing,okE (.tup (ws.map fun t=>D.int t.1)) 19=true/\eqD (.tup (ws.map fun t=>D.int t.1)) (.tup (ws.map fun t=>D.int t.1))=true:=fun ws=>by
  have e:(ws.map fun t=>D.int t.1)=(ws.map fun t=>t.1).map D.int:=by rw[map_map];rfl
  rw[e]
  exact⟨okE_names _ _,by show eqDs _ _=true;exact eqDs_self _⟩
 have ie:∀ i:Int,eqD (.int i) (.int i)=true:=fun i=>by simp[eqD]
 cases a with
 | count b=>exact⟨okE_int,ie _,rfl⟩
 | sum b=>exact⟨okE_int,ie _,rfl⟩
 | least b =>
  cases vs with
  | nil=>exact⟨by unfold resA;simp[okE],by unfold resA;simp[eqD],rfl⟩
  | cons v vs=>exact⟨okE_int,ie _,rfl⟩
 | most b =>
  cases vs with
  | nil=>exact⟨by unfold resA;simp[okE],by unfold resA;simp[eqD],rfl⟩
  | cons v vs=>exact⟨okE_int,ie _,rfl⟩
 | all b=>exact⟨(tp vs).1,(tp vs).2,rfl⟩
 | first b k=>exact⟨(tp (vs.take k)).1,(tp (vs.take k)).2,rfl⟩
 | best b k=>exact⟨(tp (vs.take k)).1,(tp (vs.take k)).2,rfl⟩
 | near b p k=>exact⟨(tp (vs.take k)).1,(tp (vs.take k)).2,rfl⟩
structure JR(hd:List (Option D))(uss:List (List Thing))(n j:Nat)(rho:Rho)(n':Nat):Prop where
 e:n'=n
 r:∃ x y:Option D,rho=hd++[some (.own (((uss.take j).map nms).flatten.map D.int)),x,y]
structure JAs(hd:List (Option D))(n j:Nat)(rho:Rho)(n':Nat):Prop where
 e:n'=n
 r:∃ x:Option D,rho=hd++[x]
section
variable {P:Program} {w:World} {K:W.Frag} {mg:Str->Option Value} {base:Heap} {f:Addr} {fd:FuncData}
abbrev s_fitting:Stmt:=top 15
abbrev N_fitting:List Str:=["house", "box"]
private theorem sc_fitting:FnScope N_fitting ["house", "box"] (defScope s_fitting):=⟨rfl,rfl,rfl,by decide +kernel,rfl,by decide +kernel,by decide +kernel⟩
private theorem nd_fitting_0:("name" :: "place" :: "worth" :: N_fitting:List Str).Nodup:=by decide +kernel
def t_fitting:TF:=fun ds n Q=>∃ (ts:List Thing) (b:List Span) (dd:D),ds=[.tup [dd,.tup (ts.map encThing)],encBox b]/\b.length<=1000/\ts.length<=1000/\Q (.tup ((ts.filter fun t=>fitsT b t.2.1).map fun t=>.int t.1)) n
private theorem ok_fitting(T:Blt mg)(F:Fun K "fitting" "fitting" s_fitting f fd)(F_fits:Fn P w K mg base "fits" 3 2 t_fits):FnOk P w K mg base CX0 4 f fd ["house", "box"] (spD K 2 t_fitting):=by
 refine Fun.okD F sc_fitting (fun _ _ _ s H E G Z hr=>(pssd_one (psd_ret (pd_callTy call_tuple_of cr_tuple T.tuple bt_tuple (pad_cons (pd_comp (own:=["name", "place", "worth"]) (M:=N_fitting) (compOk (by rfl)) rfl (pid_seq rfl (pd_ix ix_seq re_ix (pd_var 0) pd_int (fun _ _=>rfl))) (fun _ _ _ _=>(pgd_tup (k:=3) rfl rfl (pgsd_cons (pgd_name (i:=0) nd_fitting_0 rfl (lo rfl) (by decide)) (pgsd_cons (pgd_name (i:=1) nd_fitting_0 rfl (lo rfl) (by decide)) (pgsd_cons (pgd_name (i:=2) nd_fitting_0 rfl (lo rfl) (by decide)) pgsd_nil))))) (fun _ _ _ _=>(ptsd_one (ptd_val (pd_fn F_fits (hr.mono (by decide)) rfl (pad_cons (pd_var 4) (pad_cons (pd_var 1) pad_nil)))))) (fun _ _ _ _=>(pd_var 0))) pad_nil))))) ?_
 rintro ds n Q hl ⟨ts,b,dd,rfl,hb,hz,q⟩
 have e1:atI [dd,D.tup (ts.map encThing)] 1=some (.tup (ts.map encThing)):=rfl
 have nb:notOwn (encBox b)=true:=rfl
 simp[startD,e1,nb]
 refine comp_filtIn encThing (fun t=>fitsT b t.2.1) (fun t=>.int t.1) ts (le_size (by lia)) (fun t ht R S h1 h2=>?_) ?_
 ·have n1 : notOwn (encPlace t.2.1) = true := rfl
  simp[encThing,n1,nb]
  refine⟨b,t.2.1,hb,rfl,?_⟩
  cases hf:fitsT b t.2.1
  ·simp;exact h2 hf
  ·simp;exact h1 hf
 ·simp;exact q
abbrev s__law_right:Stmt:=top 52
abbrev N__law_right:List Str:=["_law_house", "_law_tree", "_law_box_here", "_law_most", "_law_taken", "_law_looks", "_law_names_here", "_law_part", "_law_ask"]
private theorem sc__law_right:FnScope N__law_right q11 (defScope s__law_right):=⟨rfl,rfl,rfl,by decide +kernel,rfl,by decide +kernel,by decide +kernel⟩
def t_right:TF:=fun ds n Q=>∃ (d:Nat) (ts:List Thing) (T:LT) (b:List Span) (mo:Option Nat),ds=[houseX d ts,lyD T,encBox b,encM mo]/\b.length=d/\1<=d/\d<=4/\GoodT d ts 2000/\ts.length<=210/\LOk ts d 0 T/\LPm d 0 T/\(thsT T).Perm ts/\(∀ m,mo=some m->(walkT (plainT b) 0 T).2<=m)/\Q (.bl true) n
private theorem ok_right(T : Blt mg)(F : Fun K "_law_right" "_law_right" s__law_right f fd)(F_taken_by_layers : Fn P w K mg base "taken_by_layers" 4 3 t_tbl)(F_fitting : Fn P w K mg base "fitting" 4 2 t_fitting)(F_by_layers : Fn P w K mg base "by_layers" 6 3 t_byl)(F_answer : Fn P w K mg base "answer" 5 2 t_answer) : FnOk P w K mg base CX0 7 f fd q11 (spD K 4 t_right) := by
  refine Fun.okD F sc__law_right (fun _ _ _ s H E G Z hr=>(pssd_cons (psd_unp (m:=9) (pd_fn F_taken_by_layers (hr.mono (by decide)) rfl (pad_cons (pd_var 0) (pad_cons (pd_var 1) (pad_cons (pd_var 2) pad_nil)))) (pgd_tup (k:=2) rfl rfl (pgsd_cons (pgd_name (i:=4) sc__law_right.nd rfl (lo rfl) (by decide)) (pgsd_cons (pgd_name (i:=5) sc__law_right.nd rfl (lo rfl) (by decide)) pgsd_nil))))
    (pssd_cons (psd_own (i:=6) sc__law_right.nd rfl (lo rfl) pad_nil)
    (pssd_cons (psd_for (m:=9) PassesOwn.never rfl (pid_seq rfl (pd_var 4)) (pgd_name (i:=7) sc__law_right.nd rfl (lo rfl) (by decide))
    (pssd_one (psd_extend (i:=6) (pad_cons (pd_callTy call_list_of cr_list T.list bt_list (pad_cons (pd_var 7) pad_nil)) pad_nil) rfl)))
    (pssd_cons (psd_frz 6 (psd_if (PWD.pt (pwd_or (ptd_cmp (op_dne hr) (re_dne rfl) (pd_callTy call_tuple_of cr_tuple T.tuple bt_tuple (pad_cons (pd_callB call_sortedB cr_sortedB T.sorted bt_sorted (pad_cons (pd_var 6) pad_nil)) pad_nil)) (pd_fn F_fitting (hr.mono (by decide)) rfl (pad_cons (pd_var 0) (pad_cons (pd_var 2) pad_nil))) (nomark _)) (pwd_or (ptd_cmp op_lt re_lt (pd_var 5) (pd_callB call_len_seq cr_len T.len bt_len (pad_cons (pd_var 4) pad_nil)) (nomark _)) (pwd_or1 (PWD.pt (pwd_and (ptd_cmp op_notN re_notN (pd_var 3) pd_non (nomark _)) (pwd_and1 (ptd_cmp op_gt re_gt (pd_var 5) (pd_var 3) (nomark _))))))))) (pssd_one (psd_ret pd_bl)) pssd_nil))
    (pssd_cons (psd_for (m:=9) PassesOwn.never rfl (pid_seq rfl (pd_lst (pad_cons (pd_tup (pad_cons pd_str (pad_cons (pd_var 2) pad_nil))) (pad_cons (pd_tup (pad_cons pd_str (pad_cons (pd_var 2) pad_nil))) (pad_cons (pd_tup (pad_cons pd_str (pad_cons (pd_var 2) pad_nil))) (pad_cons (pd_tup (pad_cons pd_str (pad_cons (pd_var 2) pad_nil))) (pad_cons (pd_tup (pad_cons pd_str (pad_cons (pd_var 2) pad_nil))) (pad_cons (pd_tup (pad_cons pd_str (pad_cons (pd_var 2) (pad_cons pd_int pad_nil)))) pad_nil)))))))) (pgd_name (i:=8) sc__law_right.nd rfl (lo rfl) (by decide))
    (pssd_one (psd_if (ptd_cmp (op_dne hr) (re_dne rfl) (pd_fn F_by_layers (hr.mono (by decide)) rfl (pad_cons (pd_var 0) (pad_cons (pd_var 1) (pad_cons (pd_var 8) pad_nil)))) (pd_tup (pad_cons (pd_fn F_answer (hr.mono (by decide)) rfl (pad_cons (pd_var 0) (pad_cons (pd_var 8) pad_nil))) (pad_cons (pd_var 5) pad_nil))) (nomark _)) (pssd_one (psd_ret pd_bl)) pssd_nil)))
    (pssd_one (psd_ret pd_bl)))))))) ?_
  with_reducible generalize hS:sSeq (sFrz _ _) _=S
  rintro ds n Q hl ⟨d,ts,Tr,b,mo,rfl,hb,hd1,hd4,hg,hz,ho,hp,hper,hmo,q⟩
  have hgu:=hg.u
  have nb:notOwn (encBox b)=true:=id rfl
  have nT:=no_lyD Tr
  have nM:=no_encM mo
  have hlen:lenT Tr=ts.length:=by rw[lenT_ths,hper.length_eq]
  obtain⟨uss,e1,e2⟩:=walk_fit (plainT b) Tr 0 ho hp
  have e3:uss.flatten.Perm (ts.filter fun t=>fitsT b t.2.1):=by
    refine(e2.trans (hper.filter _)).trans ?_
    rw[List.filter_congr fun t ht=>fitF_fits hb (hgu.each t ht) hd1]
  have hfl:(ts.filter fun t=>fitsT b t.2.1).length<=ts.length:=List.length_filter_le ..
  have hul:uss.flatten.length<=210:=by rw[e3.length_eq];lia
  have hge:=looks_ge (plainT b) Tr 0 ho
  have hn:∀ j,((uss.take j).map nms).flatten.length<=210:=fun j=>by
    have h1:((uss.take j).map nms).flatten=nms (uss.take j).flatten:=by unfold nms;rw[List.map_flatten]
    have h2:uss.flatten=(uss.take j).flatten++(uss.drop j).flatten:=by rw[<- List.flatten_append,take_append_drop]
    rw[h2,length_append] at hul
    rw[h1]
    unfold nms
    rw[length_map]
    lia
  have tk:∀ R:D->Nat->Prop,R (.tup [.tup ((walkT (plainT b) 0 Tr).1.map rowD),.int ((walkT (plainT b) 0 Tr).2:Int)]) n->t_tbl [houseX d ts,lyD Tr,encBox b] n R:=fun R h=>⟨d,ts,Tr,b,rfl,hb,hd4,hgu,by lia,ho,by lia,h⟩
  have asks:∀ ak:Ask,boxA ak=b->∀ R:D->Nat->Prop,(∀ us ws,us.Perm (fitA ak ts)->(ordA ak=true->Put ak us ws)->R (.tup [resA ak us ws,.int ((walkT (plainT b) 0 Tr).2:Int)]) n)->t_byl [houseX d ts,lyD Tr,encAsk ak] n R:=fun ak hk R h=>⟨d,ts,Tr,ak,rfl,by rw[hk];exact hb,hd1,hd4,hgu,by lia,ho,hp,hper,by lia,fun us ws h1 h2=>by rw[hk];exact h us ws h1 h2⟩
  generalize hLk:(walkT (plainT b) 0 Tr).2=lk at *
  have hge':uss.length<=lk:=by rw[e1,length_map] at hge;exact hge
  simp[startD,nT,nb,nM]
  refine tk _ ?_
  rw[e1]
  simp
  refine⟨JR [some (houseX d ts),some (lyD Tr),some (encBox b),some (encM mo),some (.tup (uss.map (rowD∘nms))),some (.int (lk:Int))] uss n,⟨rfl,none,none,rfl⟩,?_,?_⟩
  · rintro j e rho n' he ⟨rfl, x, y, rfl⟩
    rw[getElem?_map] at he
    cases hc:uss[j]? with
    | none=>rw[hc] at he;cases he
    | some us =>
      rw[hc] at he
      cases he
      have e4:((uss.take (j+1)).map nms).flatten=((uss.take j).map nms).flatten++nms us:=by rw[take_add_one,hc];simp
      have h4:=hn (j+1)
      rw[e4,length_append] at h4
      have nr:notOwn (rowD (nms us))=true:=id rfl
      have kl:∀ R:D->Prop,R (.lst ((nms us).map D.int))->kList [rowD (nms us)] R:=fun R h=>⟨_,.inr rfl,h⟩
      have fin:∀ x y:Option D,JR [some (houseX d ts),some (lyD Tr),some (encBox b),some (encM mo),some (.tup (uss.map (rowD∘nms))),some (.int (lk:Int))] uss n' (j+1) [some (houseX d ts),some (lyD Tr),some (encBox b),some (encM mo),some (.tup (uss.map (rowD∘nms))),some (.int (lk:Int)),some (.own ((((uss.take j).map nms).flatten++nms us).map D.int)),x,y] n':=fun x y=>⟨rfl,x,y,by rw[e4];rfl⟩
      generalize ((uss.take j).map nms).flatten=ac at *
      simp[nr]
      refine kl _ ?_
      simp at fin ⊢
      exact⟨le_size (by lia),fin _ _⟩
  · rintro rho n' ⟨rfl, x, y, rfl⟩
    have e5:((uss.take (uss.map (rowD∘nms)).length).map nms).flatten=nms uss.flatten:=by
      rw[length_map,take_length];unfold nms;rw[List.map_flatten]
    rw[e5]
    subst hS
    with_reducible generalize hA:sSeq (sFor _ _ _) _=A
    have hnl:(nms uss.flatten).length<2000:=by unfold nms;rw[length_map];lia
    have hpn:(nms uss.flatten).Perm ((ts.filter fun t=>fitsT b t.2.1).map fun t=>t.1):=e3.map _
    have hsf:((ts.filter fun t=>fitsT b t.2.1).map fun t=>t.1).Pairwise (·<=·):=by
      rw[pairwise_map]
      exact(hg.up.sublist List.filter_sublist).imp fun h=>Int.le_of_lt h
    have fitI:∀ R:D->Nat->Prop,R (.tup (((ts.filter fun t=>fitsT b t.2.1).map fun t=>t.1).map D.int)) n'->t_fitting [houseX d ts,encBox b] n' R:=fun R h=>⟨ts,b,_,rfl,by lia,by lia,by rw[map_map] at h;exact h⟩
    have rest:∀ (F:EndsD) (z:Option D),F.rt=Q->A F [some (houseX d ts),some (lyD Tr),some (encBox b),some (encM mo),some (.tup (uss.map (rowD∘nms))),some (.int (lk:Int)),z,x,y] n':=fun F z hF=>by
      subst hA
      have ea:[D.tup [D.str (Str.ofString "count"),encBox b],D.tup [D.str (Str.ofString "sum"),encBox b],D.tup [D.str (Str.ofString "least"),encBox b],D.tup [D.str (Str.ofString "most"),encBox b],D.tup [D.str (Str.ofString "all"),encBox b],D.tup [D.str (Str.ofString "first"),encBox b,D.int 3]]=([.count b,.sum b,.least b,.most b,.all b,.first b 3]:List Ask).map encAsk:=rfl
      have hAb:∀ a∈([.count b,.sum b,.least b,.most b,.all b,.first b 3]:List Ask),boxA a=b:=fun a ha=>by
        simp only[mem_cons,not_mem_nil,or_false] at ha
        rcases ha with rfl | rfl | rfl | rfl | rfl | rfl<;>rfl
      with_reducible generalize hI:sIf _ _ _=I
      simp[nb]
      rw[ea]
      generalize ([.count b,.sum b,.least b,.most b,.all b,.first b 3]:List Ask)=aks at *
      refine⟨JAs [some (houseX d ts),some (lyD Tr),some (encBox b),some (encM mo),some (.tup (uss.map (rowD∘nms))),some (.int (lk:Int)),z,x] n',⟨rfl,_,rfl⟩,?_,?_⟩
      · rintro k e rho n2 he ⟨rfl, u, rfl⟩
        rw[getElem?_map] at he
        cases hc:aks[k]? with
        | none=>rw[hc] at he;cases he
        | some ak =>
          rw[hc] at he
          cases he
          have hbox:=hAb ak (mem_of_getElem? hc)
          have nak:notOwn (encAsk ak)=true:=by cases ak<;>rfl
          subst hI
          simp[nT,nak]
          refine asks ak hbox _ fun us ws h1 h2=>?_
          refine⟨ak,ts,_,rfl,by rw[hbox];lia,by lia,fun t ht=>by rw[hgu.each t ht];lia,hgu.nd,fun vs hv=>?_⟩
          rw[res_eq h1 h2 hv]
          obtain⟨r1,r2,r3⟩:=res_ok ak (fitA ak ts) vs
          have o1:okE (.tup [resA ak (fitA ak ts) vs,.int (lk:Int)]) 20=true:=okE_tup.mpr fun d hd=>by
            simp only[mem_cons,not_mem_nil,or_false] at hd
            rcases hd with rfl | rfl
            · exact r1
            · exact okE_int
          have o2:eqD (.tup [resA ak (fitA ak ts) vs,.int (lk:Int)]) (.tup [resA ak (fitA ak ts) vs,.int (lk:Int)])=true:=by
            show eqDs _ _=true
            have ie:eqD (.int (lk:Int)) (.int (lk:Int))=true:=by simp[eqD]
            simp only[eqDs,r2,ie,Bool.and_self]
          simp[o1,o2]
          exact⟨rfl,_,rfl⟩
      · rintro rho n2 ⟨rfl, u, rfl⟩
        simp[hF]
        exact q
    generalize (ts.filter fun t=>fitsT b t.2.1).map (fun t=>t.1)=fs at *
    simp[nb]
    refine⟨nms uss.flatten,rfl,hnl,fun ms pm sm=>?_⟩
    have em:ms=fs:=sorted_eq (pm.trans hpn) sm hsf
    subst em
    simp[nb]
    refine fitI _ ?_
    have o1:=okE_names ms 19
    have o2:eqD (.tup (ms.map D.int)) (.tup (ms.map D.int))=true:=by show eqDs _ _=true;exact eqDs_self _
    simp[o1,o2]
    rw[if_neg (by lia)]
    cases mo with
    | none =>
      simp[encM]
      exact rest _ _ rfl
    | some m =>
      have hm:=hmo m rfl
      have hm':¬ ((m:Int)<(lk:Int)):=by lia
      simp[encM,hm']
      exact rest _ _ rfl
end
end K25
namespace K25
def encL:Option LT->D
 | none=>.non
 | some T=>lyD T
private theorem no_encL(o:Option LT):notOwn (encL o)=true:=by
 cases o with
 | none=>rfl
 | some T=>exact no_lyD T
structure JLaw(ns:List Int)(i:Nat)(rho:Rho)(n:Nat):Prop where
 e:n=2
 r:∃ (a b c d e f g h j k:Option D),rho=[some (scriptD ns),a,b,c,d,e,f,g,h,j,k]
structure JT(hd:List (Option D))(i:Nat)(rho:Rho)(n:Nat):Prop where
 e:n=2
 r:∃ (a b:Option D),rho=hd++[a,b]
section
variable {P:Program} {w:World} {K:W.Frag} {mg:Str->Option Value} {base:Heap} {f:Addr} {fd:FuncData}
abbrev s_law:Stmt:=top 53
abbrev N_law:List Str:=["_law_script", "_law_k", "_law_left_here", "_law_pool_here", "_law_house", "_law_d", "_law_most", "_law_tree", "_law_other", "_law_turn", "_law_box_here"]
private theorem sc_law:FnScope N_law ["_law_script"] (defScope s_law):=⟨rfl,rfl,rfl,by decide +kernel,rfl,by decide +kernel,by decide +kernel⟩
private theorem ok_law(T:Blt mg)(F:Fun K "law" "law" s_law f fd)(Y_left:Fn P w K mg base "_law_left" 2 2 t_left)(Y_pick:Fn P w K mg base "_law_pick" 1 2 t_pick)(Y_pool:Fn P w K mg base "_law_pool" 2 1 t_pool)(Y_small:Fn P w K mg base "_law_small" 4 3 t_small)(Y_things:Fn P w K mg base "_law_things" 3 4 t_things)(Y_layer:Fn P w K mg base "_law_layer" 41 5 (t_layer 40))(Y_box:Fn P w K mg base "_law_box" 4 3 t_box)(F_layers:Fn P w K mg base "layers" 218 1 t_lays)(F_most_layer_looks:Fn P w K mg base "most_layer_looks" 8 2 (t_most 5))(Y_right:Fn P w K mg base "_law_right" 7 4 t_right):FnOk P w K mg base CX0 220 f fd ["_law_script"] (spLawD K):=by
 refine Fun.okLaw F sc_law 2 (fun _ _ _ s H E hr=>(pssd_cons (psd_for (m:=11) PassesOwn.never rfl (pid_rng T.range (pad_cons (pd_callB (call_max2 rfl) cr_max2 T.max bt_max (pad_cons pd_int (pad_cons (pd_callB (call_min2 rfl) cr_min2 T.min bt_min (pad_cons pd_int (pad_cons (pd_callB call_len_seq cr_len T.len bt_len (pad_cons (pd_var 0) pad_nil)) pad_nil))) pad_nil))) pad_nil)) (pgd_name (i:=1) sc_law.nd rfl (lo rfl) (by decide))
  (pssd_new (i:=2) rfl sc_law.nd rfl (lo rfl) Y_left (hr.mono (by decide)) rfl (pad_cons (pd_var 0) (pad_cons (pd_var 1) pad_nil)) (fun c Z H0=>(pssd_cons (psd_set (i:=3) sc_law.nd rfl (lo rfl) (pd_fn Y_pool (hr.mono (by decide)) rfl (pad_cons (pd_var 2) pad_nil)))
  (pssd_cons (psd_set (i:=4) sc_law.nd rfl (lo rfl) (pd_fn Y_small (hr.mono (by decide)) rfl (pad_cons (pd_var 2) (pad_cons (pd_var 3) (pad_cons pd_int pad_nil)))))
  (pssd_cons (psd_if (ptd_cmp op_eq re_eq (pd_fn Y_pick (hr.mono (by decide)) rfl (pad_cons (pd_var 2) (pad_cons pd_int pad_nil))) pd_int (nomark _)) (pssd_cons (psd_set (i:=5) sc_law.nd rfl (lo rfl) (pd_add pd_int (pd_fn Y_pick (hr.mono (by decide)) rfl (pad_cons (pd_var 2) (pad_cons pd_int pad_nil)))))
  (pssd_one (psd_set (i:=4) sc_law.nd rfl (lo rfl) (pd_tup (pad_cons (pd_var 5) (pad_cons (pd_fn Y_things (hr.mono (by decide)) rfl (pad_cons (pd_var 2) (pad_cons (pd_var 5) (pad_cons (pd_sub pd_int (pd_mul pd_int (pd_sub (pd_var 5) pd_int))) (pad_cons (pd_var 3) pad_nil))))) pad_nil)))))) pssd_nil)
  (pssd_cons (psd_set (i:=6) sc_law.nd rfl (lo rfl) (pd_fn F_most_layer_looks (hr.mono (by decide)) rfl (pad_cons (pd_callB call_len_seq cr_len T.len bt_len (pad_cons (pd_ix ix_seq re_ix (pd_var 4) pd_int (fun _ _=>rfl)) pad_nil)) (pad_cons (pd_ix ix_seq re_ix (pd_var 4) pd_int (fun _ _=>rfl)) pad_nil))))
  (pssd_cons (psd_parK (i:=7) (j:=8) rfl sc_law.nd rfl rfl (by decide) rfl rfl (pad_cons (pd_fn F_layers (hr.mono (by decide)) rfl (pad_cons (pd_var 4) pad_nil)) (pad_cons pd_non pad_nil)))
  (pssd_cons (psd_if (ptd_chain op_lt op_lt pd_int (pd_callB call_len_seq cr_len T.len bt_len (pad_cons (pd_ix ix_seq re_ix (pd_var 4) pd_int (fun _ _=>rfl)) pad_nil)) pd_int) (pssd_one (psd_set (i:=8) sc_law.nd rfl (lo rfl) (pd_fn Y_layer (hr.mono (by decide)) rfl (pad_cons (pd_var 2) (pad_cons (pd_ix ix_seq re_ix (pd_var 4) pd_int (fun _ _=>rfl)) (pad_cons pd_int (pad_cons (pd_ix ix_seq re_ix (pd_var 4) pd_int (fun _ _=>rfl)) (pad_cons pd_bl pad_nil)))))))) pssd_nil)
  (pssd_one (psd_for (m:=11) PassesOwn.never rfl (pid_rng T.range (pad_cons pd_int pad_nil)) (pgd_name (i:=9) sc_law.nd rfl (lo rfl) (by decide))
  (pssd_cons (psd_set (i:=10) sc_law.nd rfl (lo rfl) (pd_fn Y_box (hr.mono (by decide)) rfl (pad_cons (pd_var 2) (pad_cons (pd_ix ix_seq re_ix (pd_var 4) pd_int (fun _ _=>rfl)) (pad_cons (pd_var 3) pad_nil)))))
  (pssd_one (psd_if (PWD.pt (pwd_or (ptd_not (ptd_val (pd_fn Y_right (hr.mono (by decide)) rfl (pad_cons (pd_var 4) (pad_cons (pd_var 7) (pad_cons (pd_var 10) (pad_cons (pd_var 6) pad_nil))))))) (pwd_or1 (PWD.pt (pwd_and (ptd_cmp op_notN re_notN (pd_var 8) pd_non (nomark _)) (pwd_and1 (ptd_not (ptd_val (pd_fn Y_right (hr.mono (by decide)) rfl (pad_cons (pd_var 4) (pad_cons (pd_var 8) (pad_cons (pd_var 10) (pad_cons pd_non pad_nil))))))))))))) (pssd_one (psd_ret pd_bl)) pssd_nil))))))))))))))
  (pssd_one (psd_ret pd_bl)))) ?_
 intro ns hns
 have nsc:notOwn (scriptD ns)=true:=id rfl
 with_reducible generalize hB:sSeq (sSet 6 _) _=B
 simp[startD,nsc]
 generalize hJ:(if 3<if (ns.length:Int)<8 then(ns.length:Int) else 8 then if (ns.length:Int)<8 then(ns.length:Int) else 8 else 3)=J
 have hJ1:3<=J/\J<=8:=by rw[<- hJ];split<;>(try split)<;>lia
 clear hJ
 refine⟨by lia,by lia,JLaw ns,⟨rfl,_,_,_,_,_,_,_,_,_,_,rfl⟩,?_,?_⟩
 ·rintro i d' rho m e ⟨rfl, a, b, c, d1, e1, f1, g1, h1, i1, j1, rfl⟩
  obtain⟨hi,rfl⟩:=rng_at e
  simp
  refine new_intro ns (by simp) (by decide) rfl (i:Int) (by simp[nsc]) (fun P P' h=>by simp[nsc];exact h _ _) ?_
  refine⟨ns,_,rfl,hns,by lia,by lia,fun x y hx hy hy2=>⟨[x,y],rfl,rfl,by simp[hx,hy],by simp[hy2],?_⟩⟩
  simp[midRho,onlyRho]
  refine⟨rfl,rfl,fun xs hx1 hx8 hxs=>?_⟩
  have nx:notOwn (numsD xs)=true:=rfl
  have cont:∀ (d:Nat) (ts:List Thing) (F:EndsD) (z:Option D),(∀ a b c e f:Option D,F.nx [some (scriptD ns),none,some .st,some (numsD xs),some (houseX d ts),z,a,b,c,e,f] 2)->1<=d->d<=4->GoodT d ts 2000->ts.length<=200 ->
    B F [some (scriptD ns),none,some .st,some (numsD xs),some (houseX d ts),z,none,none,none,none,none] 2:=fun d ts F z hF hd1 hd4 hg hz=>by
   have hgu:=hg.u
   have at0:∀ R:D->Prop,R (.int (d:Int))->rdIx (houseX d ts) (.int 0) R:=fun R h=>⟨_,0,_,.inr (.inl rfl),rfl,rfl,h⟩
   have at1:∀ R:D->Prop,R (.tup (ts.map encThing))->rdIx (houseX d ts) (.int 1) R:=fun R h=>⟨_,1,_,.inr (.inl rfl),rfl,rfl,h⟩
   subst hB
   with_reducible generalize hLp:sFor _ _ _=Lp
   have final:∀ (Tr:LT) (o:Option LT),(LOk ts d 0 Tr/\LPm d 0 Tr/\(thsT Tr).Perm ts/\∀ ps:List Pair,(walkT ps 0 Tr).2<=mostT d ts.length)->(∀ To,o=some To->LOk ts d 0 To/\LPm d 0 To/\(thsT To).Perm ts/\isNT To=false)->Lp F [some (scriptD ns),none,some .st,some (numsD xs),some (houseX d ts),z,some (.int (mostT d ts.length:Nat)),some (lyD Tr),some (encL o),none,none] 2:=fun Tr o hT ho=>by
    subst hLp
    have nT:=no_lyD Tr
    have no:=no_encL o
    with_reducible generalize hI:sIf _ _ _=I
    simp
    refine⟨JT [some (scriptD ns),none,some .st,some (numsD xs),some (houseX d ts),z,some (.int (mostT d ts.length:Nat)),some (lyD Tr),some (encL o)],⟨rfl,_,_,rfl⟩,?_,?_⟩
    ·rintro k e rho n' he ⟨rfl, a, b, rfl⟩
     obtain⟨hk,rfl⟩:=rng_at he
     simp[nx]
     refine at0 _ ⟨d,xs,rfl,rfl,hd4,hx1,hx8,hxs,fun bx hbx=>?_⟩
     have nb:notOwn (encBox bx)=true:=id rfl
     subst hI
     obtain⟨t1,t2,t3,t4⟩:=hT
     simp[nT,nb,no]
     refine⟨d,ts,Tr,bx,some (mostT d ts.length),rfl,hbx,hd1,hd4,hg,by lia,t1,t2,t3,fun m hm=>by cases hm;exact t4 _,?_⟩
     cases o with
     | none =>
      simp[encL]
      exact⟨rfl,_,_,rfl⟩
     | some To =>
      obtain⟨o1,o2,o3,o4⟩:=ho To rfl
      have nO:=no_lyD To
      have iO:isNon (lyD To)=false:=by rw[isNon_lyD];exact o4
      simp[encL,iO,nb,nO]
      refine⟨d,ts,To,bx,none,rfl,hbx,hd1,hd4,hg,by lia,o1,o2,o3,fun m hm=>(by cases hm),?_⟩
      simp
      exact⟨rfl,_,_,rfl⟩
    ·rintro rho n' ⟨rfl, a, b, rfl⟩
     exact hF _ _ _ _ _
   simp
   refine at1 _ ?_
   simp
   refine at0 _ ⟨ts.length,d,rfl,by lia,hd1,by show d<=5;lia,?_⟩
   refine⟨d,ts,rfl,hd1,hd4,hgu,by lia,fun tr htr=>?_⟩
   obtain⟨Tr,eT,oT,nT,pT,qT,fT,_⟩:=htr.tree hgu.each (.inr (by lia)) (fun t ht=>ht)
   have hT:LOk ts d 0 Tr/\LPm d 0 Tr/\(thsT Tr).Perm ts/\∀ ps:List Pair,(walkT ps 0 Tr).2<=mostT d ts.length:=⟨oT,pT,qT,fun ps=>by rw[<- nT];exact look_most ps d 0 (by lia) Tr oT pT fT⟩
   rw[<- eT]
   refine at1 _ ?_
   simp
   have no:Lp F [some (scriptD ns),none,some .st,some (numsD xs),some (houseX d ts),z,some (.int (mostT d ts.length:Nat)),some (lyD Tr),some .non,none,none] 2:=final Tr none hT fun To h=>by cases h
   by_cases h0:0<ts.length
   ·by_cases h31 : ts.length < 31
    ·rw [if_pos (by first | exact h0 | (exact List.length_pos_iff.mp h0) | lia), if_pos (by lia)]
     refine at1 _ (at0 _ ⟨d,0,ts,_,false,rfl,rfl,.inr rfl,by lia,hd4,hgu,by lia,by lia,by show ts.length+(d-0)<=41;lia,fun tr2 ht2=>?_⟩)
     obtain⟨To,eo,oo,noo,po,qo⟩:=ht2.tree2 hgu.each (.inr (by lia)) (fun t ht=>ht)
     rw[<- eo]
     exact final Tr (some To) hT fun T' h=>by cases h;exact⟨oo,po,qo,isNT_len (by lia)⟩
    ·rw [if_pos (by first | exact h0 | (exact List.length_pos_iff.mp h0) | lia), if_neg (by lia)]
     exact no
   ·rw [if_neg (by first | exact h0 | (intro z; exact h0 (List.length_pos_iff.mpr z)) | lia)]
    exact no
  simp[nx]
  refine⟨30,xs,rfl,rfl,by decide,hx1,hx8,hxs,fun d ts hd1 hd4 hg hz1 hz2=>?_⟩
  have hz:ts.length<=30:=by by_cases h:d=4;have:=hz2 h;lia;exact hz1 h
  refine pick_intro (by decide) (by decide) fun k0 hk0 hk1=>?_
  simp
  have eH:∀ (d:Nat) (ts:List Thing),D.tup [.int (d:Int),.tup (ts.map encThing)]=houseX d ts:=fun _ _=>rfl
  split
  ·refine pick_intro (by decide) (by decide) fun k2 h2 h3 => ?_
   obtain⟨d2,hd2⟩:∃ d2:Nat,1+k2=(d2:Int):=⟨(1+k2).toNat,by lia⟩
   have d21:1<=d2:=by lia
   have d22:d2<=2:=by lia
   simp
   rw[hd2]
   have em:(200:Int)-60*((d2:Int)-1)=((200-60*(d2-1):Nat):Int):=by lia
   rw[em]
   refine⟨.inl ⟨by decide,by decide⟩,d2,_,xs,rfl,rfl,d21,by lia,by lia,hx1,hx8,hxs,fun vs hv hvl=>?_⟩
   exact cont d2 vs _ _ (fun _ _ _ _ _=>⟨rfl,rfl,rfl,rfl,_,_,_,_,_,_,_,_,_,_,rfl⟩) d21 (by lia) hv (by lia)
  ·rw [eH]
   exact cont d ts _ _ (fun _ _ _ _ _=>⟨rfl,rfl,rfl,rfl,_,_,_,_,_,_,_,_,_,_,rfl⟩) hd1 hd4 hg (by lia)
 ·rintro rho m ⟨rfl, a, b, c, d1, e1, f1, g1, h1, i1, j1, rfl⟩
  simp
end
end K25
namespace K25
private theorem len_succ{α:Type}{us:List α}{c:Nat}(h:us.length=c+1):∃ a r,us=a::r/\r.length=c:=by
 cases us with
 | nil=>cases h
 | cons a r=>exact⟨a,r,rfl,Nat.succ.inj h⟩
private theorem us_1{fd:FuncData}{ps:List Str}{us:List Value}(h:us.length=1)(q:∀ x0,bindArgs fd ⟨[x0],[]⟩=pure (ps.zip [x0])):bindArgs fd ⟨us,[]⟩=pure (ps.zip us):=by
 obtain⟨x0,u0,rfl,h0⟩:=len_succ h
 obtain rfl:=List.length_eq_zero_iff.mp h0
 exact q x0
private theorem us_2{fd:FuncData}{ps:List Str}{us:List Value}(h:us.length=2)(q:∀ x0 x1,bindArgs fd ⟨[x0,x1],[]⟩=pure (ps.zip [x0,x1])):bindArgs fd ⟨us,[]⟩=pure (ps.zip us):=by
 obtain⟨x0,u0,rfl,h0⟩:=len_succ h
 obtain⟨x1,u1,rfl,h1⟩:=len_succ h0
 obtain rfl:=List.length_eq_zero_iff.mp h1
 exact q x0 x1
private theorem us_3{fd:FuncData}{ps:List Str}{us:List Value}(h:us.length=3)(q:∀ x0 x1 x2,bindArgs fd ⟨[x0,x1,x2],[]⟩=pure (ps.zip [x0,x1,x2])):bindArgs fd ⟨us,[]⟩=pure (ps.zip us):=by
 obtain⟨x0,u0,rfl,h0⟩:=len_succ h
 obtain⟨x1,u1,rfl,h1⟩:=len_succ h0
 obtain⟨x2,u2,rfl,h2⟩:=len_succ h1
 obtain rfl:=List.length_eq_zero_iff.mp h2
 exact q x0 x1 x2
private theorem us_4{fd:FuncData}{ps:List Str}{us:List Value}(h:us.length=4)(q:∀ x0 x1 x2 x3,bindArgs fd ⟨[x0,x1,x2,x3],[]⟩=pure (ps.zip [x0,x1,x2,x3])):bindArgs fd ⟨us,[]⟩=pure (ps.zip us):=by
 obtain⟨x0,u0,rfl,h0⟩:=len_succ h
 obtain⟨x1,u1,rfl,h1⟩:=len_succ h0
 obtain⟨x2,u2,rfl,h2⟩:=len_succ h1
 obtain⟨x3,u3,rfl,h3⟩:=len_succ h2
 obtain rfl:=List.length_eq_zero_iff.mp h3
 exact q x0 x1 x2 x3
private theorem us_5{fd:FuncData}{ps:List Str}{us:List Value}(h:us.length=5)(q:∀ x0 x1 x2 x3 x4,bindArgs fd ⟨[x0,x1,x2,x3,x4],[]⟩=pure (ps.zip [x0,x1,x2,x3,x4])):bindArgs fd ⟨us,[]⟩=pure (ps.zip us):=by
 obtain⟨x0,u0,rfl,h0⟩:=len_succ h
 obtain⟨x1,u1,rfl,h1⟩:=len_succ h0
 obtain⟨x2,u2,rfl,h2⟩:=len_succ h1
 obtain⟨x3,u3,rfl,h3⟩:=len_succ h2
 obtain⟨x4,u4,rfl,h4⟩:=len_succ h3
 obtain rfl:=List.length_eq_zero_iff.mp h4
 exact q x0 x1 x2 x3 x4
structure Dn(K:W.Frag)(x:Str)(st:Stmt):Prop where
 ex:∃ (f:Addr) (fd:FuncData),W.nsIn K mainGlobals x=some (some (.ref f))/\Fun K x x st f fd
private theorem dn{K:W.Frag}{x:Str}{st:Stmt}{f:Addr}{oc:Value}{od an:Option Addr}{osl:Array (Option Value)}{kV doc pm cdv ct:Value}(a:W.nsIn K mainGlobals x=some (some (.ref f)))(l:K.lookup f=some ⟨oc,od,.func (W.fnOf x x (defArgs st) (defBody st) (defScope st) .none kV doc pm an cdv ct),osl⟩)(c:W.codeIn K cdv x=true)(k:W.keepIn K (.ref f)=true):Dn K x st:=⟨f,_,a,fun_mk (st:=st) l c k⟩
private theorem Dn.fn{P:Program}{w:World}{K:W.Frag}{mg:Str->Option Value}{base h:Heap}{x:Str}{st:Stmt}{kk k:Nat}{t:TF}{ps:List Str}(d:Dn K x st)(X:K.In h)(G:h.Ns mainGlobals mg)(b:∀ (kV doc pm:Value) (an:Option Addr) (cdv ct:Value) (us:List Value),us.length=ps.length->bindArgs (W.fnOf x x (defArgs st) (defBody st) (defScope st) .none kV doc pm an cdv ct) ⟨us,[]⟩=pure (ps.zip us))(ok:∀ (f:Addr) (fd:FuncData),Fun K x x st f fd->mg x=some (.ref f)->W.keepIn K (.ref f)=true->Binds K fd ps []->FnOk P w K mg base CX0 kk f fd ps (spD K k t)):Fn P w K mg base x kk k t:=by
 obtain⟨f,fd,a,F⟩:=d.ex
 have m:=W.mg_of X G a
 have B:=F.binds b
 exact⟨f,fd,ps,ok f fd F m F.kp B,m,F.kp,B⟩
private theorem all_mk{l:W.OpenLaw}{w:World}{K:W.Frag}{h:Heap}{mg:Str->Option Value}{fa f44:Addr}(X:K.In h)(G:h.Ns mainGlobals mg)(hfa:mg "law" = some (.ref fa))
  {od44 an44:Option Addr} {sl44:Array (Option Value)} {oc44 kV44 dc44 pm44 cd44 ct44:Value}
  (d0:Dn K "least_of" s_least_of)
  (d1:Dn K "greatest_of" s_greatest_of)
  (d2:Dn K "lies_in" s_lies_in)
  (d3:Dn K "all_below" s_all_below)
  (d4:Dn K "all_above" s_all_above)
  (d5:Dn K "pair_of" s_pair_of)
  (d6:Dn K "fits" s_fits)
  (d7:Dn K "is_crossed" s_is_crossed)
  (d8:Dn K "settled" s_settled)
  (d9:Dn K "plain_box" s_plain_box)
  (d10:Dn K "steps" s_steps)
  (d11:Dn K "fitting" s_fitting)
  (d12:Dn K "things_by_name" s_things_by_name)
  (d13:Dn K "key_for" s_key_for)
  (d14:Dn K "names_for" s_names_for)
  (d15:Dn K "answer_of" s_answer_of)
  (d16:Dn K "answer" s_answer)
  (d17:Dn K "answer_out_of" s_answer_out_of)
  (d18:Dn K "names_by" s_names_by)
  (d19:Dn K "order_by" s_order_by)
  (d20:Dn K "names_in_order" s_names_in_order)
  (d21:Dn K "halved_up" s_halved_up)
  (d22:Dn K "lot_of" s_lot_of)
  (d23:Dn K "ends_of" s_ends_of)
  (d24:Dn K "taken_by_layers" s_taken_by_layers)
  (d25:Dn K "by_layers" s_by_layers)
  (d26:Dn K "halvings" s_halvings)
  (d27:Dn K "most_line_looks" s_most_line_looks)
  (d28:Dn K "most_layer_looks" s_most_layer_looks)
  (d29:Dn K "layer_of" s_layer_of)
  (d30:Dn K "layers" s_layers)
  (d31:Dn K "_law_cell_at" s__law_cell_at)
  (d32:Dn K "_law_left" s__law_left)
  (d33:Dn K "_law_pick" s__law_pick)
  (d34:Dn K "_law_pool" s__law_pool)
  (d35:Dn K "_law_number" s__law_number)
  (d36:Dn K "_law_things" s__law_things)
  (d37:Dn K "_law_small" s__law_small)
  (d38:Dn K "_law_end" s__law_end)
  (d39:Dn K "_law_box" s__law_box)
  (d40:Dn K "_law_by" s__law_by)
  (d41:Dn K "_law_names" s__law_names)
  (d42:Dn K "_law_layer" s__law_layer)
  (d43:Dn K "_law_right" s__law_right)
  (a44:W.nsIn K mainGlobals "law" = some (some (.ref f44))) (l44:K.lookup f44=some ⟨oc44,od44,.func (W.fnOf "law" "law" (defArgs s_law) (defBody s_law) (defScope s_law) .none kV44 dc44 pm44 an44 cd44 ct44),sl44⟩) (c44:W.codeIn K cd44 "law" = true) (k44:W.keepIn K (.ref f44)=true)
  {e0:Addr} {eo0:Option Addr} {en0:Nat} {et0 eu0:Tok} {es0:Array (Option Value)} (yy0:W.nsIn K mainGlobals "EMPTY_PAIR" = some (some (.ref e0))) (hh0:K.lookup e0=some ⟨.type "tuple",eo0,.seq #[.int 1 et0,.int 0 eu0] en0,es0⟩)
  (z0:W.nsIn K mainGlobals "len" = some none) (z1:W.nsIn K mainGlobals "abs" = some none) (z2:W.nsIn K mainGlobals "all" = some none) (z3:W.nsIn K mainGlobals "any" = some none) (z4:W.nsIn K mainGlobals "isinstance" = some none) (z5:W.nsIn K mainGlobals "int" = some none) (z6:W.nsIn K mainGlobals "bool" = some none) (z7:W.nsIn K mainGlobals "str" = some none) (z8:W.nsIn K mainGlobals "tuple" = some none) (z9:W.nsIn K mainGlobals "list" = some none) (z10:W.nsIn K mainGlobals "range" = some none) (z11:W.nsIn K mainGlobals "zip" = some none) (z12:W.nsIn K mainGlobals "enumerate" = some none) (z13:W.nsIn K mainGlobals "max" = some none) (z14:W.nsIn K mainGlobals "min" = some none) (z15:W.nsIn K mainGlobals "sorted" = some none) (z16:W.nsIn K mainGlobals "sum" = some none) :
  ∃ fd:FuncData,(∀ (s:Shared) (v:Value),BindsTo s fd ⟨[v],[]⟩ [("_law_script",v)])/\∀ base:Heap,K.In base->base.Ns mainGlobals mg->base.NoDigits->FnOk l.prog w K mg base CX0 220 fa fd ["_law_script"] (spLawD K):=by
 have e:=hfa.symm.trans (W.mg_of X G a44)
 cases e
 have T:Blt mg:=⟨W.mg_none_of X G z0,W.mg_none_of X G z1,W.mg_none_of X G z2,W.mg_none_of X G z3,W.mg_none_of X G z4,W.mg_none_of X G z5,W.mg_none_of X G z6,W.mg_none_of X G z7,W.mg_none_of X G z8,W.mg_none_of X G z9,W.mg_none_of X G z10,W.mg_none_of X G z11,W.mg_none_of X G z12,W.mg_none_of X G z13,W.mg_none_of X G z14,W.mg_none_of X G z15⟩
 have T2:Blt2 mg:=⟨W.mg_none_of X G z16⟩
 have G_EMPTY_PAIR:GDat K mg "EMPTY_PAIR" (.tup [.int 1,.int 0]):=gdat_int2 (W.mg_of X G yy0) hh0
 have U44:=fun_mk (st:=s_law) l44 c44 k44
 refine⟨W.fnOf "law" "law" (defArgs s_law) (defBody s_law) (defScope s_law) .none kV44 dc44 pm44 an44 cd44 ct44,fun s v=>.of_eq rfl,fun base _ _ ND=>?_⟩
 have F_least_of:Fn l.prog w K mg base "least_of" 1 1 t_least_of:=d0.fn X G (ps:=["low"]) (fun _ _ _ _ _ _ _ h=>us_1 h fun _=>rfl) fun _ _ U M N B=>ok_least_of U
 have F_greatest_of:Fn l.prog w K mg base "greatest_of" 1 1 t_greatest_of:=d1.fn X G (ps:=["high"]) (fun _ _ _ _ _ _ _ h=>us_1 h fun _=>rfl) fun _ _ U M N B=>ok_greatest_of U
 have F_lies_in:Fn l.prog w K mg base "lies_in" 1 2 t_lies_in:=d2.fn X G (ps:=["pair", "number"]) (fun _ _ _ _ _ _ _ h=>us_2 h fun _ _=>rfl) fun _ _ U M N B=>ok_lies_in U
 have F_all_below:Fn l.prog w K mg base "all_below" 1 2 t_all_below:=d3.fn X G (ps:=q0) (fun _ _ _ _ _ _ _ h=>us_2 h fun _ _=>rfl) fun _ _ U M N B=>ok_all_below U
 have F_all_above:Fn l.prog w K mg base "all_above" 1 2 t_all_above:=d4.fn X G (ps:=q0) (fun _ _ _ _ _ _ _ h=>us_2 h fun _ _=>rfl) fun _ _ U M N B=>ok_all_above U
 have F_pair_of:Fn l.prog w K mg base "pair_of" 2 1 t_pair_of:=d5.fn X G (ps:=["span"]) (fun _ _ _ _ _ _ _ h=>us_1 h fun _=>rfl) fun _ _ U M N B=>ok_pair_of U F_least_of F_greatest_of
 have F_fits:Fn l.prog w K mg base "fits" 3 2 t_fits:=d6.fn X G (ps:=["box", "place"]) (fun _ _ _ _ _ _ _ h=>us_2 h fun _ _=>rfl) fun _ _ U M N B=>ok_fits T U F_lies_in F_pair_of
 have F_is_crossed:Fn l.prog w K mg base "is_crossed" 1 1 t_is_crossed:=d7.fn X G (ps:=["pair"]) (fun _ _ _ _ _ _ _ h=>us_1 h fun _=>rfl) fun _ _ U M N B=>ok_is_crossed U
 have F_settled:Fn l.prog w K mg base "settled" 2 1 t_settled:=d8.fn X G (ps:=["pairs"]) (fun _ _ _ _ _ _ _ h=>us_1 h fun _=>rfl) fun _ _ U M N B=>ok_settled T G_EMPTY_PAIR U F_is_crossed
 have F_plain_box:Fn l.prog w K mg base "plain_box" 3 1 t_plain_box:=d9.fn X G (ps:=["box"]) (fun _ _ _ _ _ _ _ h=>us_1 h fun _=>rfl) fun _ _ U M N B=>ok_plain_box U F_pair_of F_settled
 have F_steps:Fn l.prog w K mg base "steps" 1 2 t_steps:=d10.fn X G (ps:=["one", "other"]) (fun _ _ _ _ _ _ _ h=>us_2 h fun _ _=>rfl) fun _ _ U M N B=>ok_steps T T2 U
 have F_fitting:Fn l.prog w K mg base "fitting" 4 2 t_fitting:=d11.fn X G (ps:=["house", "box"]) (fun _ _ _ _ _ _ _ h=>us_2 h fun _ _=>rfl) fun _ _ U M N B=>ok_fitting T U F_fits
 have F_things_by_name:Fn l.prog w K mg base "things_by_name" 1 1 t_tbn:=d12.fn X G (ps:=["house"]) (fun _ _ _ _ _ _ _ h=>us_1 h fun _=>rfl) fun _ _ U M N B=>ok_tbn T U
 have F_key_for:Fn l.prog w K mg base "key_for" 2 2 t_key_for:=d13.fn X G (ps:=["ask", "thing"]) (fun _ _ _ _ _ _ _ h=>us_2 h fun _ _=>rfl) fun _ _ U M N B=>ok_key_for T U F_steps
 have F_names_for:Fn l.prog w K mg base "names_for" 3 2 t_names_for:=d14.fn X G (ps:=q4) (fun _ _ _ _ _ _ _ h=>us_2 h fun _ _=>rfl) fun _ _ U M N B=>ok_names_for T U F_key_for
 have F_answer_of:Fn l.prog w K mg base "answer_of" 4 2 t_answer_of:=d15.fn X G (ps:=q4) (fun _ _ _ _ _ _ _ h=>us_2 h fun _ _=>rfl) fun _ _ U M N B=>ok_answer_of T T2 U F_names_for
 have F_answer:Fn l.prog w K mg base "answer" 5 2 t_answer:=d16.fn X G (ps:=["house", "ask"]) (fun _ _ _ _ _ _ _ h=>us_2 h fun _ _=>rfl) fun _ _ U M N B=>ok_answer T U F_fits F_answer_of
 have F_answer_out_of:Fn l.prog w K mg base "answer_out_of" 5 3 t_aout:=d17.fn X G (ps:=["house", "taken", "ask"]) (fun _ _ _ _ _ _ _ h=>us_3 h fun _ _ _=>rfl) fun _ _ U M N B=>ok_aout U F_things_by_name F_answer_of
 have F_names_by:Fn l.prog w K mg base "names_by" 1 2 t_names_by:=d18.fn X G (ps:=["things", "i"]) (fun _ _ _ _ _ _ _ h=>us_2 h fun _ _=>rfl) fun _ _ U M N B=>ok_names_by T U
 have F_order_by:Fn l.prog w K mg base "order_by" 2 2 t_order_by:=d19.fn X G (ps:=["house", "i"]) (fun _ _ _ _ _ _ _ h=>us_2 h fun _ _=>rfl) fun _ _ U M N B=>ok_order_by U F_names_by
 have F_names_in_order:Fn l.prog w K mg base "names_in_order" 2 3 t_in_order:=d20.fn X G (ps:=q2) (fun _ _ _ _ _ _ _ h=>us_3 h fun _ _ _=>rfl) fun _ _ U M N B=>ok_in_order U F_names_by
 have F_halved_up:Fn l.prog w K mg base "halved_up" 1 1 t_halved_up:=d21.fn X G (ps:=["count"]) (fun _ _ _ _ _ _ _ h=>us_1 h fun _=>rfl) fun _ _ U M N B=>ok_halved_up U
 have F_lot_of:Fn l.prog w K mg base "lot_of" 2 2 t_lot_of:=d22.fn X G (ps:=q0) (fun _ _ _ _ _ _ _ h=>us_2 h fun _ _=>rfl) fun _ _ U M N B=>ok_lot_of U F_all_below F_all_above F_lies_in
 have F_ends_of:Fn l.prog w K mg base "ends_of" 1 3 t_ends:=d23.fn X G (ps:=q2) (fun _ _ _ _ _ _ _ h=>us_3 h fun _ _ _=>rfl) fun _ _ U M N B=>ok_ends U
 have F_taken_by_layers:Fn l.prog w K mg base "taken_by_layers" 4 3 t_tbl:=d24.fn X G (ps:=["house", "tree", "box"]) (fun _ _ _ _ _ _ _ h=>us_3 h fun _ _ _=>rfl) fun _ _ U M N B=>ok_tbl T U F_things_by_name F_plain_box F_lot_of F_ends_of
 have F_by_layers:Fn l.prog w K mg base "by_layers" 6 3 t_byl:=d25.fn X G (ps:=["house", "tree", "ask"]) (fun _ _ _ _ _ _ _ h=>us_3 h fun _ _ _=>rfl) fun _ _ U M N B=>ok_byl U F_taken_by_layers F_answer_out_of
 have F_halvings:Fn l.prog w K mg base "halvings" 2 1 t_halvings:=d26.fn X G (ps:=["n"]) (fun _ _ _ _ _ _ _ h=>us_1 h fun _=>rfl) fun _ _ U M N B=>ok_halvings T U F_halved_up
 have F_most_line_looks:Fn l.prog w K mg base "most_line_looks" 3 1 t_most_line:=d27.fn X G (ps:=["n"]) (fun _ _ _ _ _ _ _ h=>us_1 h fun _=>rfl) fun _ _ U M N B=>ok_most_line T U F_halvings
 have F_most_layer_looks:Fn l.prog w K mg base "most_layer_looks" 8 2 (t_most 5):=d28.fn X G (ps:=["n", "d"]) (fun _ _ _ _ _ _ _ h=>us_2 h fun _ _=>rfl) fun _ _ U M N B=>(ok_most T T2 U M N B F_halvings F_most_line_looks 5)
 have F_layer_of:Fn l.prog w K mg base "layer_of" 217 4 (t_lay 215):=d29.fn X G (ps:=q7) (fun _ _ _ _ _ _ _ h=>us_4 h fun _ _ _ _=>rfl) fun _ _ U M N B=>(ok_lay T U M N B F_names_in_order F_halved_up 215)
 have F_layers:Fn l.prog w K mg base "layers" 218 1 t_lays:=d30.fn X G (ps:=["house"]) (fun _ _ _ _ _ _ _ h=>us_1 h fun _=>rfl) fun _ _ U M N B=>ok_lays T U F_things_by_name F_order_by F_layer_of
 have Y_cell_at:Fn l.prog w K mg base "_law_cell_at" 1 2 t_cell_at:=d31.fn X G (ps:=q3) (fun _ _ _ _ _ _ _ h=>us_2 h fun _ _=>rfl) fun _ _ U M N B=>ok_cell_at T U
 have Y_left:Fn l.prog w K mg base "_law_left" 2 2 t_left:=d32.fn X G (ps:=q3) (fun _ _ _ _ _ _ _ h=>us_2 h fun _ _=>rfl) fun _ _ U M N B=>ok_left T ND U Y_cell_at
 have Y_pick:Fn l.prog w K mg base "_law_pick" 1 2 t_pick:=d33.fn X G (ps:=["_law_left_here", "_law_many"]) (fun _ _ _ _ _ _ _ h=>us_2 h fun _ _=>rfl) fun _ _ U M N B=>ok_pick U
 have Y_pool:Fn l.prog w K mg base "_law_pool" 2 1 t_pool:=d34.fn X G (ps:=["_law_left_here"]) (fun _ _ _ _ _ _ _ h=>us_1 h fun _=>rfl) fun _ _ U M N B=>ok_pool T U Y_pick
 have Y_number:Fn l.prog w K mg base "_law_number" 2 2 t_number:=d35.fn X G (ps:=q1) (fun _ _ _ _ _ _ _ h=>us_2 h fun _ _=>rfl) fun _ _ U M N B=>ok_number T U Y_pick
 have Y_things:Fn l.prog w K mg base "_law_things" 3 4 t_things:=d36.fn X G (ps:=q8) (fun _ _ _ _ _ _ _ h=>us_4 h fun _ _ _ _=>rfl) fun _ _ U M N B=>ok_things T U Y_pick Y_number
 have Y_small:Fn l.prog w K mg base "_law_small" 4 3 t_small:=d37.fn X G (ps:=q9) (fun _ _ _ _ _ _ _ h=>us_3 h fun _ _ _=>rfl) fun _ _ U M N B=>ok_small T U Y_pick Y_things
 have Y_end:Fn l.prog w K mg base "_law_end" 3 2 t_end:=d38.fn X G (ps:=q1) (fun _ _ _ _ _ _ _ h=>us_2 h fun _ _=>rfl) fun _ _ U M N B=>ok_end T U Y_pick Y_number
 have Y_box:Fn l.prog w K mg base "_law_box" 4 3 t_box:=d39.fn X G (ps:=q10) (fun _ _ _ _ _ _ _ h=>us_3 h fun _ _ _=>rfl) fun _ _ U M N B=>ok_box T U Y_pick Y_end
 have Y_by:Fn l.prog w K mg base "_law_by" 1 2 t_by:=d40.fn X G (ps:=["_law_things_here", "_law_i"]) (fun _ _ _ _ _ _ _ h=>us_2 h fun _ _=>rfl) fun _ _ U M N B=>ok_by T U
 have Y_names:Fn l.prog w K mg base "_law_names" 1 1 t_names:=d41.fn X G (ps:=q5) (fun _ _ _ _ _ _ _ h=>us_1 h fun _=>rfl) fun _ _ U M N B=>ok_names T U
 have Y_layer:Fn l.prog w K mg base "_law_layer" 41 5 (t_layer 40):=d42.fn X G (ps:=q6) (fun _ _ _ _ _ _ _ h=>us_5 h fun _ _ _ _ _=>rfl) fun _ _ U M N B=>(ok_layer T U M N B Y_pick Y_by Y_names 40)
 have Y_right:Fn l.prog w K mg base "_law_right" 7 4 t_right:=d43.fn X G (ps:=q11) (fun _ _ _ _ _ _ _ h=>us_4 h fun _ _ _ _=>rfl) fun _ _ U M N B=>ok_right T U F_taken_by_layers F_fitting F_by_layers F_answer
 exact ok_law T U44 Y_left Y_pick Y_pool Y_small Y_things Y_layer Y_box F_layers F_most_layer_looks Y_right
private theorem walk{l:W.OpenLaw}{q:Program}{loose:List Str}{XP:(Str->Option Value)->Heap->Prop}{YP:World->Heap->Prop}{d:DefRec}{K:Params->W.Frag}(hn:l.most=some 63)(hdf:d.params.defaults=[])
  (hY:∀ (w:World) (h:Heap),YP w h->(K w.params).In h)
  (F : ∀ (w : World) (mg : Str -> Option Value) (fa : Addr) (h : Heap), (K w.params).In h -> h.Ns mainGlobals mg -> mg d.name = some (.ref fa) ->
   ∃ fd:FuncData,(∀ (s:Shared) (u:Value),BindsTo s fd ⟨[u],[]⟩ [("_law_script",u)])/\∀ base:Heap,(K w.params).In base->base.Ns mainGlobals mg->base.NoDigits->FnOk l.prog w (K w.params) mg base CX0 220 fa fd ["_law_script"] (spLawD (K w.params))) :
  W.WalkO q loose XP YP l.row.toRowW d [] (fun f vs=>PySem.call f vs) :=
 L2.walk_ofN (n:=63) (k:=220) (x := "_law_script") (CX:=fun _=>CX0) (sp:=fun w=>spLawD (K w.params)) hn (by decide) hdf ⟨rfl,by decide,by decide,rfl⟩ hY F (fun _ _ a ns hl hO hS=>⟨a,ns,rfl,hO,hS,hl,fun _=>rfl⟩) fun _ _ _ _ _ z=>z
noncomputable def view:Program:={ PySem.Challenge.pw_boxlayers_k25_whole_layers_take_each_onc with main:={ PySem.Challenge.pw_boxlayers_k25_whole_layers_take_each_onc.main with body:=[top 1,top 2,top 3,top 4,top 5,top 6,top 7,top 8,top 9,top 10,top 11,top 13,top 15,top 16,top 18,top 19,top 20,top 21,top 22,top 24,top 25,top 26,top 27,top 29,top 30,top 31,top 32,top 33,top 34,top 35,top 37,top 38,top 40,top 41,top 42,top 43,top 44,top 45,top 46,top 47,top 48,top 49,top 50,top 51,top 52,top 53] } }
end K25
open PySem PySem.W PyProof.Rows
local macro_rules | `(tactic| o_head $H)=>`(tactic| refine holds_open (q:=K25.view) (loose:=[]) (N:=10000) (XP:=XL K25.view []) (Xt:=fun s=>xlAt K25.view [] s && recOk (RowW.records (OpenRow.toRowW (OpenLaw.row PySem.Challenge.rw_boxlayers_k25_whole_layers_take_each_onc))) s) (Yf:=Hook.obs $H) (Ya:=Hook.val $H) (YP:=Hook.says $H) ?_ (Hook.of $H) (Hook.keeps $H) (fun s e=>xl_of s (Bool.and_eq_true_iff.mp e).1) XL.keeps rfl rfl rfl (fun s e=>recFacts_of (Bool.and_eq_true_iff.mp e).2) rfl (by first | assumption | decide +kernel) (by decide +kernel) ⟨rfl,rfl,rfl,rfl,rfl,by decide +kernel⟩ ?_ ?_)
set_option maxRecDepth 100000 in
set_option maxHeartbeats 0 in
theorem PySem.Challenge.cw_boxlayers_k25_whole_layers_take_each_onc_holds : PySem.Challenge.rw_boxlayers_k25_whole_layers_take_each_onc.Holds := by
 w_on;o_law;k_head
 ·intro w;kernel_rfl
 ·w_witness2
 k_fill
 refine K25.walk (l:=PySem.Challenge.rw_boxlayers_k25_whole_layers_take_each_onc) rfl rfl (fun w h Y=>PySem.W.kIn_of Y) ?F
 case F =>
  intro w mg fa h KX G hmg
  refine' K25.all_mk KX G hmg ?d0 ?d1 ?d2 ?d3 ?d4 ?d5 ?d6 ?d7 ?d8 ?d9 ?d10 ?d11 ?d12 ?d13 ?d14 ?d15 ?d16 ?d17 ?d18 ?d19 ?d20 ?d21 ?d22 ?d23 ?d24 ?d25 ?d26 ?d27 ?d28 ?d29 ?d30 ?d31 ?d32 ?d33 ?d34 ?d35 ?d36 ?d37 ?d38 ?d39 ?d40 ?d41 ?d42 ?d43 ?a44 ?l44 ?c44 ?k44 ?yy0 ?hh0 ?z0 ?z1 ?z2 ?z3 ?z4 ?z5 ?z6 ?z7 ?z8 ?z9 ?z10 ?z11 ?z12 ?z13 ?z14 ?z15 ?z16
  (case a44=>k_is)
  (case l44=>k_is)
  (case c44=>k_is)
  (case k44=>k_is)
  (case yy0=>k_is)
  (case hh0=>k_is)
  (case z0=>k_is)
  (case z1=>k_is)
  (case z2=>k_is)
  (case z3=>k_is)
  (case z4=>k_is)
  (case z5=>k_is)
  (case z6=>k_is)
  (case z7=>k_is)
  (case z8=>k_is)
  (case z9=>k_is)
  (case z10=>k_is)
  (case z11=>k_is)
  (case z12=>k_is)
  (case z13=>k_is)
  (case z14=>k_is)
  (case z15=>k_is)
  (case z16=>k_is)
  all_goals (apply K25.dn;k_is;k_is;k_is;k_is)
end
#print axioms PySem.Challenge.cw_boxlayers_k25_whole_layers_take_each_onc_holds
