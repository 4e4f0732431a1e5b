import PyProof.Rows.All
import Wide.All
import OpenK.AllK
import Wide.FinOn
import Lean
import PyProof.EqAt
import PyProof.EqKinds
import PyProof.TupleCall
import PyProof.CompFree
import PyProof.ZipIter
import PyProof.Cells
import PyProof.Rows.CellsFrame
import PyProof.EnumMake
import PyProof.TupleIter
import PyProof.IsiPairs
import PyProof.IsiSeqPairs
import PyProof.IsiNone
import PyProof.ConsumeWalk
import PyProof.DictCompW
import PyProof.NeKinds
import PyProof.MinMaxWalk
import PyProof.Rows.SortRev
import KE.KIsAll
import KE.KDictOf
import PyProof.AttrMissHeap
import PyProof.CallFns
import KE.IntTextLaws
import PySem.Challenge.RW_boxlayers_k77_whole_any_pieces
def PySem.W.Fast.tw11697608028651523320:=0
def PySem.W.Fast.tw15393018986050622655:=0
def PySem.W.Fast.tw1971113957299015815:=0
def PySem.W.Fast.tw3063774124704366992:=0
def PySem.W.Fast.tw5097632050422439389:=0
def PySem.W.Fast.tw889162760228753424:=0
def PySem.W.Fast.tw9700897386203199621:=0
def PySem.W.Fast.tw15001808684264778749:=0
def PySem.W.Fast.tw1426303878976403788:=0
def PySem.W.Fast.tw5716002604535295217:=0
def PySem.W.Fast.tw12620001271702877913:=0
def PySem.W.Fast.tw9840037631754622932:=0
def PySem.W.Fast.tw2053176834223989125:=0
def PySem.W.Fast.tw5526305959608171901:=0
def PySem.W.Fast.tw6835670271257690305:=0
def PySem.W.Fast.tw4241636658966150141:=0
def PySem.W.Fast.tw10253072279529406288:=0
def PySem.W.Fast.tw14124356822337386197:=0
def PySem.W.Fast.tw10518078713019454680:=0
def PySem.W.Fast.tw10135182412834391668:=0
def PySem.W.Fast.tw10214208745481306059:=0
def PySem.W.Fast.tw5870728223111973499:=0
def PySem.W.Fast.tw815171872070542821:=0
def PySem.W.Fast.tw24542590527843308:=0
def PySem.W.Fast.tw6964734977094262155:=0
def PySem.W.Fast.tw17586751425828510567:=0
def PySem.W.Fast.tw11156969684898375516:=0
def PySem.W.Fast.tw9189256093208557002:=0
def PySem.W.Fast.tw5454330829674424403:=0
def PySem.W.Fast.tw7124341704594247898:=0
def PySem.W.Fast.tw5982633160368775305:=0
def PySem.W.Fast.tw3711858357406070422:=0
def PySem.W.Fast.tw17757635535330693949:=0
def PySem.W.Fast.tw17748080578501176596:=0
def PySem.W.Fast.tw18409220480708040053:=0
def PySem.W.Fast.tw4543149694081708932:=0
def PySem.W.Fast.tw8719506027504781572:=0
def PySem.W.Fast.tw4377070191902263030:=0
def PySem.W.Fast.tw5773753001023146767:=0
def PySem.W.Fast.tw12114032032634707188:=0
def PySem.W.Fast.tw8056158576936115461:=0
def PySem.W.Fast.tw10155551436958437240:=0
def PySem.W.Fast.tw1876682753253078557:=0
def PySem.W.Fast.tw15684275090748681923:=0
def PySem.W.Fast.tw6518978231630355746:=0
def PySem.W.Fast.tw4109607211859443863:=0
def PySem.W.Fast.tw15460518823707120403:=0
def PySem.W.Fast.tw6471397832839909116:=0
def PySem.W.Fast.tw1690487893024450457:=0
def PySem.W.Fast.tw12231882698763183463:=0
def PySem.W.Fast.tw17674656156350651022:=0
def PySem.W.Fast.tw9615497087239541020:=0
def PySem.W.Fast.tw11523381652225993713:=0
def PySem.W.Fast.tw11195175503580213577:=0
def PySem.W.Fast.tw4506078263800866325:=0
def PySem.W.Fast.tw8000893241310351418:=0
def PySem.W.Fast.tw4426143672969847496:=0
def PySem.W.Fast.tw2243398432812134652:=0
def PySem.W.Fast.tw9706026763557297333:=0
def PySem.W.Fast.tw13535109668688500730:=0
open PySem PySem.Spec PyProof.Rows
open List (replicate reverse_cons map_nil forIn_nil forIn_cons getElem?_drop getElem_mem take_left' all_map drop_zero foldl_cons append_assoc map_id'' all_append drop_one map_take length_zip map_drop)
noncomputable section
set_option bootstrap.genMatcherCode false
set_option genSizeOf false
set_option compiler.extract_closed false
set_option Elab.async false
set_option linter.all false
set_option maxRecDepth 100000
section
def wz:=@Array.getElem?_eq_some_iff
def ww:=@Array.length_toList
def zv:=@Bool.and_eq_true
def zI:=@Bool.false_ne_true
def wL:=@Heap.get?_none_of_le
def zg:=@Heap.get?_push_of_some
def zw:=@Heap.get?_push_size
def wU:=@Heap.get?_update_other
def zt:=@Heap.lt_size
def wd:=@Heap.size_push
def yj:=@Int.emod_nonneg
def xF:=@Int.eq_ofNat_of_zero_le
def ym:=@List.all_cons
def zZ:=@List.all_eq_true
def yl:=@List.any_cons
def xv:=@List.append_nil
def wl:=@List.concat_eq_append
def wR:=@List.cons_append
def wf:=@List.count_append
def yi:=@List.drop_left'
def wP:=@List.drop_succ_cons
def wk:=@List.eq_nil_or_concat
def wg:=@List.filterMap_cons
def yh:=@List.find?_cons
def xu:=@List.getElem?_append_left
def xp:=@List.getElem?_append_right
def xD:=@List.getElem?_eq_getElem
def zM:=@List.getElem?_eq_some_iff
def xn:=@List.getElem?_map
def xr:=@List.getElem?_replicate
def zW:=@List.getElem?_set_ne
def zU:=@List.getElem?_set_self
def zE:=@List.length_append
def zr:=@List.length_cons
def wo:=@List.length_drop
def xO:=@List.length_eq_zero_iff
def zj:=@List.length_map
def yg:=@List.length_nil
def xJ:=@List.length_replicate
def xE:=@List.length_singleton
def wB:=@List.length_take
def xG:=@List.lookup_cons
def al_List_lookup_cons_self:=@List.lookup_cons_self
def wj:=@List.map_append
def zR:=@List.map_cons
def wv:=@List.map_eq_nil_iff
def zF:=@List.map_map
def xU:=@List.mem_append
def zA:=@List.mem_append_right
def zi:=@List.mem_cons
def zh:=@List.mem_cons_of_mem
def xi:=@List.mem_cons_self
def xf:=@List.mem_filter
def zN:=@List.mem_map
def xb:=@List.mem_of_getElem?
def xh:=@List.mem_singleton
def yf:=@List.nil_append
def xl:=@List.not_mem_nil
def ye:=@List.of_mem_zip
def zB:=@List.size_toArray
def wI:=@List.takeWhile_append_dropWhile
def xN:=@List.take_add_one
def wn:=@List.take_length
def zQ:=@List.take_of_length_le
def zk:=@Nat.le_refl
def yu:=@Nat.le_succ
def zm:=@Nat.le_trans
def xx:=@Nat.lt_irrefl
def wY:=@Nat.lt_of_le_of_lt
def zD:=@Nat.lt_of_lt_of_le
def xT:=@Nat.ne_of_gt
def zG:=@Nat.ne_of_lt
def zY:=@Option.bind_eq_some_iff
def zT:=@Option.map_eq_some_iff
def xk:=@Option.some.inj
def zO:=@decide_eq_false
def xm:=@decide_eq_true
def zc:=@wpAny_bind
def yv:=@wpAny_bindName
def xY:=@wpAny_callSpecial?_slot
def wQ:=@wpAny_call_entry
def wK:=@wpAny_comprehension_free
def yd:=@wpAny_execs_nil
def xy:=@wpAny_field
def wq:=@wpAny_holding
def wa:=@wpAny_mono
def xM:=@wpAny_newObj_type
def wJ:=@wpAny_passesOwn
def zo:=@wpAny_pure
def wE:=@wpAny_seqItems
def wD:=@wpAny_setField_rec
def wy:=@wpAny_standAt
def wN:=@wpAny_truthy_bool
end
def w6 {p:Prop}(h:p:=by lia):p:=h
def w9 {p:Prop}(h:p:=by decide):p:=h
def x5 {p:Prop}(h:p:=by decide +kernel):p:=h
local macro_rules|`(tactic|exists $t)=>`(tactic|with_unfolding_all exact $t)
namespace L2
abbrev Key:=Sum Int Str
def YE:Key->Value->Bool
 |.inl k,v=>Value.isInt k v
 |.inr x,v=>Value.isStrOf x v
def xm0(w:World):Key->Int
 |.inl k=>hashInt k
 |.inr x=>hashStr w x
theorem yF:∀{k:Key}{v:Value},YE k v=true->(∃i t,k=Sum.inl i/\v=Value.int i t)\/(∃x t,k=Sum.inr x/\v=Value.str x t)
 |.inl i,v,h=>by
  obtain⟨t,e⟩:=Value.isInt_shape (k:=i) (v:=v) h;exact .inl ⟨i,t,rfl,e⟩
 |.inr x,v,h=>by
  obtain⟨t,e⟩:=Value.isStrOf_shape (x:=x) (v:=v) h;exact .inr ⟨x,t,rfl,e⟩
def zj7(i:Int)(t:Tok):YE (.inl i) (.int i t)=true:=by simp[YE,Value.isInt]
def XB(x:Str)(t:Tok):YE (.inr x) (.str x t)=true:=by simp[YE,Value.isStrOf]
def zW9(a b:Int):decide ((Sum.inl a:Key)=Sum.inl b)=(a == b):=by
 by_cases e:a=b
 ·subst e;simp
 ·have h:¬ (Sum.inl a:Key)=Sum.inl b:=λq=>e (Sum.inl.inj q);rw[zO h];exact(beq_eq_false_iff_ne.mpr e).symm
def zW6(a b:Str):decide ((Sum.inr a:Key)=Sum.inr b)=decide (a=b):=by
 by_cases e:a=b
 ·subst e;simp
 ·have h:¬ (Sum.inr a:Key)=Sum.inr b:=λq=>e (Sum.inr.inj q);rw[zO h,zO e]
def zW8(a:Int)(b:Str):decide ((Sum.inl a:Key)=Sum.inr b)=false:=zO (λq=>nomatch q)
def zW7(a:Str)(b:Int):decide ((Sum.inr a:Key)=Sum.inl b)=false:=zO (λq=>nomatch q)
def yS(prog:Program)(w:World):PySem.KeyKind prog w Key where
 is:=YE
 hash:=xm0 w
 inj:=λv a b ha hb=>by
  rcases yF ha with ⟨i,t,rfl,rfl⟩ |⟨x,t,rfl,rfl⟩
  ·rcases yF hb with ⟨j, u, rfl, e⟩ | ⟨y, u, rfl, e⟩
   ·injection e with e1 _;rw[e1]
   ·exact nomatch e
  ·rcases yF hb with ⟨j, u, rfl, e⟩ | ⟨y, u, rfl, e⟩
   ·exact nomatch e
   ·injection e with e1 _;rw[e1]
 byValue:=λk v h=>by
  rcases yF h with ⟨i,t,rfl,rfl⟩ |⟨x,t,rfl,rfl⟩<;>rfl
 pyHash:=λhv h=>by
  rcases yF hv with ⟨i,t,rfl,rfl⟩ |⟨x,t,rfl,rfl⟩
  ·exact wpAny_pyHash_int h
  ·exact wpAny_pyHash_str h
 eqBool:=λhu hv h=>by
  rcases yF hu with ⟨i,t,rfl,rfl⟩ |⟨x,t,rfl,rfl⟩
  ·rcases yF hv with ⟨j, u, rfl, rfl⟩ | ⟨y, u, rfl, rfl⟩
   ·rw[zW9] at h;exact wpAny_eqBool_int h
   ·rw[zW8] at h;exact SeqAt.EqAt.int_str i t y u _ _ _ _ h
  ·rcases yF hv with ⟨j, u, rfl, rfl⟩ | ⟨y, u, rfl, rfl⟩
   ·rw[zW7] at h;exact SeqAt.EqAt.str_int x t j u _ _ _ _ h
   ·rw[zW6] at h;exact wpAny_eqBool_str h
 «strs»:=λk x t v h=>by
  rcases yF h with ⟨i,u,rfl,e⟩ |⟨y,u,rfl,e⟩
  ·exact nomatch e
  ·injection e with e1 _;subst e1
   cases v<;>rfl
def Ja(prog:Program)(w:World)(i:Int)(t:Tok):(yS prog w).is (.inl i) (.int i t)=true:=zj7 i t
def KZ(prog:Program)(w:World)(x:Str)(t:Tok):(yS prog w).is (.inr x) (.str x t)=true:=XB x t
inductive V where
 |non |bl (b:Bool) |int (i:Int) |str (x:Str) |byt (b:Array UInt8) |flt (b:UInt64) |ref (a:Addr) |ty (n:String)
 deriving DecidableEq
def RelV:V->Value->Prop
 |.non,u=>u=Value.none
 |.bl b,u=>u=Value.bool b
 |.int i,u=>∃t,u=Value.int i t
 |.str x,u=>∃t,u=Value.str x t
 |.byt b,u=>∃t,u=Value.bytes b t
 |.flt b,u=>∃t,u=Value.float b t
 |.ref a,u=>u=Value.ref a
 |.ty n,u=>u=Value.type n
abbrev Vals:List V->List Value->Prop:=Paired RelV
def Vals.length{xs:List V}{us:List Value}(r:Vals xs us):xs.length=us.length:=Paired.length r
theorem Vals.get:∀{xs:List V}{us:List Value}{i:Nat}{x:V},Vals xs us->xs[i]?=some x->∃u,us[i]?=some u/\RelV x u
 |_,_,_,_,.nil,e=>by simp at e
 |_,_,0,_,.cons r _,e=>by simp at e;subst e;exact⟨_,rfl,r⟩
 |_,_,i+1,x,.cons _ t,e=>by
  obtain⟨u,h1,h2⟩:=Vals.get (i:=i) (x:=x) t (by simpa using e)
  exact⟨u,by simpa using h1,h2⟩
theorem Vals.set{x:V}{u:Value}(r:RelV x u):∀{xs:List V}{us:List Value} (i:Nat),Vals xs us->Vals (xs.set i x) (us.set i u)
 |_,_,_,.nil=>.nil
 |_,_,0,.cons _ t=>.cons r t
 |_,_,i+1,.cons q t=>.cons q (Vals.set r i t)
theorem Vals.append:∀{xs ys:List V}{us ws:List Value},Vals xs us->Vals ys ws->Vals (xs++ys) (us++ws)
 |_,_,_,_,.nil,s=>s
 |_,_,_,_,.cons r t,s=>.cons r (Vals.append t s)
theorem Vals.take:∀{xs:List V}{us:List Value} (n:Nat),Vals xs us->Vals (xs.take n) (us.take n)
 |_,_,0,_=>.nil
 |_,_,_+1,.nil=>.nil
 |_,_,n+1,.cons r t=>.cons r (Vals.take n t)
theorem Vals.drop:∀{xs:List V}{us:List Value} (n:Nat),Vals xs us->Vals (xs.drop n) (us.drop n)
 |_,_,0,r=>r
 |_,_,_+1,.nil=>.nil
 |_,_,n+1,.cons _ t=>Vals.drop n t
def RelO:Option V->Option Value->Prop
 |some v,some u=>RelV v u
 |none,none=>True
 |_,_=>False
def KV{κ:Type}:List (κ × V)->List (κ × Value)->Prop:=Paired fun(p:κ × V) (q:κ × Value)=>p.1=q.1/\RelV p.2 q.2
def kV:Key->V
 |.inl i=>.int i
 |.inr x=>.str x
inductive HO where
 /-- a list -/
 |lst (xs:List V)
 /-- a tuple (never changes) -/
 |tup (xs:List V)
 /-- a dict whose keys are ints and texts; one whose keys are tuples of ints and texts (the empty one is both) -/
 |dK (kvs:List (Key × V)) |dT (kvs:List (List Key × V))
 /-- a set of ints: its members, its size -/
 |set (S:Int->Bool) (n:Nat)
 /-- an instance of the class at C, its dict at dx, its attributes -/
 |ins (C dx:Addr) (fs:List (Str × V))
 /-- the dict of the instance at x -/
 |own (x:Addr)
 /-- the dict of an exception -/
 |xd (fs:List (Str × V))
 /-- a bound method, f of x -/
 |met (f x:Addr)
 /-- a range object lo, lo + 1, .. below hi -/
 |rng (lo hi:Int)
 /-- a thing that is known to the object (the script; a dict while a loop walks it): read, never written while it is so -/
 |frz (o:Obj) (u:HO)
 /-- a code object's table -/
 |tbl (ps:Array Value)
 /-- any other thing, by what is true of its one object (a def of one's own: SetO a S n := HO.ext λh => ..) -/
 |ext (φ:Heap->Prop)
abbrev Hp:=Addr->Option HO
def upd(H:Hp)(a:Addr)(o:HO):Hp:=λb=>if b=a then some o else H b
def wZ{H:Hp}{a:Addr}{o:HO}:upd H a o a=some o:=by unfold upd;rw[if_pos rfl]
def xW{H:Hp}{a b:Addr}{o:HO}(h:b≠a):upd H a o b=H b:=by unfold upd;rw[if_neg h]
def wu{H:Hp}{a b:Addr}{o:HO}(h:H a=some o)(h':H b=none):a≠b:=by
 intro e;subst e;rw[h] at h';cases h'
section
variable (P:Program) (w:World)
def ObjOk(H:Hp)(h:Heap)(a:Addr):HO->Prop
 |.lst xs=>xs.length<=sizeLine/\∃(its:List Value) (n:Nat),Vals xs its/\h.get? a=some { cls:=.type "list",data:=.seq its.toArray n }
 |.tup xs=>xs.length<=sizeLine/\∃its:List Value,Vals xs its/\IsTup h a its.toArray
 |.dK kvs=>kvs.length<=sizeLine/\(a == sysModules)=false/\∃vs,KV kvs vs/\h.DictOf (yS P w) a vs
 | .dT kvs => kvs.length <= sizeLine /\ (a == sysModules) = false /\ ∃ xs : List (List Key × Addr × Value),
   Paired (fun(p:List Key × V) (q:List Key × Addr × Value)=>p.1=q.1/\H q.2.1=some (.tup (p.1.map kV))/\RelV p.2 q.2.2) kvs xs /\
   ∃o es ep,h.get? a=some o/\o.ExactDict/\o.data=.dict es ep/\es.toList=xs.map (entryOfKey (tupleKind (yS P w)))/\(xs.map (·.1)).Nodup
 |.set S n=>h.SetOf (intKind P w) a S n
 | .ins C dx fs => H dx = some (.own a) /\ fs.length <= 1000 /\ dx ≠ a /\ h.get? a = some (W.instObj C dx) /\
   ∃mA,h.Ns1 dx mA/\(∀f,RelO (fs.lookup f) (mA f))/\PySem.Within mA (fs.map (·.1))
 |.own _=>∃o,h.get? a=some o
 |.xd fs=>∃mA,h.Ns1 a mA/\∀f,RelO (fs.lookup f) (mA f)
 |.rng lo hi=>∃t u v,h.get? a=some { cls:=.type "range",data:=.fields #[.int lo t,.int hi u,.int 1 v] }
 |.frz o u=>h.get? a=some o/\ObjOk H h a u
 |.tbl ps=>h.get? a=some { cls:=.none,data:=.fields ps }
 |.met f x=>h.get? a=some (W.methodObj (.ref f) (.ref x))
 |.ext φ=>φ h/\(∃o,h.get? a=some o)/\∀h1 h2:Heap,φ h1->(∀o,h1.get? a=some o->h2.get? a=some o)->φ h2
def HOk(H:Hp)(h:Heap):Prop:=∀a o,H a=some o->ObjOk P w H h a o
end
section
variable {P:Program}{w:World}{H H':Hp}{h h':Heap}{a:Addr}{o:HO}
def ObjOk.lt(x:ObjOk P w H h a o):a<h.objs.size:=by
 cases o with
 |lst xs=>obtain⟨_,_,_,_,e⟩:=x;exact zt e
 |tup xs=>obtain⟨_,_,_,p⟩:=x;exact p.lt
 |dK kvs=>obtain⟨_,_,_,_,o,_,_,e,_⟩:=x;exact zt e
 |dT kvs=>obtain⟨_,_,_,_,o,_,_,e,_⟩:=x;exact zt e
 |set S n=>obtain⟨o,_,_,_,e,_⟩:=x;exact zt e
 |ins C dx fs=>obtain⟨_,_,_,e,_⟩:=x;exact zt e
 |own y=>obtain⟨_,e⟩:=x;exact zt e
 |xd fs=>obtain⟨_,⟨_,_,_,e,_⟩,_⟩:=x;exact zt e
 |rng lo hi=>obtain⟨_,_,_,e⟩:=x;exact zt e
 |frz ob u=>obtain⟨e,_⟩:=x;exact zt e
 |tbl ps=>exact zt (show h.get? a=some _ from x)
 |met f y=>exact zt (show h.get? a=some _ from x)
 |ext φ=>obtain⟨_,⟨_,e⟩,_⟩:=x;exact zt e
theorem Paired.mapP{α β:Type}{F G:α->β->Prop}:∀{l₁:List α}{l₂:List β},Paired F l₁ l₂->(∀a b,F a b->G a b)->Paired G l₁ l₂
 |_,_,.nil,_=>.nil
 |_,_,.cons r t,f=>.cons (f _ _ r) (Paired.mapP t f)
def ObjOk.stay(x:ObjOk P w H h a o)(k:∀b u,(b=a\/H b=some (.own a))->h.get? b=some u->h'.get? b=some u)
  (ho:∀b,H b=some (.own a)->H' b=some (.own a)) (ht:∀b xs,H b=some (.tup xs)->H' b=some (.tup xs)):ObjOk P w H' h' a o:=by
 induction o with
 |lst xs=>obtain⟨z,its,n,r,e⟩:=x;exact⟨z,its,n,r,k _ _ (.inl rfl) e⟩
 |tup xs=>obtain⟨z,its,r,ob,e,c⟩:=x;exact⟨z,its,r,ob,k _ _ (.inl rfl) e,c⟩
 |dK kvs=>obtain⟨z,y,vs,r,ob,es,ep,e,c⟩:=x;exact⟨z,y,vs,r,ob,es,ep,k _ _ (.inl rfl) e,c⟩
 |dT kvs=>
  obtain⟨z,y,xs,r,ob,es,ep,e,c⟩:=x;exact⟨z,y,xs,Paired.mapP r λp q z=>⟨z.1,ht _ _ z.2.1,z.2.2⟩,ob,es,ep,k _ _ (.inl rfl) e,c⟩
 |set S n=>obtain⟨ob,es,ep,t,e,c⟩:=x;exact⟨ob,es,ep,t,k _ _ (.inl rfl) e,c⟩
 |ins C dx fs=>
  obtain⟨d,z,ne,e,mA,⟨od,es,ep,e2,c⟩,r⟩:=x;exact⟨ho _ d,z,ne,k _ _ (.inl rfl) e,mA,⟨od,es,ep,k _ _ (.inr d) e2,c⟩,r⟩
 |own y=>obtain⟨ob,e⟩:=x;exact⟨ob,k _ _ (.inl rfl) e⟩
 |xd fs=>obtain⟨mA,⟨od,es,ep,e,c⟩,r⟩:=x;exact⟨mA,⟨od,es,ep,k _ _ (.inl rfl) e,c⟩,r⟩
 |rng lo hi=>obtain⟨t,u,v,e⟩:=x;exact⟨t,u,v,k _ _ (.inl rfl) e⟩
 |frz ob u ih=>obtain⟨e,q⟩:=x;exact⟨k _ _ (.inl rfl) e,ih q⟩
 |tbl ps=>
  have e:h.get? a=some { cls:=.none,data:=.fields ps }:=x;show h'.get? a=some { cls:=.none,data:=.fields ps };exact k a _ (.inl rfl) e
 |met f y=>
  have e:h.get? a=some (W.methodObj (.ref f) (.ref y)):=x;show h'.get? a=some (W.methodObj (.ref f) (.ref y));exact k a _ (.inl rfl) e
 |ext φ=>obtain⟨p,⟨o,e⟩,st⟩:=x;exact⟨st _ _ p λo q=>k _ _ (.inl rfl) q,⟨o,k _ _ (.inl rfl) e⟩,st⟩
def HOk.lt(x:HOk P w H h)(e:H a=some o):a<h.objs.size:=(x a o e).lt
def HOk.fresh(x:HOk P w H h)(e:h.objs.size<=a):H a=none:=by
 cases q:H a with
 |none=>rfl
 |some u=>exact absurd (zD (x.lt q) e) (xx _)
def HOk.kept(x:HOk P w H h)(k:∀b u,h.get? b=some u->h'.get? b=some u):HOk P w H h':=λa o e=>
 (x a o e).stay (λb u _ q=>k b u q) (λ_ q=>q) λ_ _ q=>q
def HOk.laid(x:HOk P w H h)(k:∀b u,h.get? b=some u->h'.get? b=some u)(hp:h.objs.size<=a)(new:ObjOk P w (upd H a o) h' a o):HOk P w (upd H a o) h':=λb u e=>by
 have hn:=x.fresh hp
 by_cases hb:b=a
 ·subst hb;rw[wZ] at e;cases e;exact new
 ·rw [xW hb] at e
  exact(x b u e).stay (λc v _ q=>k c v q) (λc q=>by rw[xW (wu q hn)];exact q) λc xs q=>by rw[xW (wu q hn)];exact q
end
def Rd(H:Hp)(a:Addr)(u:HO):Prop:=H a=some u\/∃o,H a=some (.frz o u)
def Rd.ok{P:Program}{w:World}{H:Hp}{h:Heap}{a:Addr}{u:HO}(r:Rd H a u)(x:HOk P w H h):ObjOk P w H h a u:=by
 rcases r with r |⟨o,r⟩
 ·exact x a u r
 ·obtain⟨_,q⟩:=x a _ r;exact q
def Mut:Option HO->Prop
 |some (.lst _)=>True
 |some (.dK _)=>True
 |some (.dT _)=>True
 |some (.set _ _)=>True
 |some (.ins _ _ _)=>True
 |some (.ext _)=>True
 |_=>False
section
variable {P:Program}{w:World}{H:Hp}{h h':Heap}{x e:Addr}{o':HO}
def HOk.write(ok:HOk P w H h)(mu:Mut (H x))(he:e=x\/H e=some (.own x))(k:∀b u,b≠e->h.get? b=some u->h'.get? b=some u)(heo:∃u,h'.get? e=some u)
  (new:ObjOk P w (upd H x o') h' x o'):HOk P w (upd H x o') h':=λb u q=>by
 have nown:∀c y,H c=some (.own y)->c≠x:=λc y r z=>by subst z;rw[r] at mu;exact mu
 have ntup:∀c xs,H c=some (.tup xs)->c≠x:=λc xs r z=>by subst z;rw[r] at mu;exact mu
 by_cases hb:b=x
 ·subst hb;rw[wZ] at q;cases q;exact new
 ·rw [xW hb] at q
  by_cases hbe:b=e
  ·have q' : H b = some (.own x) := by
    rcases he with z |z
    ·exact absurd (hbe.trans z) hb
    ·rw[hbe];exact z
   rw[q] at q';cases q';obtain⟨v,hv⟩:=heo
   exact⟨v,by rw[hbe];exact hv⟩
  ·refine (ok b u q).stay (λc v hc r => k c v ?_ r) (λc r => by rw [xW (nown c b r)]; exact r) λc xs r => by rw [xW (ntup c xs r)]; exact r
   rcases hc with rfl |hc
   ·exact hbe
   ·rintro rfl
    rcases he with z |z
    ·exact nown c b hc z
    ·rw[hc] at z;cases z;exact hb rfl
end
structure Un(fs ex:List Addr)(H H':Hp)(h h':Heap):Prop where
 keep:∀b o,h.get? b=some o->H b=none->b ∉ fs->b ∉ ex->h'.get? b=some o
 slot:∀b o,h.get? b=some o->H b=none->b∈fs->b ∉ ex->∃sl,h'.get? b=some { o with slots:=sl }
 free:∀b o,h.get? b=some o->H b=none->b ∉ ex->H' b=none
 there:∀b o,h.get? b=some o->b ∉ ex->∃o',h'.get? b=some o'
 tups:∀b xs,H b=some (.tup xs)->H' b=some (.tup xs)
 frzs:∀b o u,H b=some (.frz o u)->H' b=some (.frz o u)
 tbls:∀b ps,H b=some (.tbl ps)->∃more,H' b=some (.tbl (ps++more))
section
variable {fs fs' ex ex':List Addr}{H H1 H2:Hp}{h h1 h2 h':Heap}{a x e:Addr}{o:HO}
def Un.any(u:Un fs ex H H1 h h1){b:Addr}{ob:Obj}(q:h.get? b=some ob)(n:H b=none)(hx:b ∉ ex):∃sl,h1.get? b=some { ob with slots:=sl }:=by
 by_cases hb:b∈fs
 ·exact u.slot b ob q n hb hx
 ·exact⟨ob.slots,u.keep b ob q n hb hx⟩
def Un.trans(a:Un fs ex H H1 h h1)(b:Un fs ex H1 H2 h1 h2):Un fs ex H H2 h h2 where
 keep:=λc ob q n hc hx=>b.keep c ob (a.keep c ob q n hc hx) (a.free c ob q n hx) hc hx
 slot:=λc ob q n hc hx=>by
  obtain⟨sl,e1⟩:=a.slot c ob q n hc hx;obtain⟨sl',e2⟩:=b.slot c _ e1 (a.free c ob q n hx) hc hx;exact⟨sl',e2⟩
 free:=λc ob q n hx=>by
  obtain⟨o',e1⟩:=a.there c ob q hx;exact b.free c o' e1 (a.free c ob q n hx) hx
 there:=λc ob q hx=>by
  obtain⟨o',e1⟩:=a.there c ob q hx;exact b.there c o' e1 hx
 tups:=λc xs q=>b.tups c xs (a.tups c xs q)
 frzs:=λc ob xs q=>b.frzs c ob xs (a.frzs c ob xs q)
 tbls:=λc ps q=>by
  obtain⟨m1,e1⟩:=a.tbls c ps q;obtain⟨m2,e2⟩:=b.tbls c _ e1
  exact⟨m1++m2,by rw[e2,Array.append_assoc]⟩
def Un.kept(k:∀b u,h.get? b=some u->h'.get? b=some u):Un fs ex H H h h':=
 ⟨λb ob q _ _ _=>k b ob q,λb ob q _ _ _=>⟨ob.slots,k b ob q⟩,λ_ _ _ n _=>n,λb ob q _=>⟨ob,k b ob q⟩,λ_ _ q=>q,λ_ _ _ q=>q,λ_ ps q=>⟨#[],by rw[q];simp⟩⟩
def Un.refl:Un fs ex H H h h:=Un.kept λ_ _ q=>q
def Un.laid(k:∀b u,h.get? b=some u->h'.get? b=some u)(hp:h.objs.size<=a)(hn:H a=none):Un fs ex H (upd H a o) h h' where
 keep:=λb u q _ _ _=>k b u q
 slot:=λb u q _ _ _=>⟨u.slots,k b u q⟩
 free:=λb u q n _=>by rw[xW (zG (zD (zt q) hp))];exact n
 there:=λb u q _=>⟨u,k b u q⟩
 tups:=λb xs q=>by rw[xW (wu q hn)];exact q
 frzs:=λb u xs q=>by rw[xW (wu q hn)];exact q
 tbls:=λb ps q=>⟨#[],by rw[xW (wu q hn),q];simp⟩
def Un.write(mu:Mut (H x))(he:e=x\/H e=some (.own x))(k:∀b u,b≠e->h.get? b=some u->h'.get? b=some u)(heo:∃u,h'.get? e=some u):Un fs ex H (upd H x o) h h':=by
 have hx:∀b,H b=none->b≠x:=λb n z=>by subst z;rw[n] at mu;exact mu
 have hb:∀b,H b=none->b≠e:=λb n z=>by
  subst z
  rcases he with r |r
  ·exact hx b n r
  ·rw[n] at r;cases r
 have hm:∀b u,H b=some u->¬ Mut (some u)->b≠x:=λb u q nm z=>by subst z;rw[q] at mu;exact nm mu
 refine⟨λb u q n _ _=>k b u (hb b n) q,λb u q n _ _=>⟨u.slots,k b u (hb b n) q⟩,λb u q n _=>by rw[xW (hx b n)];exact n,λb u q _=>?_,
  λb xs q=>by rw[xW (hm b _ q λz=>z)];exact q,λb u xs q=>by rw[xW (hm b _ q λz=>z)];exact q,λb ps q=>⟨#[],by rw[xW (hm b _ q λz=>z),q];simp⟩⟩
 by_cases hbe:b=e
 ·subst hbe;exact heo
 ·exact⟨u,k b u hbe q⟩
end
def trk(h:Heap)(H:Hp):List Addr:=(List.range h.objs.size).filter λa=>(H a).isSome
def zx0(h:Heap)(H:Hp):Heap:=W.hideAll h (trk h H)
def zk9(h:Heap)(H:Hp):(zx0 h H).objs.size=h.objs.size:=W.hideAll_size _ _
def zw9{h:Heap}{H:Hp}{b:Addr}{o:Obj}(e:h.get? b=some o)(n:H b=none):(zx0 h H).get? b=some o:=
 PySem.W.hideAll_get _ e λhm=>by
  have q:(H b).isSome=true:=(xf.mp hm).2;rw[n] at q;simp at q
def zL7{h:Heap}{H:Hp}{b:Addr}{o:Obj}(e:(zx0 h H).get? b=some o):h.get? b=some o/\H b=none:=by
 have e':h.get? b=some o:=W.of_hideAll (trk h H) e;refine⟨e',?_⟩
 cases q:H b with
 |none=>rfl
 |some x=>
  have hm:b∈trk h H:=xf.mpr ⟨List.mem_range.mpr (zt e'),by simp[q]⟩
  have z:(zx0 h H).get? b=none:=W.hideAll_none (trk h H) hm;rw[z] at e;cases e
def zO8(g h:Heap)(L:Addr):List (Addr × Obj):=(List.range h.objs.size).filterMap λa=>if a=L\/(g.get? a).isSome=true then none else(h.get? a).map λo=>(a,o)
def rest(g h:Heap)(L d:Addr):List (Addr × Obj):=(zO8 g h L).filter λp=>decide (p.1≠d)
structure Mod(K:W.Frag)(mg:Str->Option Value)(base:Heap):Prop where
 kin:K.In base
 glob:base.Ns mainGlobals mg
 blt:∃mb,base.Ns builtinsNs mb/\∀x:Str,x ≠ "__name__" -> mb x=bootBuiltins x
 nolimit:base.NoLimit
structure Cx where
 prog:Program
 w:World
 K:W.Frag
 mg:Str->Option Value
 base:Heap
 A:Around
 N:List Str
 s₀:Shared
 H₀:Hp
 env:Env
 outer:List Env
 stack:List Env
 ex:List Addr
 fn:Str->Bool
 calm:Bool
 pn:List (Addr × Obj)
 xe:Value->Shared->Prop
def frs(l:List Env):List Addr:=l.filterMap (·.frame)
abbrev Cx.fs(X:Cx):List Addr:=frs X.outer
def Vis(sc:Scope)(x:Str):Prop:=sc.names.lookup x=some .local\/sc.names.lookup x=some .cell\/sc.names.lookup x=some .free
def Loc(sc:Scope)(x:Str):Prop:=sc.names.lookup x=some .local\/sc.names.lookup x=some .cell
def xB9(env:Env)(h:Heap)(m:Str->Option Value)(x:Str)(u:Value):Prop:=
 (env.kindOf x=some .local/\m x=some u)\/((env.kindOf x=some .cell\/env.kindOf x=some .free)/\∃c,env.cells.lookup x=some c/\h.IsCell c (some u))
structure Cx.Ok(X:Cx):Prop where
 mod:Mod X.K X.mg X.base
 kind:X.env.scope.kind=.function
 glob:X.env.globals=mainGlobals
 blt:X.env.builtins=builtinsNs
 above:X.s₀.heap.objs.size<=X.env.locals
 inj:∀x y c,X.env.cells.lookup x=some c->X.env.cells.lookup y=some c->x=y
 has:∀x,(X.env.kindOf x=some .cell\/X.env.kindOf x=some .free)->∃c,X.env.cells.lookup x=some c
 cab:∀x c,X.fn x=true->X.env.cells.lookup x=some c->X.s₀.heap.objs.size<=c
 hd:X.calm=true->X.A.handled=none
 frames:X.A.frames=some X.stack
 stk:X.stack=X.outer\/(X.stack=X.env::X.outer/\X.env.frame=some X.env.locals)
 exf:∀b∈X.ex,b≠X.env.locals/\∀x c,X.env.cells.lookup x=some c->c≠b
 bs:∀b o,X.base.get? b=some o->X.s₀.heap.get? b=some o/\X.H₀ b=none
 bsz:X.base.objs.size<=X.s₀.heap.objs.size
 noex:∀b o,X.base.get? b=some o->b ∉ X.ex
 exfs:∀b∈X.ex,b ∉ X.fs
 funs:X.s₀.heap.FunFrames X.base X.outer
 frf:∀b∈X.fs,X.H₀ b=none
structure Inv(X:Cx)(pins:List (Addr × Obj))(σ:List (Option V))(H:Hp)(s:Shared):Prop where
 ok:X.Ok
 os:s.os=X.s₀.os
 bare:AllBare s.gens
 base:Un X.fs X.ex X.H₀ H X.s₀.heap s.heap
 loc:∃m,s.heap.Ns X.env.locals m/\∀(i:Nat) (x:Str) (v:V),X.N[i]?=some x->σ[i]?=some (some v)->Vis X.env.scope x->∃u,RelV v u/\xB9 X.env s.heap m x u
 cell:∀x c,X.env.cells.lookup x=some c->∃v,s.heap.IsCell c v
 free:H X.env.locals=none
 freeC:∀x c,X.env.cells.lookup x=some c->H c=none
 pin:∀p∈X.pn++pins,s.heap.get? p.1=some p.2/\H p.1=none/\p.1≠X.env.locals/\p.1 ∉ X.fs/\∀v,p.2.data≠.cell v
 hok:HOk X.prog X.w H s.heap
 len:σ.length=X.N.length
section
variable {X:Cx}{pins:List (Addr × Obj)}{σ:List (Option V)}{H H':Hp}{s:Shared}{h':Heap}
def Cx.Ok.nofr(ok:X.Ok){b:Addr}{o:Obj}(e:X.base.get? b=some o):b ∉ X.fs:=λhb=>by
 have:=(ok.funs.mem hb).1;rw[e] at this;cases this
def Inv.bs(I:Inv X pins σ H s):∀b o,X.base.get? b=some o->s.heap.get? b=some o/\H b=none:=λb o e=>
 ⟨I.base.keep b o (I.ok.bs b o e).1 (I.ok.bs b o e).2 (I.ok.nofr e) (I.ok.noex b o e),I.base.free b o (I.ok.bs b o e).1 (I.ok.bs b o e).2 (I.ok.noex b o e)⟩
def Inv.bk(I:Inv X pins σ H s):∀b o,X.base.get? b=some o->s.heap.get? b=some o:=λb o e=>(I.bs b o e).1
def Inv.mod(I:Inv X pins σ H s):Mod X.K X.mg X.base:=I.ok.mod
def Inv.kIn(I:Inv X pins σ H s):X.K.In s.heap:=I.ok.mod.kin.keeps I.bk
def Inv.lt(I:Inv X pins σ H s):X.env.locals<s.heap.objs.size:=let ⟨_,hn,_⟩:=I.loc;hn.lt
def Inv.sz(I:Inv X pins σ H s):X.s₀.heap.objs.size<=s.heap.objs.size:=zm I.ok.above (Nat.le_of_lt I.lt)
def Inv.nofs(I:Inv X pins σ H s){a:Addr}(h:s.heap.objs.size<=a):a ∉ X.fs:=λhb=>by
 obtain⟨_,o,ho,_⟩:=I.ok.funs.mem hb;exact absurd (zD (zt ho) (zm I.sz h)) (xx _)
def Inv.cne(I:Inv X pins σ H s):∀x c,X.env.cells.lookup x=some c->c≠X.env.locals:=λx c e z=>by
 obtain⟨v,o,ho,hd⟩:=I.cell x c e;obtain⟨m,⟨o',es,ep,ho',hd',_⟩,_⟩:=I.loc;rw[z,ho'] at ho;cases ho;rw[hd'] at hd;cases hd
def Inv.funs(I:Inv X pins σ H s):s.heap.FunFrames X.base X.outer:=by
 have all:∀(l:List Env),(∀b∈frs l,b∈X.fs)->X.s₀.heap.FunFrames X.base l->s.heap.FunFrames X.base l:=by
  intro l
  induction l with
  |nil=>intro _ _;trivial
  |cons env r ih=>
   intro hs hl;obtain⟨hk,⟨L,o,hf,hn,ho,hd⟩,hr⟩:=hl
   have hL:L∈X.fs:=hs L (by unfold frs;rw[wg,hf];exact xi)
   obtain⟨sl,e⟩:=I.base.slot L o ho (I.ok.frf L hL) hL λz=>I.ok.exfs L z hL
   exact⟨hk,⟨L,_,hf,hn,e,hd⟩,ih (λb hb=>hs b (by unfold frs;rw[wg,hf];exact zh _ hb)) hr⟩
 exact all X.outer (λ_ hb=>hb) I.ok.funs
def Inv.stack(I:Inv X pins σ H s):s.heap.FunFrames X.base X.stack:=by
 rcases I.ok.stk with e |⟨e,hf⟩
 ·rw[e];exact I.funs
 ·rw [e];obtain⟨m,hn,_⟩:=I.loc
  refine .cons (by rw[I.ok.kind];decide) hf hn ?_ I.funs
  exact wL (zm I.ok.bsz I.ok.above)
def Inv.stkSub(I:Inv X pins σ H s):∀b∈frs X.stack,b∈X.env.locals::X.fs:=λb hb=>by
 rcases I.ok.stk with e |⟨e,hf⟩
 ·rw[e] at hb;exact zh _ hb
 ·rw[e] at hb;unfold frs at hb;rw[wg,hf] at hb;exact hb
def Inv.stkFree(I:Inv X pins σ H s):∀b∈frs X.stack,H b=none:=λb hb=>by
 rcases zi.mp (I.stkSub b hb) with e |hb
 ·rw[e];exact I.free
 ·obtain⟨_,o,ho,_⟩:=I.ok.funs.mem hb;exact I.base.free b o ho (I.ok.frf b hb) λz=>I.ok.exfs b z hb
def Inv.step{g':Array GenState}{t':Nat}{d':Drawn}{ch:List Addr}(I:Inv X pins σ H s)
  (hch:∀b∈ch,(b∈X.ex\/X.s₀.heap.objs.size<=b)/\b≠X.env.locals/\(∀x c,X.env.cells.lookup x=some c->c≠b)/\∀p∈X.pn++pins,p.1≠b)
  (keep:∀b o,b≠X.env.locals->b ∉ X.fs->b ∉ ch->s.heap.get? b=some o->H b=none->h'.get? b=some o)
  (slot:∀b o,b≠X.env.locals->b∈X.fs->b ∉ ch->s.heap.get? b=some o->H b=none->∃sl,h'.get? b=some { o with slots:=sl }) (free:∀b o,b ∉ ch->s.heap.get? b=some o->H b=none->H' b=none)
  (there:∀b o,b ∉ ch->s.heap.get? b=some o->∃o',h'.get? b=some o')
  (tups:∀b xs,H b=some (.tup xs)->H' b=some (.tup xs)) (frzs:∀b o u,H b=some (.frz o u)->H' b=some (.frz o u)) (tbls:∀b ps,H b=some (.tbl ps)->∃more,H' b=some (.tbl (ps++more)))
  (ns:∀m,s.heap.Ns X.env.locals m->h'.Ns X.env.locals m) (hok:HOk X.prog X.w H' h') (hg:AllBare g') :
  Inv X pins σ H' { s with heap:=h',gens:=g',drawn:=d',toks:=t' }:=by
 have neL:∀b o,X.s₀.heap.get? b=some o->b≠X.env.locals:=λb o e=>zG (zD (zt e) I.ok.above)
 have neC:∀b o,X.s₀.heap.get? b=some o->b ∉ X.ex->b ∉ ch:=λb o e hx hb=>by
  rcases(hch b hb).1 with z |z
  ·exact hx z
  ·exact absurd (zD (zt e) z) (xx _)
 have cellK:∀x c,X.env.cells.lookup x=some c->∀v,s.heap.IsCell c v->h'.IsCell c v:=λx c e v ⟨o,ho,hd⟩=>by
  have nch:c ∉ ch:=λz=>(hch c z).2.2.1 x c e rfl
  by_cases hc:c∈X.fs
  ·obtain⟨sl,q⟩:=slot c o (I.cne x c e) hc nch ho (I.freeC x c e);exact⟨_,q,hd⟩
  ·exact⟨o,keep c o (I.cne x c e) hc nch ho (I.freeC x c e),hd⟩
 refine⟨I.ok,I.os,hg,⟨λb o e n hb hx=>?_,λb o e n hb hx=>?_,λb o e n hx=>?_,λb o e hx=>?_,λb xs e=>tups b xs (I.base.tups b xs e),λb o xs e=>frzs b o xs (I.base.frzs b o xs e),λb ps e=>?_⟩,?_,λx c e=>?_,?_,λx c e=>?_,λp hp=>?_,hok,I.len⟩
 ·exact keep b o (neL b o e) hb (neC b o e hx) (I.base.keep b o e n hb hx) (I.base.free b o e n hx)
 ·obtain⟨sl,e1⟩:=I.base.slot b o e n hb hx;obtain⟨sl',e2⟩:=slot b _ (neL b o e) hb (neC b o e hx) e1 (I.base.free b o e n hx);exact⟨sl',e2⟩
 ·obtain⟨o',e1⟩:=I.base.there b o e hx;exact free b o' (neC b o e hx) e1 (I.base.free b o e n hx)
 ·obtain⟨o',e1⟩:=I.base.there b o e hx;exact there b o' (neC b o e hx) e1
 ·obtain ⟨m1, e1⟩ := I.base.tbls b ps e;obtain⟨m2,e2⟩:=tbls b _ e1
  exact⟨m1++m2,by rw[e2,Array.append_assoc]⟩
 ·obtain ⟨m, hn, hl⟩ := I.loc;refine⟨m,ns m hn,λi x v e1 e2 e3=>?_⟩;obtain⟨u,r,l⟩:=hl i x v e1 e2 e3;refine⟨u,r,?_⟩
  rcases l with l |⟨k,c,e,z⟩
  ·exact .inl l
  ·exact .inr ⟨k,c,e,cellK x c e _ z⟩
 ·obtain⟨v,z⟩:=I.cell x c e;exact⟨v,cellK x c e v z⟩
 ·obtain⟨m,⟨o,_,_,ho,_⟩,_⟩:=I.loc;exact free _ o (λz=>(hch _ z).2.1 rfl) ho I.free
 ·obtain⟨v,o,ho,hd⟩:=I.cell x c e;exact free c o (λz=>(hch c z).2.2.1 x c e rfl) ho (I.freeC x c e)
 ·obtain⟨e,n,ne,nf,d⟩:=I.pin p hp;have nch:p.1 ∉ ch:=λz=>(hch p.1 z).2.2.2 p hp rfl;exact⟨keep p.1 p.2 ne nf nch e n,free p.1 p.2 nch e n,ne,nf,d⟩
def Inv.un{t':Nat}(I:Inv X pins σ H s)(u:Un X.fs [] H H' s.heap h')(hok:HOk X.prog X.w H' h'):Inv X pins σ H' { s with heap:=h',toks:=t' }:=by
 obtain⟨m,⟨o,es,ep,ho,r⟩,_⟩:=id I.loc
 obtain⟨sl,hL⟩:=u.any ho I.free (by simp)
 exact I.step (g':=s.gens) (d':=s.drawn) (ch:=[]) (λ_ z=>nomatch z) (λb o _ hb _ e n=>u.keep b o e n hb (by simp)) (λb o _ hb _ e n=>u.slot b o e n hb (by simp)) (λb o _ e n=>u.free b o e n (by simp)) (λb o _ e=>u.there b o e (by simp)) u.tups u.frzs u.tbls (λm' hm=>by
  obtain⟨o',es',ep',ho',r'⟩:=hm;rw[ho] at ho';cases ho'
  exact⟨_,es',ep',hL,r'⟩) hok I.bare
def Inv.call{g':Array GenState}{t':Nat}{d':Drawn}{ch:List Addr}(I:Inv X pins σ H s)(u:Un (frs X.stack) ch H H' s.heap h')(hok:HOk X.prog X.w H' h')(hg:AllBare g')
  (hch:∀b∈ch,(b∈X.ex\/X.s₀.heap.objs.size<=b)/\b≠X.env.locals/\(∀x c,X.env.cells.lookup x=some c->c≠b)/\∀p∈X.pn++pins,p.1≠b) :
  Inv X pins σ H' { s with heap:=h',gens:=g',drawn:=d',toks:=t' }:=by
 obtain⟨m,⟨o,es,ep,ho,r⟩,_⟩:=id I.loc;obtain⟨sl,hL⟩:=u.any ho I.free λz=>(hch _ z).2.1 rfl
 exact I.step (ch:=ch) hch (λb o hL hb hc e n=>u.keep b o e n (λz=>(zi.mp (I.stkSub b z)).elim hL hb) hc) (λb o _ _ hc e n=>u.any e n hc) (λb o hc e n=>u.free b o e n hc) (λb o hc e=>u.there b o e hc) u.tups u.frzs u.tbls (λm' hm=>by
  obtain⟨o',es',ep',ho',r'⟩:=hm;rw[ho] at ho';cases ho'
  exact⟨_,es',ep',hL,r'⟩) hok hg
def Inv.turned{t':Nat}{it:Addr}(I:Inv X pins σ H s)(k:∀b o,b≠it->s.heap.get? b=some o->h'.get? b=some o)(hn:H it=none)(hL:it≠X.env.locals)
  (h1:it∈X.ex\/X.s₀.heap.objs.size<=it) (h2:∀x c,X.env.cells.lookup x=some c->c≠it) (h3:∀p∈X.pn++pins,p.1≠it):Inv X pins σ H { s with heap:=h',toks:=t' }:=by
 have nit:∀b u,H b=some u->b≠it:=λb u e z=>by rw[z,hn] at e;cases e
 refine I.step (g':=s.gens) (d':=s.drawn) (ch:=[it]) (λb hb=>?_) (λb o _ _ hc e _=>k b o (λz=>hc (by simp[z])) e) (λb o _ _ hc e _=>⟨o.slots,k b o (λz=>hc (by simp[z])) e⟩) (λ_ _ _ _ n=>n)
  (λb o hc e=>⟨o,k b o (λz=>hc (by simp[z])) e⟩) (λ_ _ e=>e) (λ_ _ _ e=>e) (λb ps e=>⟨#[],by rw[e];simp⟩) (λm hm=>?_) (λb u e=>?_) I.bare
 ·have e : b = it := by simpa using hb
  subst e;exact⟨h1,hL,h2,h3⟩
 ·obtain⟨o,es,ep,ho,r⟩:=hm;exact⟨o,es,ep,k _ o (Ne.symm hL) ho,r⟩
 ·refine (I.hok b u e).stay (λc v hc q => k c v ?_ q) (λ_ q => q) λ_ _ q => q
  rcases hc with z |z
  ·rw[z];exact nit b u e
  ·exact nit c _ z
def Inv.tok(I:Inv X pins σ H s)(t:Nat):Inv X pins σ H { s with toks:=t }:=I.un (h':=s.heap) (t':=t) Un.refl I.hok
def Inv.kept{t':Nat}(I:Inv X pins σ H s)(k:∀b u,s.heap.get? b=some u->h'.get? b=some u):Inv X pins σ H { s with heap:=h',toks:=t' }:=I.un (Un.kept k) (I.hok.kept k)
def Inv.laid{a:Addr}{o:HO}{t':Nat}(I:Inv X pins σ H s)(k:∀b u,s.heap.get? b=some u->h'.get? b=some u)(hp:s.heap.objs.size<=a)(new:ObjOk X.prog X.w (upd H a o) h' a o) :
  Inv X pins σ (upd H a o) { s with heap:=h',toks:=t' }:=I.un (Un.laid k hp (I.hok.fresh hp)) (I.hok.laid k hp new)
def Inv.write{x e:Addr}{o:HO}{t':Nat}(I:Inv X pins σ H s)(mu:Mut (H x))(he:e=x\/H e=some (.own x))(k:∀b u,b≠e->s.heap.get? b=some u->h'.get? b=some u)(heo:∃u,h'.get? e=some u)
  (new:ObjOk X.prog X.w (upd H x o) h' x o):Inv X pins σ (upd H x o) { s with heap:=h',toks:=t' }:=I.un (Un.write mu he k heo) (I.hok.write mu he k heo new)
def Inv.weak{σ':List (Option V)}(I:Inv X pins σ H s)(hl:σ'.length=σ.length)(w:∀(i:Nat) v,σ'[i]?=some (some v)->σ[i]?=some (some v)):Inv X pins σ' H s:=
 ⟨I.ok,I.os,I.bare,I.base,let ⟨m,hn,hl'⟩:=I.loc;⟨m,hn,λi x v e1 e2 e3=>hl' i x v e1 (w i v e2) e3⟩,I.cell,I.free,I.freeC,I.pin,I.hok,hl.trans I.len⟩
def Inv.pins_of{pins':List (Addr × Obj)}(I:Inv X pins σ H s)(h:∀p∈pins',s.heap.get? p.1=some p.2/\H p.1=none/\p.1≠X.env.locals/\p.1 ∉ X.fs/\∀v,p.2.data≠.cell v):Inv X pins' σ H s:=
 ⟨I.ok,I.os,I.bare,I.base,I.loc,I.cell,I.free,I.freeC,λp hp=>(xU.mp hp).elim (λz=>I.pin p (List.mem_append_left _ z)) (h p),I.hok,I.len⟩
def Vs{N:List Str}(hN:N.Nodup){i j:Nat}{x:Str}(a:N[i]?=some x)(b:N[j]?=some x):i=j:=by
 obtain⟨h1,e1⟩:=zM.mp a;obtain⟨h2,e2⟩:=zM.mp b;exact(List.getElem_inj hN).mp (e1.trans e2.symm)
def YY{M:Model}{A:Around}{E:Value->Shared->Prop}{i:Nat}{x:Str}{v:V}{u:Value}{Q:Unit->Shared->Prop}(I:Inv X pins σ H s)(hN:X.N.Nodup)(hi:X.N[i]?=some x)(hx:Loc X.env.scope x)(r:RelV v u)
  (h:∀s',Inv X pins (σ.set i (some v)) H s'->(∃a,Heap.SameBut a s.heap s'.heap/\(a=X.env.locals\/X.env.cells.lookup x=some a))->Q () s') (hf:X.fn x=true\/X.env.scope.names.lookup x=some .local:=by first |exact .inl rfl |exact .inr rfl |assumption):wpAny M A (storeName X.env x u) Q E s:=by
 obtain⟨m,hn,hl⟩:=id I.loc
 have hcls:(X.env.scope.kind == .class||(X.env.scope.kind == .module&&X.env.locals != X.env.globals))=false:=by rw[I.ok.kind];rfl
 have hiσ:i<σ.length:=by rw[I.len];exact(zM.mp hi).1
 have cne:=I.cne
 have tracked:∀{a:Addr}{h':Heap},(∃o,s.heap.get? a=some o/\H a=none)->Heap.SameBut a s.heap h'->HOk X.prog X.w H h':=λ{a h'} ha hs b ob e=>by
  obtain⟨_,_,hfree⟩:=ha;refine(I.hok b ob e).stay (λc w' hc q=>(hs.2 c ?_).trans q) (λ_ q=>q) λ_ _ q=>q;rintro rfl
  rcases hc with rfl |hc
  ·rw[hfree] at e;cases e
  ·rw[hfree] at hc;cases hc
 rcases hx with hk |hk
 ·refine wpAny_storeName_local hk hn (λh' hn' hs => ?_) hcls;obtain⟨oL,_,_,hoL,_⟩:=id hn
  refine h _ ⟨I.ok,I.os,I.bare,⟨λb o e n hb hx=>?_,λb o e n hb hx=>?_,I.base.free,λb o e hx=>?_,I.base.tups,I.base.frzs,I.base.tbls⟩,⟨_,hn',λj y v' e1 e2 e3=>?_⟩,λy c e=>?_,I.free,I.freeC,λp hp=>?_,tracked ⟨oL,hoL,I.free⟩ hs,by simpa using I.len⟩ ⟨_,hs,.inl rfl⟩
  ·exact(hs.2 b (zG (zD (zt e) I.ok.above))).trans (I.base.keep b o e n hb hx)
  ·obtain⟨sl,e1⟩:=I.base.slot b o e n hb hx;exact⟨sl,(hs.2 b (zG (zD (zt e) I.ok.above))).trans e1⟩
  ·obtain⟨o',e1⟩:=I.base.there b o e hx;exact⟨o',(hs.2 b (zG (zD (zt e) I.ok.above))).trans e1⟩
  ·by_cases hj : j = i
   ·subst hj;rw[hi] at e1;cases e1;rw[zU hiσ] at e2;cases e2
    exact⟨u,r,.inl ⟨hk,by simp⟩⟩
   ·rw [zW (Ne.symm hj)] at e2;obtain⟨u',r',q⟩:=hl j y v' e1 e2 e3;refine⟨u',r',?_⟩
    rcases q with ⟨k,e⟩ |⟨k,c,e,z⟩
    ·refine .inl ⟨k,?_⟩;have:y≠x:=λe=>hj (Vs hN e1 (e ▸ hi));simp[this,e]
    ·exact .inr ⟨k,c,e,z.sameBut hs (cne y c e)⟩
  ·obtain⟨w',z⟩:=I.cell y c e;exact⟨w',z.sameBut hs (cne y c e)⟩
  ·obtain⟨e,n,ne,nf,d⟩:=I.pin p hp;exact⟨(hs.2 p.1 ne).trans e,n,ne,nf,d⟩
 ·have hfn : X.fn x = true := by
   rcases hf with z |z
   ·exact z
   ·rw[z] at hk;cases hk
  obtain⟨c,hc⟩:=I.ok.has x (.inl hk);obtain⟨w',z⟩:=I.cell x c hc;refine wpAny_storeName_cell I.ok.kind hk hc z (λh' hc' hs=>?_);obtain⟨oc,hoc,hocd⟩:=id z
  refine h { s with heap:=h' } ⟨I.ok,I.os,I.bare,⟨λb o e n hb hx=>?_,λb o e n hb hx=>?_,I.base.free,λb o e hx=>?_,I.base.tups,I.base.frzs,I.base.tbls⟩,⟨m,hn.sameBut hs (Ne.symm (cne x c hc)),λj y v' e1 e2 e3=>?_⟩,λy c' e=>?_,I.free,I.freeC,λp hp=>?_,tracked ⟨oc,hoc,I.freeC x c hc⟩ hs,by simpa using I.len⟩ ⟨c,hs,.inr hc⟩
  ·exact(hs.2 b (zG (zD (zt e) (I.ok.cab x c hfn hc)))).trans (I.base.keep b o e n hb hx)
  ·obtain⟨sl,e1⟩:=I.base.slot b o e n hb hx;exact⟨sl,(hs.2 b (zG (zD (zt e) (I.ok.cab x c hfn hc)))).trans e1⟩
  ·obtain⟨o',e1⟩:=I.base.there b o e hx;exact⟨o',(hs.2 b (zG (zD (zt e) (I.ok.cab x c hfn hc)))).trans e1⟩
  ·by_cases hj : j = i
   ·subst hj;rw[hi] at e1;cases e1;rw[zU hiσ] at e2;cases e2;exact⟨u,r,.inr ⟨.inl hk,c,hc,hc'⟩⟩
   ·rw [zW (Ne.symm hj)] at e2;obtain⟨u',r',q⟩:=hl j y v' e1 e2 e3;refine⟨u',r',?_⟩
    rcases q with q |⟨k,c',e,z'⟩
    ·exact .inl q
    ·refine .inr ⟨k,c',e,z'.sameBut hs ?_⟩;rintro rfl;exact hj (Vs hN e1 (I.ok.inj _ _ _ e hc ▸ hi))
  ·by_cases hcc : c' = c
   ·subst hcc;exact⟨_,hc'⟩
   ·obtain⟨w2,z2⟩:=I.cell y c' e;exact⟨w2,z2.sameBut hs hcc⟩
  ·obtain ⟨e, n, ne, nf, d⟩ := I.pin p hp;refine⟨(hs.2 p.1 ?_).trans e,n,ne,nf,d⟩;intro q;rw[q,hoc] at e;have q':oc=p.2:=xk e
   exact d w' (by rw[<- q'];exact hocd)
def vW{M:Model}{A:Around}{E:Value->Shared->Prop}{i:Nat}{x:Str}{v:V}{u:Value}{Q:Unit->Shared->Prop}(I:Inv X pins σ H s)(hN:X.N.Nodup)(hi:X.N[i]?=some x)(hx:Loc X.env.scope x)(r:RelV v u)
  (h:∀s',Inv X pins (σ.set i (some v)) H s'->Q () s') (hf:X.fn x=true\/X.env.scope.names.lookup x=some .local:=by first |exact .inl rfl |exact .inr rfl |assumption):wpAny M A (storeName X.env x u) Q E s:=
 YY I hN hi hx r (λs' I' _=>h s' I') hf
def Inv.call'{s':Shared}{ch:List Addr}(I:Inv X pins σ H s)(ho:s'.os=s.os)(u:Un (frs X.stack) ch H H' s.heap s'.heap)(hok:HOk X.prog X.w H' s'.heap)(hg:AllBare s'.gens)
  (hch:∀b∈ch,(b∈X.ex\/X.s₀.heap.objs.size<=b)/\b≠X.env.locals/\(∀x c,X.env.cells.lookup x=some c->c≠b)/\∀p∈X.pn++pins,p.1≠b):Inv X pins σ H' s':=by
 obtain⟨h',g',d',t',o'⟩:=s';have e:o'=s.os:=ho;subst e;exact I.call (g':=g') (t':=t') (d':=d') u hok hg hch
end
abbrev XK:=Value->Option Addr->Hp->Prop
abbrev St:=List (Option V)
abbrev VK:=V->Hp->Prop
abbrev TE:=St->Hp->VK->Prop
abbrev TT:=St->Hp->(Bool->Hp->Prop)->Prop
abbrev TA:=St->Hp->(List V->Hp->Prop)->Prop
structure Ends where
 nx:St->Hp->Prop
 rt:VK
 bk:St->Hp->Prop:=λ_ _=>False
 ct:St->Hp->Prop:=λ_ _=>False
abbrev TS:=Ends->St->Hp->Prop
def EP(X:Cx)(pins:List (Addr × Obj))(σ:St)(Q:VK)(u:Value)(s':Shared):Prop:=∃v H',Inv X pins σ H' s'/\RelV v u/\Q v H'
def TP(X:Cx)(pins:List (Addr × Obj))(σ:St)(Q:Bool->Hp->Prop)(b:Bool)(s':Shared):Prop:=∃H',Inv X pins σ H' s'/\Q b H'
def AP(X:Cx)(pins:List (Addr × Obj))(σ:St)(Q:List V->Hp->Prop)(us:List Value)(s':Shared):Prop:=∃vs H',Inv X pins σ H' s'/\Vals vs us/\Q vs H'
def SP(X:Cx)(pins:List (Addr × Obj))(D:Ends)(f:Flow)(s':Shared):Prop:=
 match f with
 |.next=>∃σ' H',Inv X pins σ' H' s'/\D.nx σ' H'
 |.brk=>∃σ' H',Inv X pins σ' H' s'/\D.bk σ' H'
 |.cont=>∃σ' H',Inv X pins σ' H' s'/\D.ct σ' H'
 |.ret u=>∃v σ' H',Inv X pins σ' H' s'/\RelV v u/\D.rt v H'
def PE(X:Cx)(e:Expr)(t:TE):Prop:=
 ∀(pins:List (Addr × Obj)) (s:Shared) (σ:St) (H:Hp) (Q:VK),Inv X pins σ H s->t σ H Q->wpAny (model X.prog X.w) X.A (eval e X.env) (EP X pins σ Q) X.xe s
def PT(X:Cx)(e:Expr)(t:TT):Prop:=
 ∀(pins:List (Addr × Obj)) (s:Shared) (σ:St) (H:Hp) (Q:Bool->Hp->Prop),Inv X pins σ H s->t σ H Q->wpAny (model X.prog X.w) X.A (isTrue e X.env (eval e X.env)) (TP X pins σ Q) X.xe s
def PW(X:Cx)(e:Expr)(t:TT):Prop:=
 ∀(whole:Sem Value) (pins:List (Addr × Obj)) (s:Shared) (σ:St) (H:Hp) (Q:Bool->Hp->Prop),Inv X pins σ H s->t σ H Q->wpAny (model X.prog X.w) X.A (isTrue e X.env whole) (TP X pins σ Q) X.xe s
def PW.pt{X:Cx}{e:Expr}{t:TT}(h:PW X e t):PT X e t:=h _
def PA(X:Cx)(es:List Expr)(t:TA):Prop:=
 ∀(pos:Pos) (pins:List (Addr × Obj)) (s:Shared) (σ:St) (H:Hp) (Q:List V->Hp->Prop),Inv X pins σ H s->t σ H Q->wpAny (model X.prog X.w) X.A (spliced (backTo pos (starEach es X.env))) (AP X pins σ Q) X.xe s
def PS(X:Cx)(st:Stmt)(t:TS):Prop:=
 ∀(pins:List (Addr × Obj)) (s:Shared) (σ:St) (H:Hp) (D:Ends),Inv X pins σ H s->t D σ H->wpAny (model X.prog X.w) X.A (exec st X.env) (SP X pins D) X.xe s
def PSs(X:Cx)(st:List Stmt)(t:TS):Prop:=
 ∀(pins:List (Addr × Obj)) (s:Shared) (σ:St) (H:Hp) (D:Ends),Inv X pins σ H s->t D σ H->wpAny (model X.prog X.w) X.A (execs st X.env) (SP X pins D) X.xe s
def thn{α:Type}{t:Sem α}{Q Q':α->Shared->Prop}{M:Model}{A:Around}{E:Value->Shared->Prop}{s:Shared}(h:wpAny M A t Q E s)(hQ:∀a s,Q a s->Q' a s):wpAny M A t Q' E s:=wa h hQ λ_ _ x=>x
section
variable {X:Cx}
def xn6(i:Nat):TE:=λσ H Q=>∃v,σ[i]?=some (some v)/\Q v H
def tC(v:V):TE:=λ_ H Q=>Q v H
def Xl{i:Nat}{x:Str}{pos:Pos}(hN:X.N[i]?=some x)(hv:Vis X.env.scope x)(hd:(x == ("__debug__" : Str))=false:=by decide)(hcd:(x == ("__classdict__" : Str))=false:=by decide):PE X (.Name x pos) (xn6 i):=by
 intro pins s σ H Q I h;obtain⟨v,e,h⟩:=h;obtain⟨m,hn,hl⟩:=I.loc;obtain⟨u,r,l⟩:=hl i x v hN e hv;have fin:EP X pins σ Q u s:=⟨v,H,I,r,h⟩
 rcases l with ⟨hk,hm⟩ |⟨hk,c,hc,hcell⟩
 ·exact wpAny_Name (wpAny_loadName_local I.ok.kind hk hn hm fin) hd
 ·rcases hk with hk | hk
  ·exact wpAny_Name (wpAny_loadName_cell I.ok.kind hk hc hcell fin) hd
  ·exact wpAny_Name (wpAny_loadName_free I.ok.kind hk hc hcell fin hcd) hd
def qV{i j pos}:PE X (.Constant (.int i) j pos) (tC (.int i)):=λ_ _ _ H _ I h=>wpAny_Constant_int ⟨.int i,H,I.tok _,⟨_,rfl⟩,h⟩
def xl7{b j pos}:PE X (.Constant (.bool b) j pos) (tC (.bl b)):=λ_ _ _ H _ I h=>Constant_bool ⟨.bl b,H,I,rfl,h⟩
def zU5{j pos}:PE X (.Constant .none j pos) (tC .non):=λ_ _ _ H _ I h=>Constant_none ⟨.non,H,I,rfl,h⟩
def jy{x j pos}:PE X (.Constant (.str x) j pos) (tC (.str x)):=λ_ _ _ H _ I h=>Calls.Constant_str ⟨.str x,H,I.tok _,⟨_,rfl⟩,h⟩
def Gl(X:Cx)(x:Str):Prop:=X.env.kindOf x=some .globalImplicit
def jS{E:Value->Shared->Prop}{pins:List (Addr × Obj)}{s:Shared}{σ:St}{H:Hp}{x:Str}{u:Value}{pos:Pos}{Q:Value->Shared->Prop}(I:Inv X pins σ H s)(hg:Gl X x)(hm:X.mg x=some u)(h:Q u s)
  (hd:(x == ("__debug__" : Str))=false:=by decide):wpAny (model X.prog X.w) X.A (eval (.Name x pos) X.env) Q E s:=
 Calls.Name_function_global I.ok.kind hg (Calls.loadGlobal_global (by rw[I.ok.glob];exact I.mod.glob.keeps I.bk) hm h) hd
def UJ{E:Value->Shared->Prop}{pins:List (Addr × Obj)}{s:Shared}{σ:St}{H:Hp}{x:Str}{u:Value}{pos:Pos}{Q:Value->Shared->Prop}(I:Inv X pins σ H s)(hg:Gl X x)(hm:X.mg x=none)(hv:bootBuiltins x=some u)(h:Q u s)
  (hn:x ≠ "__name__" := by decide) (hd:(x == ("__debug__" : Str))=false:=by decide):wpAny (model X.prog X.w) X.A (eval (.Name x pos) X.env) Q E s:=by
 obtain⟨mb,h1,h2⟩:=I.mod.blt
 exact Calls.Name_function_global I.ok.kind hg (Calls.loadGlobal_builtin (by rw[I.ok.glob];exact I.mod.glob.keeps I.bk) hm (by rw[I.ok.blt];exact h1.keeps I.bk) ((h2 x hn).trans hv) h) hd
def ze9{x:Str}{v:V}{u:Value}{pos:Pos}(hg:Gl X x)(hm:X.mg x=some u)(r:RelV v u)(hd:(x == ("__debug__" : Str))=false:=by decide):PE X (.Name x pos) (tC v):=
 λ_ _ _ H _ I h=>jS I hg hm ⟨v,H,I,r,h⟩ hd
def zf2{x:Str}{v:V}{u:Value}{pos:Pos}(hg:Gl X x)(hm:X.mg x=none)(hv:bootBuiltins x=some u)(r:RelV v u)(hn:x ≠ "__name__" := by decide)(hd:(x == ("__debug__" : Str))=false:=by decide):PE X (.Name x pos) (tC v):=
 λ_ _ _ H _ I h=>UJ I hg hm hv ⟨v,H,I,r,h⟩ hn hd
variable {a b:Expr}{ta tb:TE}{pos:Pos}
def tB(t:TE):TT:=λσ H Q=>t σ H λx H1=>∃c,x=.bl c/\Q c H1
def zT0{e:Expr}{t:TE}(h:PE X e t)(he:∀whole,isTrue e X.env whole=(do let v <- whole;standAt e.pos;holding [v] (truthy v)):=by intro _;rfl):PT X e (tB t):=by
 intro pins s σ H Q I hw;refine isTrue_plain (thn (h pins s σ H _ I hw) λv s1 ⟨x,H1,I1,r1,q1⟩=>?_) (he _);obtain⟨d,rfl,q⟩:=q1;cases r1;exact wN ⟨H1,I1,q⟩
variable {tA tB':TT}{rest:List Expr}
def xw2(t u:TT):TT:=λσ H Q=>t σ H λc H1=>if c=true then u σ H1 Q else Q false H1
def tOr(t u:TT):TT:=λσ H Q=>t σ H λc H1=>if c=true then Q true H1 else u σ H1 Q
def xv9(t:TT):TT:=λσ H Q=>t σ H λc H1=>Q (!c) H1
def zG9(ha:PT X a tA):PW X (.BoolOp .And [a] pos) tA:=by
 intro wh pins s σ H Q I h;refine isTrue_and (thn (ha pins s σ H Q I h) λc s1 e=>?_)
 cases c with
 |true=>exact isTrue_and_nil e
 |false=>exact e
def zS8(ha:PT X a tA):PW X (.BoolOp .Or [a] pos) tA:=by
 intro wh pins s σ H Q I h;refine isTrue_or (thn (ha pins s σ H Q I h) λc s1 e=>?_)
 cases c with
 |false=>exact isTrue_or_nil e
 |true=>exact e
def zS9(ha:PT X a tA)(hb:PW X (.BoolOp .And (b::rest) pos) tB'):PW X (.BoolOp .And (a::b::rest) pos) (xw2 tA tB'):=by
 intro wh pins s σ H Q I h;refine isTrue_and (thn (ha pins s σ H _ I h) λc s1 ⟨H1,I1,q1⟩=>?_)
 cases c with
 |true=>exact hb wh pins s1 σ H1 Q I1 q1
 |false=>exact⟨H1,I1,q1⟩
def xl4(ha:PT X a tA)(hb:PW X (.BoolOp .Or (b::rest) pos) tB'):PW X (.BoolOp .Or (a::b::rest) pos) (tOr tA tB'):=by
 intro wh pins s σ H Q I h;refine isTrue_or (thn (ha pins s σ H _ I h) λc s1 ⟨H1,I1,q1⟩=>?_)
 cases c with
 |true=>exact⟨H1,I1,q1⟩
 |false=>exact hb wh pins s1 σ H1 Q I1 q1
def zT1(ha:PT X a tA):PT X (.UnaryOp .Not a pos) (xv9 tA):=by
 intro pins s σ H Q I h;exact isTrue_not (ha pins s σ H (λc H1=>Q (!c) H1) I h)
def xe6(ta tb:TE):TE:=λσ H Q=>ta σ H λx H1=>∃c,x=.bl c/\if c=true then tb σ H1 Q else Q (.bl false) H1
def xd9(ta:TE):TE:=λσ H Q=>ta σ H λx H1=>∃c,x=.bl c/\Q (.bl (!c)) H1
def zU3{op}{t:TE}(h:PE X a t):PE X (.BoolOp op [a] pos) t:=λpins s σ H Q I hw=>BoolOp_one (h pins s σ H Q I hw)
def zU7(ha:PE X a ta)(hb:PE X (.BoolOp .And (b::rest) pos) tb):PE X (.BoolOp .And (a::b::rest) pos) (xe6 ta tb):=by
 intro pins s σ H Q I h;refine BoolOp_and (thn (ha pins s σ H _ I h) λv s1 ⟨x,H1,I1,r1,q1⟩=>?_);obtain⟨c,rfl,q1⟩:=q1;cases r1;refine wN ?_
 cases c with
 |true=>exact hb pins s1 σ H1 Q I1 q1
 |false=>exact⟨.bl false,H1,I1,rfl,q1⟩
def zU4(ha:PE X a ta):PE X (.UnaryOp .Not a pos) (xd9 ta):=by
 intro pins s σ H Q I h;refine UnaryOp_ (thn (ha pins s σ H _ I h) λv s1 ⟨x,H1,I1,r1,q1⟩=>?_);obtain⟨c,rfl,q1⟩:=q1;cases r1;exact not_of (wN ⟨.bl (!c),H1,I1,rfl,q1⟩)
def tIf(t:TT)(ta tb:TE):TE:=λσ H Q=>t σ H λc H1=>if c=true then ta σ H1 Q else tb σ H1 Q
def zt7{c:Expr}(hc:PT X c tA)(ha:PE X a ta)(hb:PE X b tb):PE X (.IfExp c a b pos) (tIf tA ta tb):=by
 intro pins s σ H Q I h;refine wpAny_IfExp (thn (hc pins s σ H _ I h) λd s1 ⟨H1,I1,q1⟩=>?_)
 cases d with
 |true=>exact ha pins s1 σ H1 Q I1 q1
 |false=>exact hb pins s1 σ H1 Q I1 q1
end
def SqL(K:W.Frag)(H:Hp)(a:Addr)(xs:List V):Prop:=
 Rd H a (.lst xs) \/
  ∃(o:Obj) (its:Array Value) (n:Nat),K.lookup a=some o/\o.cls=.type "list" /\ o.dict=none/\o.data=.seq its n/\its.size<=sizeLine/\Vals xs its.toList
def SqT(K:W.Frag)(H:Hp)(a:Addr)(xs:List V):Prop:=
 Rd H a (.tup xs) \/
  ∃(o:Obj) (its:Array Value) (n:Nat),K.lookup a=some o/\o.cls=.type "tuple" /\ o.data=.seq its n/\its.size<=sizeLine/\Vals xs its.toList
def xB8:Value->Option V
 |.none=>some .non
 |.bool b=>some (.bl b)
 |.int i _=>some (.int i)
 |.str x _=>some (.str x)
 |.bytes b _=>some (.byt b)
 |.float b _=>some (.flt b)
 |.ref a=>some (.ref a)
 |.type n=>some (.ty n)
 |_=>none
def RelV.abs{x:V}{u:Value}(r:RelV x u):xB8 u=some x:=by
 cases x with
 |non=>cases r;rfl
 |bl _=>cases r;rfl
 |int _=>obtain⟨t,rfl⟩:=r;rfl
 |str _=>obtain⟨t,rfl⟩:=r;rfl
 |byt _=>obtain⟨t,rfl⟩:=r;rfl
 |flt _=>obtain⟨t,rfl⟩:=r;rfl
 |ref _=>cases r;rfl
 |ty _=>cases r;rfl
def RelV.inj{x y:V}{u:Value}(r:RelV x u)(q:RelV y u):x=y:=xk (r.abs.symm.trans q.abs)
theorem Vals.inj:∀{xs ys:List V}{us:List Value},Vals xs us->Vals ys us->xs=ys
 |_,_,_,.nil,.nil=>rfl
 |_,_,_,.cons r t,.cons r' t'=>by rw[r.inj r',Vals.inj t t']
section
variable {X:Cx}{pins:List (Addr × Obj)}{σ:St}{H:Hp}{s:Shared}{a:Addr}{xs ys:List V}
def SqL.of{K:W.Frag}(h:H a=some (.lst xs)):SqL K H a xs:=.inl (.inl h)
def Inv.list(I:Inv X pins σ H s)(h:SqL X.K H a xs):∃its:List Value,Vals xs its/\PlainL s.heap a its.toArray/\xs.length<=sizeLine:=by
 rcases h with h |⟨o,its,n,hk,hc,hd,hs,hz,r⟩
 ·obtain⟨z,its,n,r,e⟩:=h.ok I.hok;exact⟨its,r,⟨_,n,e,rfl,rfl,rfl⟩,z⟩
 ·refine ⟨its.toList, r, ⟨o, n, I.kIn a o hk, hc, hd, by simpa using hs⟩, ?_⟩
  have e:=r.length;simp only[ww] at e;lia
def Inv.tuple(I:Inv X pins σ H s)(h:SqT X.K H a xs):∃its:List Value,Vals xs its/\IsTup s.heap a its.toArray/\xs.length<=sizeLine:=by
 rcases h with h |⟨o,its,n,hk,hc,hs,hz,r⟩
 ·obtain⟨z,its,r,p⟩:=h.ok I.hok;exact⟨its,r,p,z⟩
 ·refine ⟨its.toList, r, ⟨o, I.kIn a o hk, hc, n, by simpa using hs⟩, ?_⟩
  have e:=r.length;simp only[ww] at e;lia
def Inv.list_inj(I:Inv X pins σ H s)(h:SqL X.K H a xs)(h':SqL X.K H a ys):xs=ys:=by
 obtain⟨its,r,⟨o,n,e,_,_,d⟩,_⟩:=I.list h;obtain⟨its',r',⟨o',n',e',_,_,d'⟩,_⟩:=I.list h';rw[e] at e';cases e';rw[d] at d';injection d' with d1 _
 have:its=its':=by simpa using congrArg Array.toList d1
 subst this;exact r.inj r'
def Inv.tuple_inj(I:Inv X pins σ H s)(h:SqT X.K H a xs)(h':SqT X.K H a ys):xs=ys:=by
 obtain⟨its,r,⟨o,e,_,n,d⟩,_⟩:=I.tuple h;obtain⟨its',r',⟨o',e',_,n',d'⟩,_⟩:=I.tuple h';rw[e] at e';cases e';rw[d] at d';injection d' with d1 _
 have:its=its':=by simpa using congrArg Array.toList d1
 subst this;exact r.inj r'
end
abbrev Cx.wish(X:Cx)(E:Value->Shared->Prop):Cx:={ X with xe:=E }
abbrev Cx.nox(X:Cx):Cx:=X.wish λ_ _=>False
def Cx.Ok.wish{X:Cx}(ok:X.Ok)(E:Value->Shared->Prop):(X.wish E).Ok:=
 ⟨ok.mod,ok.kind,ok.glob,ok.blt,ok.above,ok.inj,ok.has,ok.cab,ok.hd,ok.frames,ok.stk,ok.exf,ok.bs,ok.bsz,ok.noex,ok.exfs,ok.funs,ok.frf⟩
def Cx.Ok.unwish{X:Cx}{E:Value->Shared->Prop}(ok:(X.wish E).Ok):X.Ok:=
 ⟨ok.mod,ok.kind,ok.glob,ok.blt,ok.above,ok.inj,ok.has,ok.cab,ok.hd,ok.frames,ok.stk,ok.exf,ok.bs,ok.bsz,ok.noex,ok.exfs,ok.funs,ok.frf⟩
section
variable {X:Cx}{pins:List (Addr × Obj)}{σ:St}{H:Hp}{s:Shared}{E:Value->Shared->Prop}
def Inv.wish(I:Inv X pins σ H s)(E:Value->Shared->Prop):Inv (X.wish E) pins σ H s:=⟨I.ok.wish E,I.os,I.bare,I.base,I.loc,I.cell,I.free,I.freeC,I.pin,I.hok,I.len⟩
def Inv.unwish(I:Inv (X.wish E) pins σ H s):Inv X pins σ H s:=⟨I.ok.unwish,I.os,I.bare,I.base,I.loc,I.cell,I.free,I.freeC,I.pin,I.hok,I.len⟩
def SP.unwish{D:Ends}{f:Flow}{s':Shared}(h:SP (X.wish E) pins D f s'):SP X pins D f s':=by
 cases f with
 |next=>obtain⟨σ',H',I,q⟩:=h;exact⟨σ',H',I.unwish,q⟩
 |brk=>obtain⟨σ',H',I,q⟩:=h;exact⟨σ',H',I.unwish,q⟩
 |cont=>obtain⟨σ',H',I,q⟩:=h;exact⟨σ',H',I.unwish,q⟩
 |ret u=>obtain⟨v,σ',H',I,r,q⟩:=h;exact⟨v,σ',H',I.unwish,r,q⟩
def PSs.nox{st:List Stmt}{t:TS}(h:PSs X.nox st t):PSs X st t:=λpins s σ H D I hw=>
 wa (h pins s σ H D (I.wish _) hw) (λ_ _ q=>q.unwish) λ_ _ z=>False.elim z
end
section
variable {X:Cx}{st:Stmt}{rest:List Stmt}{t u:TS}{e:Expr}{te:TE}{pos:Pos}
def xe1:TS:=λD σ H=>D.nx σ H
def xv6(t u:TS):TS:=λD σ H=>t { D with nx:=u D } σ H
def zH3:PSs X [] xe1:=λ_ _ σ H _ I h=>yd ⟨σ,H,I,h⟩
def JC(h1:PS X st t)(h2:PSs X rest u):PSs X (st::rest) (xv6 t u):=by
 intro pins s σ H D I h;refine wpAny_execs_cons (thn (h1 pins s σ H { D with nx:=u D } I h) λf s1 q=>?_)
 cases f with
 |next=>
  obtain⟨σ',H',I',q⟩:=q;exact h2 pins s1 σ' H' D I' q
 |ret v=>exact q
 |brk=>exact q
 |cont=>exact q
def zH2(h1:PS X st t):PSs X [st] t:=by
 intro pins s σ H D I h;refine wpAny_execs_cons (thn (h1 pins s σ H D I h) λf s1 q=>?_)
 cases f with
 |next=>exact yd q
 |ret v=>exact q
 |brk=>exact q
 |cont=>exact q
def Inv.quiet{pins:List (Addr × Obj)}{σ:St}{H:Hp}{s:Shared}(I:Inv X pins σ H s):interactive X.env=false:=by simp[interactive,I.ok.kind]
def xe2(te:TE):TS:=λD σ H=>te σ H λ_ H1=>D.nx σ H1
def zH7(he:PE X e te)(hs:swapsWith e none pos.line X.env=pure false:=by rfl):PS X (.Expr e pos) (xe2 te):=by
 intro pins s σ H D I h;exact wpAny_Expr_any (thn (he pins s σ H _ I h) λv s1 ⟨x,H1,I1,r1,q1⟩=>⟨σ,H1,I1,q1⟩) I.quiet hs
def xv7(te:TE):TS:=λD σ H=>te σ H D.rt
def zT3(he:PE X e te):PS X (.Return (some e) pos) (xv7 te):=by
 intro pins s σ H D I h;exact wpAny_Return_some (thn (he pins s σ H _ I h) λv s1 ⟨x,H1,I1,r1,q1⟩=>⟨x,σ,H1,I1,r1,q1⟩)
def xn8(c:TT)(t u:TS):TS:=λD σ H=>c σ H λb H1=>if b=true then t D σ H1 else u D σ H1
def xl5{c:Expr}{a b:List Stmt}{tc:TT}(hc:PT X c tc)(ha:PSs X a t)(hb:PSs X b u):PS X (.If c a b pos) (xn8 tc t u):=by
 intro pins s σ H D I h;refine wpAny_If (thn (hc pins s σ H _ I h) λd s1 ⟨H1,I1,q1⟩=>?_)
 cases d with
 |true=>exact ha pins s1 σ H1 D I1 q1
 |false=>exact hb pins s1 σ H1 D I1 q1
end
abbrev TG:=V->St->Hp->(St->Hp->Prop)->Prop
abbrev TGs:=List V->St->Hp->(St->Hp->Prop)->Prop
def PG(X:Cx)(target:Expr)(t:TG):Prop:=
 ∀(pins:List (Addr × Obj)) (s:Shared) (σ:St) (H:Hp) (v:V) (u:Value) (Q:St->Hp->Prop),Inv X pins σ H s->RelV v u->t v σ H Q ->
  wpAny (model X.prog X.w) X.A (assign target X.env u) (λ_ s'=>∃σ' H',Inv X pins σ' H' s'/\Q σ' H') X.xe s
def PGs(X:Cx)(ts:List Expr)(t:TGs):Prop:=
 ∀(pins:List (Addr × Obj)) (s:Shared) (σ:St) (H:Hp) (vs:List V) (us:List Value) (Q:St->Hp->Prop),Inv X pins σ H s->Vals vs us->t vs σ H Q ->
  wpAny (model X.prog X.w) X.A (assignInOrder ((assignEach ts X.env).map (·.2)) us) (λ_ s'=>∃σ' H',Inv X pins σ' H' s'/\Q σ' H') X.xe s
abbrev xn3:=V->V->V->Hp->(Hp->Prop)->Prop
def xv0(X:Cx)(t:xn3):Prop:=
 ∀(pins:List (Addr × Obj)) (s:Shared) (σ:St) (H:Hp) (o i v:V) (ov iv u:Value) (Q:Hp->Prop),Inv X pins σ H s->RelV o ov->RelV i iv->RelV v u->t o i v H Q ->
  wpAny (model X.prog X.w) X.A (setItem ov iv u) (λ_ s'=>∃H',Inv X pins σ H' s'/\Q H') X.xe s
section
variable {X:Cx}{pos:Pos}
def QL(i:Nat):TG:=λv σ H Q=>Q (σ.set i (some v)) H
def zI5{i:Nat}{x:Str}(hN:X.N.Nodup)(hi:X.N[i]?=some x)(hx:Loc X.env.scope x)(hf:X.fn x=true\/X.env.scope.names.lookup x=some .local:=by first |exact .inl rfl |exact .inr rfl |assumption):PG X (.Name x pos) (QL i):=by
 intro pins s σ H v u Q I r h;exact wpAny_assign_Name (vW I hN hi hx r (λs' I'=>⟨_,H,I',h⟩) hf)
def xA6:TGs:=λvs σ H Q=>vs=[]/\Q σ H
def xm6(t:TG)(u:TGs):TGs:=λvs σ H Q=>∃v r,vs=v::r/\t v σ H λσ' H'=>u r σ' H' Q
def zI2:PGs X [] xA6:=by
 intro pins s σ H vs us Q I r h;obtain⟨e,h⟩:=h;subst e;cases r;exact assignInOrder_nil ⟨σ,H,I,h⟩
def zt4{e:Expr}{es:List Expr}{t:TG}{u:TGs}(h1:PG X e t)(h2:PGs X es u)
  (hs:(assignEach (e::es) X.env).map (·.2)=assign e X.env::(assignEach es X.env).map (·.2):=by rfl):PGs X (e::es) (xm6 t u):=by
 intro pins s σ H vs us Q I r h;obtain⟨v,vr,e1,h⟩:=h;subst e1
 cases r with
 |cons r rr=>
  rw[hs];refine assignInOrder_cons (thn (h1 pins s σ H _ _ _ I r h) λ_ s1 ⟨σ1,H1,I1,q1⟩=>?_);exact h2 pins s1 σ1 H1 _ _ Q I1 rr q1
def xA4(K:W.Frag)(n:Nat)(t:TGs):TG:=λv σ H Q=>∃a xs,v=.ref a/\SqT K H a xs/\xs.length=n/\t xs σ H Q
def zT9{es:List Expr}{k:Nat}{t:TGs}{n:Nat}(hc:X.calm=true)(h:PGs X es t)
  (hn:(assignEach es X.env).length=n:=by rfl) (hst:(assignEach es X.env).findIdx? (·.1)=none:=by rfl):PG X (.Tuple es k pos) (xA4 X.K n t):=by
 intro pins s σ H v u Q I r hw;obtain⟨a,xs,e1,hq,hl,hw⟩:=hw;subst e1;cases r;obtain⟨its,rv,ht,hz⟩:=I.tuple hq
 refine assign_Tuple_tuple (I.ok.hd hc) ht (by simp[hn,<- hl,rv.length]) hst λh' hx=>?_
 have I1:Inv X pins σ H { s with heap:=h' }:=I.kept (t':=s.toks) λb o e=>hx b o (zG (zt e)) e
 exact h pins _ σ H xs _ Q I1 (by simpa using rv) hw
def xA5(to ti:TE)(t:xn3):TG:=λv σ H Q=>to σ H λo H1=>ti σ H1 λi H2=>t o i v H2 λH3=>Q σ H3
def zU0{o i:Expr}{to ti:TE}{t:xn3}(ho:PE X o to)(hi:PE X i ti)(hs:xv0 X t)
  (ha : ∀ v, assign (.Subscript o i pos) X.env v = (do
   let ov <- holding [v] (eval o X.env)
   let iv <- holding [v,ov] (eval i X.env)
   standAt pos
   holding [v,ov,iv] (setItem ov iv v)
   release [v,ov,iv] []):=by intro _;rfl):PG X (.Subscript o i pos) (xA5 to ti t):=by
 intro pins s σ H v u Q I r h;rw[ha];refine zc (wq (thn (ho pins s σ H _ I h) λov s1 ⟨x,H1,I1,r1,q1⟩=>?_));refine zc (wq (thn (hi pins s1 σ H1 _ I1 q1) λiv s2 ⟨y,H2,I2,r2,q2⟩=>?_));refine zc (wy (zc (wq (thn (hs pins s2 σ H2 x y v ov iv u _ I2 r1 r2 r q2) λ_ s3 ⟨H3,I3,q3⟩=>?_))));exact wpAny_release ⟨σ,H3,I3,q3⟩
def xa7(te:TE)(g:TG):TS:=λD σ H=>te σ H λx H1=>g x σ H1 D.nx
def ze2{tg e:Expr}{te:TE}{g:TG}(he:PE X e te)(hg:PG X tg g)(hs:swapsWithSole [tg] e pos.line X.env=pure false:=by rfl)(hw:swappedStores [tg] e X.env=pure none:=by rfl)
  (h1:(assignEach [tg] X.env).map (·.2)=[assign tg X.env]:=by rfl):PS X (.Assign [tg] e pos) (xa7 te g):=by
 intro pins s σ H D I h;refine wpAny_Assign_stores (thn (he pins s σ H _ I h) λv s1 ⟨x,H1,I1,r1,q1⟩=>?_) hs hw;rw[h1];exact thn (hg pins s1 σ H1 x v _ I1 r1 q1) λ_ s2 q=>q
def ze1{i:Nat}{x:Str}{e:Expr}{te:TE}{pos':Pos}(hN:X.N.Nodup)(hi:X.N[i]?=some x)(hx:Loc X.env.scope x)(he:PE X e te)(hs:swapsWith e (some (.Name x pos')) pos.line X.env=pure false:=by rfl)(hf:X.fn x=true\/X.env.scope.names.lookup x=some .local:=by first |exact .inl rfl |exact .inr rfl |assumption) :
  PS X (.Assign [.Name x pos'] e pos) (xa7 te (QL i)):=by
 intro pins s σ H D I h;refine wpAny_Assign_Name (thn (he pins s σ H _ I h) λv s1 ⟨y,H1,I1,r1,q1⟩=>?_) hs;exact vW I1 hN hi hx r1 (λs2 I2=>⟨_,H1,I2,q1⟩) hf
def xv8(i j:Nat)(ta:TA):TS:=λD σ H=>ta σ H λvs H1=>∃v w,vs=[v,w]/\D.nx ((σ.set i (some v)).set j (some w)) H1
def zT4{i j:Nat}{x y:Str}{a b:Expr}{ta:TA}{px py pt:Pos}{kt k2 pt2}(hc:X.calm=true)(hN:X.N.Nodup)(hi:X.N[i]?=some x)(hj:X.N[j]?=some y)(hij:i≠j)
  (hx:X.env.scope.names.lookup x=some .local) (hy:X.env.scope.names.lookup y=some .local) (ha:PA X [a,b] ta)
  (hw:swappedStores [.Tuple [.Name x px,.Name y py] kt pt] (.Tuple [a,b] k2 pt2) X.env=pure (some [x,y]))
  (hs:swapsWithSole [.Tuple [.Name x px,.Name y py] kt pt] (.Tuple [a,b] k2 pt2) pos.line X.env=pure false:=by rfl) :
  PS X (.Assign [.Tuple [.Name x px,.Name y py] kt pt] (.Tuple [a,b] k2 pt2) pos) (xv8 i j ta):=by
 intro pins s σ H D I h;rw[exec_Assign_arm];refine zc (wy ?_);rw[hs];refine zc (zo ?_)
 rw[if_neg w9]
 refine zc (Tuple_ (thn (ha _ pins s σ H _ I h) λus s1 ⟨vs,H1,I1,r1,q1⟩=>?_));obtain⟨v,w,e1,q1⟩:=q1;subst e1
 obtain⟨u1,u2,rfl,rv,rw'⟩:∃u1 u2,us=[u1,u2]/\RelV v u1/\RelV w u2:=by
  cases r1 with
  | cons p q =>
   cases q with
   |cons p' q'=>
    cases q';exact⟨_,_,rfl,p,p'⟩
 refine xM ?_ (by show 2<=sizeLine;decide)
 have I2:Inv X pins σ H1 { s1 with heap:=s1.heap.push { cls:=.type "tuple",data:=.seq [u1,u2].toArray } }:=I1.kept (t':=s1.toks) λb o e=>zg _ e;rw[hw];refine zc (zo ?_)
 show wpAny (model X.prog X.w) X.A (do rule "assign.swapped-stores";let items <- unpackItems (.ref s1.heap.objs.size) 2 none;assignInOrder [λv=>bindName X.env y v,λv=>bindName X.env x v] items.reverse;pure Flow.next) _ _ _
 refine zc (wpAny_rule (zc (unpackItems_tuple (items:=#[u1,u2]) (I.ok.hd hc) (IsTup.new s1.heap _) λh' hx'=>?_)));have I3:=I2.kept (h':=h') (t':=s1.toks) λb o e=>hx' b o (zG (zt e)) e;show wpAny _ _ (assignInOrder [λv=>bindName X.env y v,λv=>bindName X.env x v] [u2,u1] >>= λ_=>pure Flow.next) _ _ _;refine zc (assignInOrder_cons (yv (vW I3 hN hj (.inl hy) rw' (λs2 I4=>?_) (.inr hy))));refine assignInOrder_cons (yv (vW I4 hN hi (.inl hx) rv (λs3 I5=>assignInOrder_nil (zo ?_)) (.inr hx)));rw[List.set_comm _ _ (Ne.symm hij)] at I5;exact⟨_,H1,I5,q1⟩
def zQ1(c:TT)(tb:TS):TS:=λD σ H=>∃W:Nat->St->Hp->Prop,(∃m,W m σ H)/\∀m σ H,W m σ H ->
 c σ H λb H1=>if b=true then ∃N:St->Hp->Prop,(∀σ' H',N σ' H'->∃m',m'<m/\W m' σ' H')/\tb { D with nx:=N,ct:=N,bk:=D.nx } σ H1 else D.nx σ H1
def zt0{c:Expr}{body:List Stmt}{tc:TT}{tb:TS}(hp:PassesOwn (model X.prog X.w) X.A X.env X.xe)(hc:PT X c tc)(hb:PSs X body tb):PS X (.While c body [] pos) (zQ1 tc tb):=by
 intro pins s σ H D I h;obtain⟨W,⟨m0,w0⟩,turn⟩:=h;refine wpAny_While (codeAny_whileLoop (λn s'=>∃σ' H',Inv X pins σ' H' s'/\W n σ' H') ?_ m0 ⟨σ,H,I,w0⟩);rintro n s1 ⟨σ1,H1,I1,w1⟩;refine wJ hp (thn (hc pins s1 σ1 H1 _ I1 (turn n σ1 H1 w1)) λb s2 ⟨H2,I2,q2⟩=>?_)
 cases b with
 | true =>
  obtain⟨N,hN,q2⟩:=q2;rw[if_pos rfl];refine wJ hp (thn (hb pins s2 σ1 H2 _ I2 q2) λf s3 q3=>?_)
  cases f with
  |next=>
   obtain⟨σ3,H3,I3,n3⟩:=q3;obtain⟨m',hm,w3⟩:=hN σ3 H3 n3;exact⟨m',hm,σ3,H3,I3,w3⟩
  |cont=>
   obtain⟨σ3,H3,I3,n3⟩:=q3;obtain⟨m',hm,w3⟩:=hN σ3 H3 n3;exact⟨m',hm,σ3,H3,I3,w3⟩
  |brk=>exact q3
  |ret v=>exact q3
 |false=>
  rw[if_neg zI];exact yd ⟨σ1,H2,I2,q2⟩
end
structure It where
 go:Nat->Hp->Prop
 yld:Nat->Hp->V->Hp->Prop
 stop:Nat->Hp->Prop
def Km(X:Cx)(pins:List (Addr × Obj))(H:Hp)(b:Addr):Prop:=
 H b=none/\b≠X.env.locals/\b ∉ X.fs/\(b∈X.ex\/X.s₀.heap.objs.size<=b)/\(∀x c,X.env.cells.lookup x=some c->c≠b)/\∀p∈X.pn++pins,p.1≠b
def Inv.fpOk{X:Cx}{pins:List (Addr × Obj)}{σ:St}{H H':Hp}{s:Shared}{b:Addr}(I:Inv X pins σ H s)(hb:s.heap.objs.size<=b)(hn:H' b=none):Km X pins H' b:=by
 refine⟨hn,xT (zD I.lt hb),I.nofs hb,.inr (zm I.sz hb),λx c e z=>?_,λp hp z=>?_⟩
 ·obtain ⟨v, q⟩ := I.cell x c e
  exact absurd (zD q.lt (by rw[z];exact hb)) (xx _)
 ·exact absurd (zD (zt (I.pin p hp).1) (by rw[z];exact hb)) (xx _)
structure Turn(P:Program)(w:World)(K:W.Frag)(tg:Expr)(J:It)(fp:List Addr)(it:Addr)(tn:Nat->Heap->Prop):Prop where
 mem:it∈fp
 obj:∀i h,tn i h->∀b∈fp,∃o,h.get? b=some o/\∀v,o.data≠.cell v
 keep:∀i h h',tn i h->(∀b∈fp,∀o,h.get? b=some o->h'.get? b=some o)->tn i h'
 item:∀(X:Cx),X.prog=P->X.w=w->X.K=K->X.calm=true->∀(i:Nat) (pins:List (Addr × Obj)) (s:Shared) (σ:St) (H:Hp) (E:Value->Shared->Prop),Inv X pins σ H s->(∀b∈fp,Km X pins H b)->tn i s.heap->J.go i H ->
  wpAny (model P w) X.A (pyNext (.ref it)) (λr s1=>∃u,r=some u /\
   wpAny (model P w) X.A (letOwnedTupleGo tg (.ref it) u) (λ_ s2=>∃x H',Inv X pins σ H' s2/\RelV x u/\J.yld i H x H'/\tn (i+1) s2.heap/\∀b∈fp,H' b=none) E s1) E s
 done:∀(X:Cx),X.prog=P->X.w=w->X.K=K->X.calm=true->∀(i:Nat) (pins:List (Addr × Obj)) (s:Shared) (σ:St) (H:Hp) (E:Value->Shared->Prop),Inv X pins σ H s->(∀b∈fp,Km X pins H b)->tn i s.heap->J.stop i H ->
  wpAny (model P w) X.A (pyNext (.ref it)) (λr s1=>r=none/\Inv X pins σ H s1) E s
 self:∀(A:Around) (i:Nat) (s:Shared) (Q:Value->Shared->Prop) (E:Value->Shared->Prop),tn i s.heap->Q (.ref it) s->wpAny (model P w) A (pyIter (.ref it)) Q E s
abbrev TI:=St->Hp->(It->Hp->Prop)->Prop
def PIE(X:Cx)(pins:List (Addr × Obj))(σ:St)(tg:Expr)(R:It->Hp->Prop)(itv:Value)(s2:Shared):Prop:=
 ∃(it:Addr) (fp:List Addr) (tn:Nat->Heap->Prop) (J:It) (H':Hp),itv=.ref it/\Inv X pins σ H' s2/\Turn X.prog X.w X.K tg J fp it tn/\tn 0 s2.heap/\(∀b∈fp,Km X pins H' b)/\R J H'
def PI(X:Cx)(tg iter:Expr)(wi:TI):Prop:=
 ∀(pins:List (Addr × Obj)) (s:Shared) (σ:St) (H:Hp) (R:It->Hp->Prop),Inv X pins σ H s->wi σ H R ->
  wpAny (model X.prog X.w) X.A (eval iter X.env) (λv s1=>wpAny (model X.prog X.w) X.A (pyIter v) (PIE X pins σ tg R) X.xe s1) X.xe s
def zx1{M:Model}{A:Around}{E:Value->Shared->Prop}{s:Shared}{tg:Expr}{it:Addr}{u:Value}{o:Obj}{n:String}{vs:Array Value}{Q:Unit->Shared->Prop}(ho:s.heap.get? it=some o)(hc:o.cls=.type n)(hd:o.data=.fields vs)
    (hn:["enumerate","zip","dict_itemiterator","dict_reverseitemiterator","odict_iterator","itertools.zip_longest","itertools.pairwise"].contains n=false) (hQ:Q () s):wpAny M A (letOwnedTupleGo tg (.ref it) u) Q E s:=by
  unfold letOwnedTupleGo
  cases tg <;> first
    |exact zo hQ
    |(cases u<;>first
        |exact zo hQ
        | (refine zc (wpAny_load ho ?_)
           rw[hc,hd]
           show wpAny M A (if (["enumerate","zip","dict_itemiterator","dict_reverseitemiterator","odict_iterator","itertools.zip_longest","itertools.pairwise"].contains n&&vs[0]? == some (rawInt _))=true then _ else _) Q E s
           rw[if_neg (by intro h;rw[hn,Bool.false_and] at h;cases h)]
           exact zo hQ))
def Itl(K:W.Frag)(a:Addr):It:=
 ⟨λi H=>∃xs x,SqL K H a xs/\xs[i]?=some x,λi H x H'=>H'=H/\∀xs,SqL K H a xs->xs[i]?=some x,λi H=>∃xs,SqL K H a xs/\xs.length<=i⟩
def Itt(K:W.Frag)(a:Addr):It:=
 ⟨λi H=>∃xs x,SqT K H a xs/\xs[i]?=some x,λi H x H'=>H'=H/\∀xs,SqT K H a xs->xs[i]?=some x,λi H=>∃xs,SqT K H a xs/\xs.length<=i⟩
def Itr(lo:Int)(n:Nat):It:=⟨λi _=>i<n,λi H x H'=>H'=H/\x=.int (lo+i),λi _=>n<=i⟩
def za1{P:Program}{w:World}{K:W.Frag}{tg:Expr}(a it:Addr):Turn P w K tg (Itl K a) [it] it (λi h=>h.IsListIter it a i) where
 mem:=by simp
 obj:=λi h st b hb=>by
  have e:b=it:=by simpa using hb
  subst e;obtain⟨o,e,c,d⟩:=st
  exact⟨o,e,λv z=>by rw[d] at z;cases z⟩
 keep:=λi h h' st k=>st.at λo e=>k it (by simp) o e
 item:=by
  intro X hP hw hK hc i pins s σ H E I hf st hg;subst hP hw hK;obtain⟨xs,x,hq,hx⟩:=hg;obtain⟨its,rv,p,hz⟩:=I.list hq;obtain⟨u,hu,ru⟩:=rv.get hx
  obtain⟨f0,f1,f2,f3,f4,f5⟩:=hf it (by simp)
  refine wpAny_pyNext_list_item st p.isList (x:=u) (by simpa using hu) λh' st' sb=>?_
  have I1:Inv X pins σ H { s with heap:=h' }:=I.turned (t':=s.toks) (λb o hb e=>(sb.2 b hb).trans e) f0 f1 f3 f4 f5;obtain⟨o,e,c,d⟩:=id st'
  exact⟨u,rfl,zx1 (s:={ s with heap:=h' }) e c d w9 ⟨x,H,I1,ru,⟨rfl,λys hy=>by rw[I.list_inj hy hq];exact hx⟩,st',λb hb=>(hf b hb).1⟩⟩
 done:=by
  intro X hP hw hK hc i pins s σ H E I hf st hg;subst hP hw hK;obtain⟨xs,hq,hx⟩:=hg;obtain⟨its,rv,p,hz⟩:=I.list hq
  obtain⟨f0,f1,f2,f3,f4,f5⟩:=hf it (by simp)
  have hl:=rv.length
  exact wpAny_pyNext_list_end (I.ok.hd hc) st p.isList (by simp;lia) λh' eb=>⟨rfl,I.turned (t':=s.toks) (λb o hb e=>eb b o hb e) f0 f1 f3 f4 f5⟩
 self:=λ_ _ _ _ _ st h=>wpAny_pyIter_listiter st h
def Qj{P:Program}{w:World}{K:W.Frag}{tg:Expr}(a it:Addr):Turn P w K tg (Itt K a) [it] it (λi h=>h.IsTupleIter it a i) where
 mem:=by simp
 obj:=λi h st b hb=>by
  have e:b=it:=by simpa using hb
  subst e;obtain⟨o,e,c,d⟩:=st
  exact⟨o,e,λv z=>by rw[d] at z;cases z⟩
 keep:=λi h h' st k=>st.at λo e=>k it (by simp) o e
 item:=by
  intro X hP hw hK hc i pins s σ H E I hf st hg;subst hP hw hK;obtain⟨xs,x,hq,hx⟩:=hg;obtain⟨its,rv,p,hz⟩:=I.tuple hq;obtain⟨u,hu,ru⟩:=rv.get hx
  obtain⟨f0,f1,f2,f3,f4,f5⟩:=hf it (by simp)
  refine wpAny_pyNext_tuple_item st (show s.heap.IsTuple a its.toArray from p) (x:=u) (by simpa using hu) λh' st' sb=>?_
  have I1:Inv X pins σ H { s with heap:=h' }:=I.turned (t':=s.toks) (λb o hb e=>(sb.2 b hb).trans e) f0 f1 f3 f4 f5;obtain⟨o,e,c,d⟩:=id st'
  exact⟨u,rfl,zx1 (s:={ s with heap:=h' }) e c d w9 ⟨x,H,I1,ru,⟨rfl,λys hy=>by rw[I.tuple_inj hy hq];exact hx⟩,st',λb hb=>(hf b hb).1⟩⟩
 done:=by
  intro X hP hw hK hc i pins s σ H E I hf st hg;subst hP hw hK;obtain⟨xs,hq,hx⟩:=hg;obtain⟨its,rv,p,hz⟩:=I.tuple hq
  obtain⟨f0,f1,f2,f3,f4,f5⟩:=hf it (by simp)
  have hl:=rv.length
  exact wpAny_pyNext_tuple_end (I.ok.hd hc) st (show s.heap.IsTuple a its.toArray from p) (by simp;lia) λh' eb=>⟨rfl,I.turned (t':=s.toks) (λb o hb e=>eb b o hb e) f0 f1 f3 f4 f5⟩
 self:=λ_ _ _ _ _ st h=>wpAny_pyIter_tupleiter st h
def Qk{P:Program}{w:World}{K:PySem.W.Frag}{tg:Expr}(it:Addr)(lo:Int)(n:Nat):Turn P w K tg (Itr lo n) [it] it (λi h=>IsRangeIter h it (lo+(i:Nat)*1) ((n:Int)-(i:Nat)) 1) where
 mem:=by simp
 obj:=λi h st b hb=>by
  have e:b=it:=by simpa using hb
  subst e
  exact⟨_,st,λv z=>by
   have z':Data.fields _=Data.cell v:=z
   cases z'⟩
 keep:=λi h h' st k=>k it (by simp) _ st
 item:=by
  intro X hP hw hK hc i pins s σ H E I hf st hg;subst hP hw hK
  obtain⟨f0,f1,f2,f3,f4,f5⟩:=hf it (by simp)
  have W:=Walks.range (prog:=X.prog) (w:=X.w) (I.ok.hd hc) it lo 1 n;refine W.item i s _ _ hg st λv h' tk hv st' kk=>?_;obtain⟨t,rfl⟩:=hv
  have I1:Inv X pins σ H { s with heap:=h',toks:=tk }:=I.turned (λb o hb e=>kk b o (by simpa using hb) e) f0 f1 f3 f4 f5
  refine⟨_,rfl,zx1 (s:={ s with heap:=h',toks:=tk }) (n := "range_iterator") st' rfl rfl w9 ⟨.int (lo+i),H,I1,⟨t,?_⟩,⟨rfl,rfl⟩,st',λb hb=>(hf b hb).1⟩⟩
  rw[Int.mul_one]
 done:=by
  intro X hP hw hK hc i pins s σ H E I hf st hg;subst hP hw hK
  obtain⟨f0,f1,f2,f3,f4,f5⟩:=hf it (by simp)
  exact wpAny_pyNext_range_end (I.ok.hd hc) st (by have:n<=i:=hg;lia) λh' eb=>⟨rfl,I.turned (t':=s.toks) (λb o hb e=>eb b o hb e) f0 f1 f3 f4 f5⟩
 self:=λ_ _ _ _ _ st h=>wpAny_pyIter_rangeiter st h
section
variable {X:Cx}{tg:Expr}
def zs6{pins:List (Addr × Obj)}{σ:St}{H:Hp}{s:Shared}{R:It->Hp->Prop}{E:Value->Shared->Prop}{lo hi:Int}{t u v:Tok}{tk:Nat}(I:Inv X pins σ H s)(h1:-(2^62)<=lo)(h2:lo<2^62)(h3:-(2^62)<=hi)(h4:hi<2^62)
  (q:R (Itr lo (hi-lo).toNat) H):wpAny (model X.prog X.w) X.A (pyIter (.ref s.heap.objs.size)) (PIE X pins σ tg R) E { s with heap:=s.heap.push { cls:=.type "range",data:=.fields #[.int lo t,.int hi u,.int 1 v] },toks:=tk }:=by
 refine wpAny_pyIter_range (IsRange.new ..) (small_one h1 h2 h3 h4) ?_;have I1:Inv X pins σ H { s with heap:=s.heap.push { cls:=.type "range",data:=.fields #[.int lo t,.int hi u,.int 1 v] },toks:=tk }:=I.kept λb o e=>zg _ e
 refine⟨(s.heap.push { cls:=.type "range",data:=.fields #[.int lo t,.int hi u,.int 1 v] }).objs.size,[(s.heap.push { cls:=.type "range",data:=.fields #[.int lo t,.int hi u,.int 1 v] }).objs.size],_,_,H,rfl,
  I1.kept (t':=tk) λb o e=>zg _ e,Qk _ lo (hi-lo).toNat,?_,λb hb=>?_,q⟩
 ·have e1 : lo + ((0 : Nat) : Int) * 1 = lo := by simp
  have e2:(((hi-lo).toNat:Nat):Int)-((0:Nat):Int)=Builtin.Range.rangeSize lo hi 1:=by rw[rangeSize_one];split<;>lia
  show IsRangeIter _ _ (lo+((0:Nat):Int)*1) ((((hi-lo).toNat:Nat):Int)-((0:Nat):Int)) 1;rw[e1,e2];exact zw _ rfl
 ·have e : b = (s.heap.push { cls := .type "range", data := .fields #[.int lo t, .int hi u, .int 1 v] }).objs.size := by simpa using hb
  subst e;exact I1.fpOk (zk _) (I1.hok.fresh (zk _))
def xm4(ta:TA):TI:=λσ H R=>ta σ H λvs H1=>∃j:Int,vs=[.int j]/\-(2^62)<=j/\j<2^62/\R (Itr 0 j.toNat) H1
def ze7{a:Expr}{ta:TA}{p pos:Pos}(hg:Gl X "range")(hm:X.mg "range" = none)(ha:PA X [a] ta)(hs:starEach [a] X.env=[(false,eval a X.env)]:=by rfl):PI X tg (.Call (.Name "range" p) [a] [] pos) (xm4 ta):=by
 intro pins s σ H R I h;refine Call_ (UJ I hg hm boot_range (PyProof.Rows.callWith_type1 (thn (ha pos pins s σ H _ I h) λus s1 ⟨vs,H1,I1,r1,q1⟩=>?_) hs rfl));obtain⟨j,e,q1,q2,q⟩:=q1;subst e
 cases r1 with
 |cons r rr=>
  cases rr;obtain⟨t,rfl⟩:=r
  exact call_range_1 (zs6 I1 w6 w6 q1 q2 (by simpa using q))
def xw1(wi:TI)(g:TG)(tb:TS):TS:=λD σ H=>wi σ H λJ H1=>∃W:Nat->Nat->St->Hp->Prop,(∃m,W 0 m σ H1)/\∀i m σ H,W i m σ H ->
 (J.stop i H/\D.nx σ H)\/(J.go i H/\∃N:St->Hp->Prop,(∀σ' H',N σ' H'->∃m',m'<m/\W (i+1) m' σ' H')/\∀x H',J.yld i H x H'->g x σ H' λσ2 H2=>tb { D with nx:=N,ct:=N,bk:=D.nx } σ2 H2)
def Wt(fp:List Addr)(h:Heap):List (Addr × Obj):=fp.filterMap λb=>(h.get? b).map λo=>(b,o)
def kB{fp:List Addr}{h:Heap}{b:Addr}{o:Obj}(hb:b∈fp)(e:h.get? b=some o):(b,o)∈Wt fp h:=List.mem_filterMap.mpr ⟨b,hb,by rw[e];rfl⟩
def zi4{fp:List Addr}{h:Heap}{p:Addr × Obj}(hp:p∈Wt fp h):p.1∈fp/\h.get? p.1=some p.2:=by
 obtain⟨b,hb,e⟩:=List.mem_filterMap.mp hp
 cases q:h.get? b with
 |none=>rw[q] at e;cases e
 |some o=>
  rw[q] at e;have e':(b,o)=p:=xk e;subst e';exact⟨hb,q⟩
def Inv.pinned{pins:List (Addr × Obj)}{σ:St}{H:Hp}{s:Shared}{fp:List Addr}(I:Inv X pins σ H s)(hf:∀b∈fp,Km X pins H b)(ho:∀b∈fp,∃o,s.heap.get? b=some o/\∀v,o.data≠.cell v):Inv X (pins++Wt fp s.heap) σ H s:=
 I.pins_of λp hp=>(xU.mp hp).elim (λz=>I.pin p (zA _ z)) λz=>by
  obtain⟨hb,e⟩:=zi4 z;obtain⟨f0,f1,f2,_⟩:=hf p.1 hb;obtain⟨o,e',d⟩:=ho p.1 hb;rw[e] at e';cases e';exact⟨e,f0,f1,f2,d⟩
def Inv.unpinned{pins pl:List (Addr × Obj)}{σ:St}{H:Hp}{s:Shared}(I:Inv X (pins++pl) σ H s):Inv X pins σ H s:=I.pins_of λp hp=>I.pin p (zA _ (List.mem_append_left _ hp))
def zT5{iter:Expr}{body:List Stmt}{wi:TI}{g:TG}{tb:TS}{pos:Pos}(hp:PassesOwn (model X.prog X.w) X.A X.env X.xe)(hc:X.calm=true)(hi:PI X tg iter wi)(hg:PG X tg g)(hb:PSs X body tb)
  (hs:∀x,foldedSetIterable iter X.env x=pure x:=by intro _;rfl):PS X (.For tg iter body [] pos) (xw1 wi g tb):=by
 intro pins s σ H D I h;refine wpAny_For (thn (hi pins s σ H _ I h) λv s1 h1=>thn h1 λitv s2 h2=>?_) hs;obtain⟨it,fp,tn,J,H2,e,I2,T,st2,f2,W,⟨m0,w0⟩,turn⟩:=h2;subst e;have stat:∀{H':Hp},(∀b∈fp,H' b=none)->∀b∈fp,Km X pins H' b:=λhn b hb=>⟨hn b hb,(f2 b hb).2⟩;refine codeAny_forLoop_any (λn s'=>∃i σ' H',Inv X pins σ' H' s'/\tn i s'.heap/\(∀b∈fp,H' b=none)/\W i n σ' H') ?_ m0 ⟨0,σ,H2,I2,st2,λb hb=>(f2 b hb).1,w0⟩;rintro n s3 ⟨i,σ3,H3,I3,st3,fr3,w3⟩
 rcases turn i n σ3 H3 w3 with ⟨stop,qn⟩ |⟨go,N,hN,step⟩
 ·refine wJ hp (thn (T.done X rfl rfl rfl hc i pins s3 σ3 H3 X.xe I3 (stat fr3) st3 stop) λr s4 ⟨hr,I4⟩=>?_);subst hr;exact yd ⟨σ3,H3,I4,qn⟩
 ·refine wJ hp (thn (T.item X rfl rfl rfl hc i pins s3 σ3 H3 X.xe I3 (stat fr3) st3 go) λr s4 ⟨u, hr, h4⟩ => ?_);subst hr;refine wJ hp (thn h4 λ_ s5 ⟨x,H5,I5,r5,y5,st5,fr5⟩=>?_);have I5':=I5.pinned (stat fr5) (T.obj _ _ st5);refine wJ hp (thn (hg _ s5 σ3 H5 x u _ I5' r5 (step x H5 y5)) λ_ s6 ⟨σ6,H6,I6,q6⟩=>?_);refine wJ hp (thn (hb _ s6 σ6 H6 _ I6 q6) λf s7 q7=>?_)
  have again:∀{σ7:St}{H7:Hp},Inv X (pins++Wt fp s5.heap) σ7 H7 s7->N σ7 H7->∃m,m<n/\∃i σ' H',Inv X pins σ' H' s7/\tn i s7.heap/\(∀b∈fp,H' b=none)/\W i m σ' H':=λ{σ7 H7} I7 n7=>by
   obtain⟨m',hm,w7⟩:=hN σ7 H7 n7;refine⟨m',hm,i+1,σ7,H7,I7.unpinned,T.keep _ _ _ st5 λb hb o e=>(I7.pin (b,o) (zA _ (zA _ (kB hb e)))).1,λb hb=>?_,w7⟩;obtain⟨o,e,d⟩:=T.obj _ _ st5 b hb;exact(I7.pin (b,o) (zA _ (zA _ (kB hb e)))).2.1
  cases f with
  |next=>obtain⟨σ7,H7,I7,n7⟩:=q7;exact again I7 n7
  |cont=>obtain⟨σ7,H7,I7,n7⟩:=q7;exact again I7 n7
  |brk=>obtain⟨σ7,H7,I7,q7⟩:=q7;exact⟨σ7,H7,I7.unpinned,q7⟩
  |ret v=>obtain⟨x7,σ7,H7,I7,r7,q7⟩:=q7;exact⟨x7,σ7,H7,I7.unpinned,r7,q7⟩
end
abbrev R2:=V->V->Hp->VK->Prop
def OpR(X:Cx)(f:Value->Value->Sem Value)(r:R2):Prop:=
 ∀(pins:List (Addr × Obj)) (s:Shared) (σ:St) (H:Hp) (x y:V) (v u:Value) (Q:VK),Inv X pins σ H s->RelV x v->RelV y u->r x y H Q ->
  wpAny (model X.prog X.w) X.A (f v u) (EP X pins σ Q) X.xe s
def UnR(X:Cx)(f:Value->Sem Value)(r:V->Hp->VK->Prop):Prop:=
 ∀(pins:List (Addr × Obj)) (s:Shared) (σ:St) (H:Hp) (x:V) (v:Value) (Q:VK),Inv X pins σ H s->RelV x v->r x H Q ->
  wpAny (model X.prog X.w) X.A (f v) (EP X pins σ Q) X.xe s
def jw(X:Cx)(f:Value)(r:List V->Hp->VK->Prop):Prop:=
 ∀(pins:List (Addr × Obj)) (s:Shared) (σ:St) (H:Hp) (xs:List V) (us:List Value) (Q:VK),Inv X pins σ H s->Vals xs us->r xs H Q ->
  wpAny (model X.prog X.w) X.A (call f us) (EP X pins σ Q) X.xe s
def tOp(r:R2)(ta tb:TE):TE:=λσ H Q=>ta σ H λx H1=>tb σ H1 λy H2=>r x y H2 Q
def tUn(r:V->Hp->VK->Prop)(ta:TE):TE:=λσ H Q=>ta σ H λx H1=>r x H1 Q
def rI(C:Int->Int->Prop)(g:Int->Int->V):R2:=λx y H Q=>∃i j,x=.int i/\y=.int j/\C i j/\Q (g i j) H
def rI0(g:Int->Int->V):R2:=λx y H Q=>∃i j,x=.int i/\y=.int j/\Q (g i j) H
def rU(g:Int->V):V->Hp->VK->Prop:=λx H Q=>∃i,x=.int i/\Q (g i) H
section
variable {X:Cx}{a b c:Expr}{ta tb tc:TE}{pos:Pos}
def xn1(ha:PE X a ta)(hb:PE X b tb){pins:List (Addr × Obj)}{s:Shared}{σ:St}{H:Hp}{R:V->V->Hp->Prop}(I:Inv X pins σ H s)
  (h:ta σ H λx H1=>tb σ H1 λy H2=>R x y H2) {Q:Value->Shared->Prop}{f:Value->Value->Sem Value}
  (hf:∀v u s2 x y H2,Inv X pins σ H2 s2->RelV x v->RelV y u->R x y H2->wpAny (model X.prog X.w) X.A (f v u) Q X.xe s2) :
  wpAny (model X.prog X.w) X.A (eval a X.env) (λv s₁=>wpAny (model X.prog X.w) X.A (eval b X.env) (λu s₂=>wpAny (model X.prog X.w) X.A (f v u) Q X.xe s₂) X.xe s₁) X.xe s:=by
 refine thn (ha pins s σ H _ I h) λv s1 ⟨x,H1,I1,r1,q1⟩=>?_;refine thn (hb pins s1 σ H1 _ I1 q1) λu s2 ⟨y,H2,I2,r2,q2⟩=>?_;exact hf v u s2 x y H2 I2 r1 r2 q2
def xl6{op:Operator}{r:R2}(ho:OpR X (binaryOp op) r)(ha:PE X a ta)(hb:PE X b tb):PE X (.BinOp a op b pos) (tOp r ta tb):=by
 intro pins s σ H Q I h;exact wpAny_BinOp (xn1 ha hb I h λv u s2 x y H2 I2 rx ry q=>ho pins s2 σ H2 x y v u Q I2 rx ry q)
def zU2{op:UnaryOp}{r:V->Hp->VK->Prop}(ho:UnR X (unaryOp op) r)(ha:PE X a ta):PE X (.UnaryOp op a pos) (tUn r ta):=by
 intro pins s σ H Q I h;exact UnaryOp_ (thn (ha pins s σ H _ I h) λv s1 ⟨x,H1,I1,r1,q1⟩=>ho pins s1 σ H1 x v Q I1 r1 q1)
def opI{f:Value->Value->Sem Value}{C:Int->Int->Prop}{g:Int->Int->Int}
  (rule:∀(i j:Int) (t u:Tok) (s:Shared) (Q:Value->Shared->Prop) (E:Value->Shared->Prop),C i j->Q (.int (g i j) s.toks) { s with toks:=s.toks+1 }->wpAny (model X.prog X.w) X.A (f (.int i t) (.int j u)) Q E s) :
  OpR X f (rI C λi j=>.int (g i j)):=by
 intro pins s σ H x y v u Q I rx ry h;obtain⟨i,j,rfl,rfl,hc,q⟩:=h;obtain⟨t,rfl⟩:=rx;obtain⟨t',rfl⟩:=ry;exact rule i j t t' s _ _ hc ⟨.int (g i j),H,I.tok _,⟨_,rfl⟩,q⟩
def xt2{f:Value->Value->Sem Value}{g:Int->Int->Int}
  (rule:∀(i j:Int) (t u:Tok) (s:Shared) (Q:Value->Shared->Prop) (E:Value->Shared->Prop),Q (.int (g i j) s.toks) { s with toks:=s.toks+1 }->wpAny (model X.prog X.w) X.A (f (.int i t) (.int j u)) Q E s) :
  OpR X f (rI0 λi j=>.int (g i j)):=by
 intro pins s σ H x y v u Q I rx ry h;obtain⟨i,j,rfl,rfl,q⟩:=h;obtain⟨t,rfl⟩:=rx;obtain⟨t',rfl⟩:=ry;exact rule i j t t' s _ _ ⟨.int (g i j),H,I.tok _,⟨_,rfl⟩,q⟩
def xc9{f:Value->Value->Sem Value}{g:Int->Int->Bool}
  (rule:∀(i j:Int) (t u:Tok) (s:Shared) (Q:Value->Shared->Prop) (E:Value->Shared->Prop),Q (.bool (g i j)) s->wpAny (model X.prog X.w) X.A (f (.int i t) (.int j u)) Q E s) :
  OpR X f (rI0 λi j=>.bl (g i j)):=by
 intro pins s σ H x y v u Q I rx ry h;obtain⟨i,j,rfl,rfl,q⟩:=h;obtain⟨t,rfl⟩:=rx;obtain⟨t',rfl⟩:=ry;exact rule i j t t' s _ _ ⟨.bl (g i j),H,I,rfl,q⟩
def xv2(i j:Int):Prop:=0<j/\j<1073741824
def xv1(i j:Int):Prop:=0<=j/\j<=1000000/\i.natAbs<2^64
def CMul(i j:Int):Prop:=(-(2^64)<i/\i<2^64)\/(-(2^64)<j/\j<2^64)
def CMul.ok{i j:Int}(h:CMul i j):IntMulOk i j:=by
 rcases h with ⟨h1,h2⟩ |⟨h1,h2⟩
 ·exact .of_left (intBits_le_64 h1 h2)
 ·exact .of_right (intBits_le_64 h1 h2)
def zV7:OpR X (binaryOp .Add) (rI0 λi j=>.int (i+j)):=xt2 λ_ _ _ _ _ _ _ q=>add_int q
def zV2:OpR X (binaryOp .Sub) (rI0 λi j=>.int (i-j)):=xt2 λ_ _ _ _ _ _ _ q=>sub_int q
def zV4:OpR X (binaryOp .Mult) (rI CMul λi j=>.int (i*j)):=opI λ_ _ _ _ _ _ _ hc q=>mul_int q hc.ok
def zK2:OpR X (binaryOp .FloorDiv) (rI xv2 λi j=>.int (i/j)):=opI λi j _ _ _ _ _ hc q=>by
 have h1:(0:Int)<j:=hc.1;have h2:j<1073741824:=hc.2
 exact floordiv_int w6 (by rw[Int.fdiv_eq_ediv_of_nonneg i w6];exact q) (.inl (PyProof.noPylong_small w6))
def zV5:OpR X (binaryOp .Mod) (rI (λ_ j=>0<j) λi j=>.int (i%j)):=opI λi j _ _ _ _ _ hc q=>by
 have h1:(0:Int)<j:=hc
 exact mod_int' w6 (by rw[Int.fmod_eq_emod_of_nonneg i w6];exact q)
def zV3:OpR X (binaryOp .Pow) (rI xv1 λi j=>.int (i^j.toNat)):=opI λ_ _ _ _ _ _ _ hc q=>pow_int_small hc.1 hc.2.1 hc.2.2 q
def unI{f:Value->Sem Value}{g:Int->Int}
  (rule:∀(i:Int) (t:Tok) (s:Shared) (Q:Value->Shared->Prop) (E:Value->Shared->Prop),Q (.int (g i) s.toks) { s with toks:=s.toks+1 }->wpAny (model X.prog X.w) X.A (f (.int i t)) Q E s) :
  UnR X f (rU λi=>.int (g i)):=by
 intro pins s σ H x v Q I rx h;obtain⟨i,rfl,q⟩:=h;obtain⟨t,rfl⟩:=rx;exact rule i t s _ _ ⟨.int (g i),H,I.tok _,⟨_,rfl⟩,q⟩
def zz9:UnR X (unaryOp .USub) (rU λi=>.int (-i)):=unI λ_ _ _ _ _ q=>neg_int q
end
def xa8:V->V->Bool
 |.non,.non=>true |.non,.int _=>true |.int _,.non=>true |.non,.bl _=>true |.bl _,.non=>true |.non,.str _=>true |.str _,.non=>true
 |.int _,.int _=>true |.bl _,.bl _=>true |.str _,.str _=>true |.byt _,.byt _=>true
 |.int _,.str _=>true |.str _,.int _=>true |.bl _,.str _=>true |.str _,.bl _=>true
 |_,_=>false
def rEq:R2:=λx y H Q=>xa8 x y=true/\Q (.bl (decide (x=y))) H
def rNe:R2:=λx y H Q=>xa8 x y=true/\Q (.bl (!decide (x=y))) H
def zm6{i j:Int}:decide (V.int i=V.int j)=(i == j):=by
 rw[Bool.eq_iff_iff];simp
def zD1{i j:Bool}:decide (V.bl i=V.bl j)=(i == j):=by
 rw[Bool.eq_iff_iff];simp
def zm5{i j:Str}:decide (V.str i=V.str j)=(i == j):=by
 rw[Bool.eq_iff_iff];simp
def zm7{i j:Array UInt8}:decide (V.byt i=V.byt j)=(i.toList == j.toList):=by
 rw[Bool.eq_iff_iff];cases i;cases j;simp
section
variable {X:Cx}{a b c:Expr}{ta tb tc:TE}{pos:Pos}
def yo{pins:List (Addr × Obj)}{σ:St}{H:Hp}{s:Shared}{Q:VK}{k k':Bool}(I:Inv X pins σ H s)(q:Q (.bl k) H)(e:k=k'):EP X pins σ Q (.bool k') s:=by
 subst e;exact⟨.bl k,H,I,rfl,q⟩
def km:OpR X (compareOp .Eq) rEq:=by
 intro pins s σ H x y v u Q I rx ry h;obtain⟨hs,q⟩:=h
 cases x with
 |non=>
  cases rx
  cases y with
  |non=>cases ry;exact PySem.EqNone.eq_none_none (yo I q (by simp))
  |bl j=>cases ry;exact PySem.EqNone.eq_none_bool (yo I q (by simp))
  |int j=>obtain⟨t',rfl⟩:=ry;exact PySem.EqNone.eq_none_int (yo I q (by simp))
  |str j=>obtain⟨t',rfl⟩:=ry;exact PySem.EqNone.eq_none_str (yo I q (by simp))
  |_=>exact absurd (show false=true from hs) zI
 |bl i=>
  cases rx
  cases y with
  |non=>cases ry;exact PySem.EqNone.eq_bool_none (yo I q (by simp))
  |bl j=>cases ry;exact eq_bool (yo I q zD1)
  |str j=>obtain⟨t',rfl⟩:=ry;exact PySem.EqMixed.eq_bool_str (yo I q (by simp))
  |_=>exact absurd (show false=true from hs) zI
 |int i=>
  obtain⟨t,rfl⟩:=rx
  cases y with
  |non=>cases ry;exact PySem.EqNone.eq_int_none (yo I q (by simp))
  |int j=>obtain⟨t',rfl⟩:=ry;exact eq_int (yo I q zm6)
  |str j=>obtain⟨t',rfl⟩:=ry;exact PySem.EqMixed.eq_int_str (yo I q (by simp))
  |_=>exact absurd (show false=true from hs) zI
 |str i=>
  obtain⟨t,rfl⟩:=rx
  cases y with
  |non=>cases ry;exact PySem.EqNone.eq_str_none (yo I q (by simp))
  |bl j=>cases ry;exact PySem.EqMixed.eq_str_bool (yo I q (by simp))
  |int j=>obtain⟨t',rfl⟩:=ry;exact PySem.EqMixed.eq_str_int (yo I q (by simp))
  |str j=>obtain⟨t',rfl⟩:=ry;exact eq_str (yo I q zm5)
  |_=>exact absurd (show false=true from hs) zI
 |byt i=>
  obtain⟨t,rfl⟩:=rx
  cases y with
  |byt j=>obtain⟨t',rfl⟩:=ry;exact W.eq_bytes (yo I q zm7)
  |_=>exact absurd (show false=true from hs) zI
 |_=>cases y<;>exact absurd (show false=true from hs) zI
def Xs:OpR X (compareOp .NotEq) rNe:=by
 intro pins s σ H x y v u Q I rx ry h;obtain⟨hs,q⟩:=h
 cases x with
 |non=>
  cases rx
  cases y with
  |non=>cases ry;exact PySem.EqNone.ne_none_none (yo I q (by simp))
  |bl j=>cases ry;exact PySem.EqNone.ne_none_bool (yo I q (by simp))
  |int j=>obtain⟨t',rfl⟩:=ry;exact PySem.EqNone.ne_none_int (yo I q (by simp))
  |str j=>obtain⟨t',rfl⟩:=ry;exact PySem.EqNone.ne_none_str (yo I q (by simp))
  |_=>exact absurd (show false=true from hs) zI
 |bl i=>
  cases rx
  cases y with
  |non=>cases ry;exact PySem.EqNone.ne_bool_none (yo I q (by simp))
  |bl j=>cases ry;exact ne_bool (yo I q (congrArg not zD1))
  |str j=>obtain⟨t',rfl⟩:=ry;exact PySem.EqMixed.ne_bool_str (yo I q (by simp))
  |_=>exact absurd (show false=true from hs) zI
 |int i=>
  obtain⟨t,rfl⟩:=rx
  cases y with
  |non=>cases ry;exact PySem.EqNone.ne_int_none (yo I q (by simp))
  |int j=>obtain⟨t',rfl⟩:=ry;exact ne_int (yo I q (congrArg not zm6))
  |str j=>obtain⟨t',rfl⟩:=ry;exact PySem.EqMixed.ne_int_str (yo I q (by simp))
  |_=>exact absurd (show false=true from hs) zI
 |str i=>
  obtain⟨t,rfl⟩:=rx
  cases y with
  |non=>cases ry;exact PySem.EqNone.ne_str_none (yo I q (by simp))
  |bl j=>cases ry;exact PySem.EqMixed.ne_str_bool (yo I q (by simp))
  |int j=>obtain⟨t',rfl⟩:=ry;exact PySem.EqMixed.ne_str_int (yo I q (by simp))
  |str j=>obtain⟨t',rfl⟩:=ry;exact ne_str (yo I q (congrArg not zm5))
  |_=>exact absurd (show false=true from hs) zI
 |byt i=>
  obtain⟨t,rfl⟩:=rx
  cases y with
  |byt j=>obtain⟨t',rfl⟩:=ry;exact W.ne_bytes (yo I q (congrArg not zm7))
  |_=>exact absurd (show false=true from hs) zI
 |_=>cases y<;>exact absurd (show false=true from hs) zI
def zu6:OpR X (compareOp .Lt) (rI0 λi j=>.bl (decide (i<j))):=xc9 λ_ _ _ _ _ _ _ q=>lt_int q
def zV6:OpR X (compareOp .LtE) (rI0 λi j=>.bl (decide (i<=j))):=xc9 λ_ _ _ _ _ _ _ q=>le_int q
def zg7:OpR X (compareOp .Gt) (rI0 λi j=>.bl (decide (j<i))):=xc9 λ_ _ _ _ _ _ _ q=>gt_int q
def zg8:OpR X (compareOp .GtE) (rI0 λi j=>.bl (decide (j<=i))):=xc9 λ_ _ _ _ _ _ _ q=>ge_int q
def zg6:OpR X (compareOp .In) (λx y H Q=>∃i j,x=.str i/\y=.str j/\Q (.bl (!(Builtin.Str.occurrences j i 0 j.length 1).isEmpty)) H):=by
 intro pins s σ H x y v u Q I rx ry h;obtain⟨i,j,rfl,rfl,q⟩:=h;obtain⟨t,rfl⟩:=rx;obtain⟨t',rfl⟩:=ry;exact in_str (yo I q rfl)
def kI:OpR X (compareOp .Is) (λx y H Q=>y=.non/\Q (.bl (decide (x=.non))) H):=by
 intro pins s σ H x y v u Q I rx ry h;obtain⟨rfl,q⟩:=h;cases ry;refine is_none_gen (yo I q ?_)
 cases x<;>first
  |(cases rx;rfl)
  |(obtain⟨t,rfl⟩:=rx;rfl)
def zg5:OpR X (compareOp .IsNot) (λx y H Q=>y=.non/\Q (.bl (!decide (x=.non))) H):=by
 intro pins s σ H x y v u Q I rx ry h;obtain⟨rfl,q⟩:=h;cases ry;refine isnot_none_gen (yo I q ?_)
 cases x<;>first
  |(cases rx;rfl)
  |(obtain⟨t,rfl⟩:=rx;rfl)
def xz(b:Expr){op:CmpOp}(h:op≠.In:=by decide)(h2:op≠.NotIn:=by decide):behindInMarks op b=false:=by
 have e1:(op == CmpOp.In)=false:=by cases op<;>first |rfl |exact absurd rfl h
 have e2:(op == CmpOp.NotIn)=false:=by cases op<;>first |rfl |exact absurd rfl h2
 cases b<;>simp[behindInMarks,e1,e2]
def zJ0{op:CmpOp}{r:R2}(ho:OpR X (compareOp op) r)(ha:PE X a ta)(hb:PE X b tb)(hm:behindInMarks op b=false):PE X (.Compare a [op] [b] pos) (tOp r ta tb):=by
 intro pins s σ H Q I h;exact wpAny_Compare1 (xn1 ha hb I h λv u s2 x y H2 I2 rx ry q=>ho pins s2 σ H2 x y v u Q I2 rx ry q) hm
def zQ2(t:TE):TT:=λσ H Q=>t σ H λx H'=>∃k,x=.bl k/\Q k H'
def zd6{op:CmpOp}{r:R2}(ho:OpR X (compareOp op) r)(ha:PE X a ta)(hb:PE X b tb)(hm:behindInMarks op b=false):PT X (.Compare a [op] [b] pos) (zQ2 (tOp r ta tb)):=by
 intro pins s σ H Q I h
 refine wpAny_isTrue_Compare1 (thn (ha pins s σ H _ I h) λv s1 ⟨x,H1,I1,r1,q1⟩=>thn (hb pins s1 σ H1 _ I1 q1) λu s2 ⟨y,H2,I2,r2,q2⟩=>
  thn (ho pins s2 σ H2 x y v u _ I2 r1 r2 q2) λc s3 ⟨z,H3,I3,r3,k,e,q3⟩=>?_) hm
 subst e;cases r3;exact wN ⟨H3,I3,q3⟩
def zQ4(r r':R2)(ta tb tc:TE):TE:=λσ H Q=>ta σ H λx H1=>tb σ H1 λy H2=>r x y H2 λz H3=>∃k,z=.bl k /\
 (if k=true then tc σ H3 λw' H4=>r' y w' H4 Q else Q (.bl false) H3)
def zt9{op op':CmpOp}{r r':R2}(ho:OpR X (compareOp op) r)(ho':OpR X (compareOp op') r')(ha:PE X a ta)(hb:PE X b tb)(hc:PE X c tc)
  (hm:lastMarks [op,op'] [b,c]=false:=by with_unfolding_all rfl):PE X (.Compare a [op,op'] [b,c] pos) (zQ4 r r' ta tb tc):=by
 intro pins s σ H Q I h
 refine Compare_chain (thn (ha pins s σ H _ I h) λv s1 ⟨x,H1,I1,r1,q1⟩=>chain_link (thn (hb pins s1 σ H1 _ I1 q1) λu s2 ⟨y,H2,I2,r2,q2⟩=>
  thn (ho pins s2 σ H2 x y v u _ I2 r1 r2 q2) λd s3 ⟨z,H3,I3,r3,k,e,q3⟩=>?_)) hm
 subst e;cases r3;refine wN ?_
 cases k with
 |false=>exact ite_ff ⟨.bl false,H3,I3,rfl,q3⟩
 |true=>exact ite_tt (chain_last (thn (hc pins s3 σ H3 _ I3 q3) λw' s4 ⟨z',H4,I4,r4,q4⟩=>ho' pins s4 σ H4 y z' u w' Q I4 r2 r4 q4))
def UI:(sizeLine:Nat)<2^63:=by rw[sizeLine_eq];decide
def wC:OpR X (binaryOp .Add) (λx y H Q=>∃i j,x=.str i/\y=.str j/\i.length+j.length<=sizeLine/\Q (.str (i++j)) H):=by
 intro pins s σ H x y v u Q I rx ry h;obtain⟨i,j,rfl,rfl,hz,q⟩:=h;obtain⟨t,rfl⟩:=rx;obtain⟨t',rfl⟩:=ry;exact add_str (λt' tk=>⟨.str (i++j),H,I.tok _,⟨_,rfl⟩,q⟩) hz
def VQ{x:V}{us:List Value}(r:Vals [x] us):∃u,us=[u]/\RelV x u:=by
 cases r with
 |cons r1 r2=>cases r2;exact⟨_,rfl,r1⟩
def zP9{x y:V}{us:List Value}(r:Vals [x,y] us):∃u w',us=[u,w']/\RelV x u/\RelV y w':=by
 cases r with
 |cons r1 r2=>
  cases r2 with
  |cons r3 r4=>cases r4;exact⟨_,_,rfl,r1,r3⟩
def zy9:jw X (.builtin "abs") (λxs H Q=>∃i,xs=[.int i]/\Q (.int (if i<0 then -i else i)) H):=by
 intro pins s σ H xs us Q I r h;obtain⟨i,rfl,q⟩:=h;obtain⟨u,rfl,t,rfl⟩:=VQ r
 exact call_abs_int λu tk=>⟨.int (if i<0 then -i else i),H,I.tok _,⟨_,rfl⟩,q⟩
def Ka(hc:X.calm=true):jw X (.builtin "max") (λxs H Q=>∃i j,xs=[.int i,.int j]/\Q (.int (if j > i then j else i)) H):=by
 intro pins s σ H xs us Q I r h;obtain⟨i,j,rfl,q⟩:=h;obtain⟨u,w',rfl,⟨t,rfl⟩,⟨t',rfl⟩⟩:=zP9 r;refine max_two_ints (I.ok.hd hc) λh' tk k=>⟨_,H,I.kept k,?_,q⟩
 by_cases hj:j > i
 ·rw[if_pos hj,if_pos hj];exact⟨_,rfl⟩
 ·rw[if_neg hj,if_neg hj];exact⟨_,rfl⟩
def zo4(hc:X.calm=true):jw X (.builtin "min") (λxs H Q=>∃i j,xs=[.int i,.int j]/\Q (.int (if j<i then j else i)) H):=by
 intro pins s σ H xs us Q I r h;obtain⟨i,j,rfl,q⟩:=h;obtain⟨u,w',rfl,⟨t,rfl⟩,⟨t',rfl⟩⟩:=zP9 r;refine min_two_ints (I.ok.hd hc) λh' tk k=>⟨_,H,I.kept k,?_,q⟩
 by_cases hj:j<i
 ·rw[if_pos hj,if_pos hj];exact⟨_,rfl⟩
 ·rw[if_neg hj,if_neg hj];exact⟨_,rfl⟩
def jc:jw X (.type "int") (λxs H Q=>(∃i,xs=[.int i]/\Q (.int i) H)\/∃k,xs=[.bl k]/\Q (.int (if k then 1 else 0)) H):=by
 intro pins s σ H xs us Q I r h
 rcases h with ⟨i,rfl,q⟩ |⟨k,rfl,q⟩
 ·obtain⟨u,rfl,t,rfl⟩:=VQ r;exact call_int_int ⟨.int i,H,I,⟨_,rfl⟩,q⟩
 ·obtain ⟨u, rfl, r1⟩ := VQ r;cases r1
  exact call_int_bool ⟨.int (if k then 1 else 0),H,I.tok _,⟨_,rfl⟩,q⟩
def jb:jw X (.type "str") (λxs H Q=>∃i,xs=[.int i]/\i.natAbs.log2<1920/\Q (.str (toString i)) H):=by
 intro pins s σ H xs us Q I r h;obtain⟨i,rfl,hz,q⟩:=h;obtain⟨u,rfl,t,rfl⟩:=VQ r;exact PySem.P.str_of_int hz ⟨.str _,H,I.tok _,⟨_,rfl⟩,q⟩
end
section
variable {prog:Program}{w:World}{A:Around}{E:Value->Shared->Prop}{s:Shared}{K:W.Frag}{x dx C f:Addr}{mA:Str->Option Value}{name:Str}{v:Value}
end
def RelO.some_of{v:V}{o:Option Value}(r:RelO (some v) o):∃u,o=some u/\RelV v u:=by
 cases o with
 |none=>exact(show False from r).elim
 |some u=>exact⟨u,rfl,r⟩
section
variable {P:Program}{w:World}{H H':Hp}{h h':Heap}{a C dx:Addr}{fs fs':List (Str × V)}
end
section
variable {X:Cx}{pins:List (Addr × Obj)}{σ:St}{H:Hp}{s:Shared}{a C dx:Addr}{fs:List (Str × V)}{f:Str}{v:V}{A:Around}{E:Value->Shared->Prop}
end
section
variable {X:Cx}{o e value:Expr}{f:Str}{pos pos' tpos:Pos}{ta tv:TE}
end
section
variable {X:Cx}{pins:List (Addr × Obj)}{σ:St}{H:Hp}{s:Shared}{A:Around}{E:Value->Shared->Prop}{Q:Value->Shared->Prop}{c:Value}{b:Bool}
end
structure Room(k:Nat)(A:Around):Prop where
 hd:A.handled=none
 dp:A.depth+3*k+5<recursionLimit
 un:A.units+16*k+200<cLine
 gd:A.guards=some []
def Room.mono{j k:Nat}{A:Around}(r:Room k A)(h:j<=k):Room j A:=⟨r.hd,by have:=r.dp;lia,by have:=r.un;lia,r.gd⟩
def Room.deeper{k:Nat}{A:Around}(r:Room (k+1) A)(env:Env):Room k (A.deeper env):=
 ⟨r.hd,by have:=r.dp;show A.depth+1+3*k+5<_;lia,by have:=r.un;show A.units+3+16*k+200<_;lia,r.gd⟩
def Room.depth{k:Nat}{A:Around}(r:Room k A):A.depth<recursionLimit:=by have:=r.dp;lia
def Room.units{k:Nat}{A:Around}(r:Room k A):A.units+64<cLine:=by have:=r.un;lia
def xn7:TA:=λ_ H Q=>Q [] H
def zE6(ta:TE)(tr:TA):TA:=λσ H Q=>ta σ H λx H1=>tr σ H1 λxs H2=>Q (x::xs) H2
section
variable {X:Cx}{e:Expr}{es:List Expr}{te:TE}{t:TA}{pos:Pos}
def Xr:PA X [] xn7:=λ_ _ _ _ H Q I h=>Calls.spliced_nil ⟨[],H,I,.nil,h⟩
def vt(ha:PE X e te)(hr:PA X es t)(hs:starEach (e::es) X.env=(false,eval e X.env)::starEach es X.env:=by rfl):PA X (e::es) (zE6 te t):=by
 intro pos pins s σ H Q I h;rw[hs];show wpAny _ _ (spliced ((false,eval e X.env)::backTo pos (starEach es X.env))) _ _ s;refine Calls.spliced_cons (thn (ha pins s σ H _ I h) λu s1 ⟨x,H1,I1,r1,q1⟩=>?_);exact thn (hr pos pins s1 σ H1 _ I1 q1) λus s2 ⟨xs,H2,I2,r2,q2⟩=>⟨x::xs,H2,I2,.cons r1 r2,q2⟩
def xv5(t:TA):TE:=λσ H Q=>t σ H λxs H1=>xs.length<=sizeLine/\∀p,H1 p=none->Q (.ref p) (upd H1 p (.tup xs))
def xw0(t:TA):TE:=λσ H Q=>t σ H λxs H1=>xs.length<=sizeLine/\∀p,H1 p=none->Q (.ref p) (upd H1 p (.lst xs))
def zB7{x1}(h:PA X es t):PE X (.Tuple es x1 pos) (xv5 t):=by
 intro pins s σ H Q I hq
 refine wpAny_Tuple_spliced (thn (h pos pins s σ H _ I hq) λus s1 ⟨xs,H1,I1,r,z,q⟩=>⟨by rw[<- r.length];exact z,?_⟩)
 have hf:H1 s1.heap.objs.size=none:=I1.hok.fresh (zk _);refine⟨.ref s1.heap.objs.size,upd H1 s1.heap.objs.size (.tup xs),I1.laid (t':=s1.toks) (λb u e=>zg _ e) (zk _) ?_,rfl,q _ hf⟩;exact⟨z,us,r,⟨_,zw _ rfl,rfl,_,rfl⟩⟩
def ze8(h:PA X es t):PE X (.List es pos) (xw0 t):=by
 intro pins s σ H Q I hq
 refine wpAny_List_spliced (thn (h pos pins s σ H _ I hq) λus s1 ⟨xs,H1,I1,r,z,q⟩=>⟨by rw[<- r.length];exact z,?_⟩)
 have hf:H1 s1.heap.objs.size=none:=I1.hok.fresh (zk _);refine⟨.ref s1.heap.objs.size,upd H1 s1.heap.objs.size (.lst xs),I1.laid (t':=s1.toks) (λb u e=>zg _ e) (zk _) ?_,rfl,q _ hf⟩;exact⟨z,us,0,r,zw _ rfl⟩
end
abbrev Sp:=List V->Hp->VK->XK->Prop
abbrev CXT:=List Env->Hp->Shared->XK->Value->Shared->Prop
structure Env0(P:Program)(w:World)(K:W.Frag)(mg:Str->Option Value)(base:Heap)(A:Around)(outer:List Env)(s:Shared)(H:Hp):Prop where
 frames:A.frames=some outer
 mod:Mod K mg base
 bs:∀b o,base.get? b=some o->s.heap.get? b=some o/\H b=none
 bsz:base.objs.size<=s.heap.objs.size
 funs:s.heap.FunFrames base outer
 frf:∀b∈frs outer,H b=none
 hok:HOk P w H s.heap
 bare:AllBare s.gens
def CE(outer:List Env)(P:Program)(w:World)(H:Hp)(s:Shared)(Q:VK)(u:Value)(s':Shared):Prop:=
 ∃v H',s'.os=s.os/\AllBare s'.gens/\Un (frs outer) [] H H' s.heap s'.heap/\HOk P w H' s'.heap/\RelV v u/\Q v H'
def CR(CX:CXT)(outer:List Env)(P:Program)(w:World)(H:Hp)(s:Shared)(Q:VK)(E:XK)(r:Result)(s':Shared):Prop:=
 match r with
 |.ok (.ret u)=>CE outer P w H s Q u s'
 |.ok _=>False
 |.error e=>CX outer H s E e s'
structure FnOk(P:Program)(w:World)(K:W.Frag)(mg:Str->Option Value)(base:Heap)(CX:CXT)(k:Nat)(f:Addr)(fd:FuncData)(ps:List Str)(sp:Sp):Prop where
 len:∀vs H Q E,sp vs H Q E->vs.length=ps.length
 run:∀(A:Around) (outer:List Env) (s:Shared) (H:Hp) (args:Args) (us:List Value) (vs:List V) (Q:VK) (E:XK),Room k A->Env0 P w K mg base A outer s H->BindsTo s fd args (ps.zip us)->Vals vs us->sp vs H Q E ->
  codeAny (model P w) A (.call (.ref f) args) (CR CX outer P w H s Q E) s
section
variable {X:Cx}{pins:List (Addr × Obj)}{σ:St}{H:Hp}{s s':Shared}
def Inv.env0(I:Inv X pins σ H s):Env0 X.prog X.w X.K X.mg X.base X.A X.stack s H:=
 ⟨I.ok.frames,I.ok.mod,I.bs,zm I.ok.bsz I.sz,I.stack,I.stkFree,I.hok,I.bare⟩
def Inv.after{Q:VK}{u:Value}(I:Inv X pins σ H s)(h:CE X.stack X.prog X.w H s Q u s'):EP X pins σ Q u s':=by
 obtain⟨v,H',os,bare,un,hok,r,q⟩:=h;obtain⟨hh,g,d,t,os'⟩:=s';obtain rfl:os'=s.os:=os
 exact⟨v,H',I.call (h':=hh) (g':=g) (d':=d) (t':=t) (ch:=[]) un hok bare (λb z=>absurd z (by simp)),r,q⟩
end
def xe5(sp:Sp)(dvs:List V)(E:XK)(t:TA):TE:=λσ H Q=>t σ H λvs H1=>sp (vs++dvs) H1 Q E
def Binds(K:W.Frag)(fd:FuncData)(ps:List Str)(ds:List Value):Prop:=
 ∀(s:Shared) (us:List Value),K.In s.heap->(us++ds).length=ps.length->BindsTo s fd ⟨us,[]⟩ (ps.zip (us++ds))
def Binds.all{K:W.Frag}{fd:FuncData}{ps:List Str}(h:∀us:List Value,us.length=ps.length->bindArgs fd ⟨us,[]⟩=pure (ps.zip us)):Binds K fd ps []:=λs us _ hl=>by
 rw[xv] at hl ⊢;exact .of_eq (h us hl)
def WJ(CX:CXT)(X:Cx)(E:XK):Prop:=∀(pins:List (Addr × Obj)) (σ:St) (H:Hp) (s:Shared) (e:Value) (s':Shared),Inv X pins σ H s->CX X.stack H s E e s'->X.xe e s'
section
variable {X:Cx}{CX:CXT}{k:Nat}{f C:Addr}{fd:FuncData}{ps:List Str}{sp:Sp}{dvs:List V}{ds:List Value}{E:XK}{x m:Str}{p pos apos:Pos}{e o:Expr}{es:List Expr}{ta:TE}{t:TA}
def Jw{pins:List (Addr × Obj)}{σ:St}{H:Hp}{s:Shared}{Q:VK}{us:List Value}{vs:List V}(F:FnOk X.prog X.w X.K X.mg X.base CX k f fd ps sp)(hr:Room k X.A)(hb:Binds X.K fd ps ds)(hd:Vals dvs ds)(hx:WJ CX X E)
  (I:Inv X pins σ H s) (r:Vals vs us) (h:sp (vs++dvs) H Q E):wpAny (model X.prog X.w) X.A (call (.ref f) us) (EP X pins σ Q) X.xe s:=by
 have r2:Vals (vs++dvs) (us++ds):=r.append hd
 have hl:(us++ds).length=ps.length:=by rw[<- r2.length];exact F.len _ _ _ _ h
 refine wpAny_call (codeAny_mono (F.run X.A X.stack s H ⟨us,[]⟩ (us++ds) (vs++dvs) Q E hr I.env0 (hb s us I.kIn hl) r2 h) λr s' hq=>?_)
 cases r with
 |error e=>exact hx pins σ H s e s' I hq
 |ok fl=>
  cases fl with
  |ret u=>exact I.after hq
  |next=>exact False.elim hq
  |brk=>exact False.elim hq
  |cont=>exact False.elim hq
def KG(F:FnOk X.prog X.w X.K X.mg X.base CX k f fd ps sp)(hr:Room k X.A)(hg:Gl X x)(hm:X.mg x=some (.ref f))(hk:W.keepIn X.K (.ref f)=true)(hb:Binds X.K fd ps ds)(hd:Vals dvs ds)(hx:WJ CX X E)
  (ha:PA X (e::es) t) (hdb:(x == ("__debug__" : Str))=false:=by decide) (he:starEach (e::es) X.env=(false,eval e X.env)::starEach es X.env:=by rfl) (hpl:(backTo pos (starEach es X.env)).any (·.1)=false:=by rfl) :
  PE X (.Call (.Name x p) (e::es) [] pos) (xe5 sp dvs E t):=by
 intro pins s σ H Q I h;refine wpAny_Call_Name_kw (jS I hg hm ?_ hdb);refine W.callWith_K (h₀:=X.base) I.ok.mod.kin hk (thn (ha pos pins s σ H _ I h) λus s1 ⟨vs,H1,I1,r,q⟩=>⟨I1.kIn,?_⟩) he hpl;exact Jw F hr hb hd hx I1 r q
end
section
variable {X:Cx}{CX:CXT}{k:Nat}{f C:Addr}{fd:FuncData}{ps ks:List Str}{sp:Sp}{E:XK}{x m:Str}{p pos apos kpos:Pos}{e o:Expr}{es:List Expr}{kws:List Keyword}{te ta:TE}{t tk:TA}{nm:Option Str}
variable {g:List Value->List Value->List Value}{gV:List V->List V->List V}
end
structure FnScope(N P:List Str)(sc:Scope):Prop where
 kind:sc.kind=.function
 co:sc.isCoroutine=false
 gen:sc.isGenerator=false
 nd:N.Nodup
 pre:N.take P.length=P
 par:∀x∈P,sc.names.lookup x=some .local\/sc.names.lookup x=some .cell
 nofree:∀y∈sc.names,y.2≠.free
theorem Kb{kindOf:Str->Option NameKind}{x:Str}:∀{binds:List (Str × Value)}{m:Str->Option Value},(∀v,(x,v) ∉ binds)->bindL kindOf binds m x=m x
 |[],_,_=>rfl
 | (n, v) :: r, m, h => by
  unfold bindL;rw[Kb λw hw=>h w (zh _ hw)]
  split
  ·have : x ≠ n := by rintro rfl; exact h v xi
   simp[this]
  ·rfl
theorem Kd{kindOf:Str->Option NameKind}{x:Str}:∀{binds:List (Str × Value)}{m:Str->Option Value},(∀v,(x,v) ∉ binds)->bindC kindOf binds m x=m x
 |[],_,_=>rfl
 | (n, v) :: r, m, h => by
  unfold bindC;rw[Kd λw hw=>h w (zh _ hw)]
  split
  ·rfl
  ·have : x ≠ n := by rintro rfl; exact h v xi
   simp[this]
def Kc{kindOf:Str->Option NameKind}{x:Str}{v:Value}:∀{P:List Str}{vs:List Value}{i:Nat}{m:Str->Option Value},P.Nodup->P[i]?=some x->vs[i]?=some v->kindOf x=some .local ->
  bindL kindOf (P.zip vs) m x=some v
 |[],_,_,_,_,h,_,_=>by simp at h
 |_::_,[],_,_,_,_,h,_=>by simp at h
 |p::P,w::vs,0,m,nd,h1,h2,hk=>by
  simp at h1 h2;subst h1;subst h2;show bindL kindOf ((p,w)::P.zip vs) m p=_;unfold bindL;rw[Kb λv hv=>(List.nodup_cons.mp nd).1 (ye hv).1,if_pos hk];simp
 |p::P,w::vs,i+1,m,nd,h1,h2,hk=>by
  show bindL kindOf ((p,w)::P.zip vs) m x=_;unfold bindL
  exact Kc (i:=i) (List.nodup_cons.mp nd).2 (by simpa using h1) (by simpa using h2) hk
def Ke{kindOf:Str->Option NameKind}{x:Str}{v:Value}:∀{P:List Str}{vs:List Value}{i:Nat}{m:Str->Option Value},P.Nodup->P[i]?=some x->vs[i]?=some v->kindOf x≠some .local ->
  bindC kindOf (P.zip vs) m x=some v
 |[],_,_,_,_,h,_,_=>by simp at h
 |_::_,[],_,_,_,_,h,_=>by simp at h
 |p::P,w::vs,0,m,nd,h1,h2,hk=>by
  simp at h1 h2;subst h1;subst h2;show bindC kindOf ((p,w)::P.zip vs) m p=_;unfold bindC;rw[Kd λv hv=>(List.nodup_cons.mp nd).1 (ye hv).1,if_neg hk];simp
 |p::P,w::vs,i+1,m,nd,h1,h2,hk=>by
  show bindC kindOf ((p,w)::P.zip vs) m x=_;unfold bindC
  exact Ke (i:=i) (List.nodup_cons.mp nd).2 (by simpa using h1) (by simpa using h2) hk
def YZ(N:List Str)(vs:List V):St:=vs.map some++replicate (N.length-vs.length) none
def Jh(CX:CXT)(P:Program)(w:World)(K:W.Frag)(mg:Str->Option Value)(base:Heap)(N:List Str)(qual:Str)(scope:Scope)(f:Addr)(cd:Value)(A:Around)(outer:List Env)(s:Shared)(H:Hp)(E:XK):Cx where
 prog:=P
 w:=w
 K:=K
 mg:=mg
 base:=base
 A:=A.deeper (envOfC qual scope s.heap.objs.size f cd)
 N:=N
 s₀:=s
 H₀:=H
 env:=envOfC qual scope s.heap.objs.size f cd
 outer:=outer
 stack:=envOfC qual scope s.heap.objs.size f cd::outer
 ex:=[]
 calm:=true
 fn:=λ_=>true
 pn:=[]
 xe:=λe s'=>wpAny (model P w) (A.deeper (envOfC qual scope s.heap.objs.size f cd)) (leaving (envOfC qual scope s.heap.objs.size f cd) e) (λ_ s''=>CX outer H s E e s'') (λe' s''=>CX outer H s E e' s'') s'
def Qc{sc:Scope}{n:Nat}{x:Str}(h:sc.names.lookup x=some .cell):∃c,(cellsFrom n sc.names []).lookup x=some c:=by
 have q:=W.cellsFrom_some sc.names n [] (.inl h);exact Option.isSome_iff_exists.mp q
def zk2{CX:CXT}{P:Program}{w:World}{K:W.Frag}{mg:Str->Option Value}{base:Heap}{N ps:List Str}{qual:Str}{scope:Scope}{f:Addr}{cd:Value}{A:Around}{outer:List Env}{s s1:Shared}{H:Hp}{E:XK}{us:List Value}{vs:List V}
  (S:FnScope N ps scope) (hd:A.handled=none) (e0:Env0 P w K mg base A outer s H) (hl:vs.length=ps.length) (r:Vals vs us)
  (x:InCallC s s.heap.objs.size (bindL (envOfC qual scope s.heap.objs.size f cd).kindOf (ps.zip us) λ_=>none) (cellsFrom (s.heap.objs.size+1) scope.names []) (bindC (envOfC qual scope s.heap.objs.size f cd).kindOf (ps.zip us) λ_=>none) s1) :
  Inv (Jh CX P w K mg base N qual scope f cd A outer s H E) [] (YZ N vs) H s1:=by
 have hpl:ps.length<=N.length:=by have:=congrArg List.length S.pre;rw[wB] at this;lia
 obtain⟨h1,tk,rfl,hk⟩:=x.done
 have noA:∀b:Addr,b ∉ (Jh CX P w K mg base N qual scope f cd A outer s H E).ex:=λb z=>absurd (show b∈([]:List Addr) from z) (by simp)
 refine⟨⟨e0.mod,S.kind,rfl,rfl,zk _,λy z c h1 h2=>?_,λy hy=>?_,λy c _ h=>?_,λ_=>hd,Around.frames_deeper e0.frames,.inr ⟨rfl,rfl⟩,λb z=>absurd z (noA b),e0.bs,e0.bsz,λb _ _=>noA b,λb z=>absurd z (noA b),e0.funs,e0.frf⟩,
  rfl,e0.bare,Un.kept hk,⟨_,x.toInCall.ns,λi y v h1 h2 h3=>?_⟩,λy c h=>⟨_,x.cell y c h⟩,e0.hok.fresh (zk _),λy c h=>?_,λp hp=>absurd (show p∈([]:List (Addr × Obj)) from hp) (by simp),e0.hok.kept hk,?_⟩
 ·exact name_of_addr x.apart (PySem.mem_of_lookup h1) (PySem.mem_of_lookup h2)
 ·have hy : scope.names.lookup y = some .cell \/ scope.names.lookup y = some .free := hy
  rcases hy with hy |hy
  ·exact Qc hy
  ·exact absurd rfl (S.nofree _ (PySem.mem_of_lookup hy))
 ·exact Nat.le_of_lt (x.above y c (PySem.mem_of_lookup h))
 ·have hi : i < vs.length := by
   unfold YZ at h2
   by_cases hi:i<vs.length
   ·exact hi
   ·rw [xp (by simpa using hi)] at h2
    rw[xr] at h2
    split at h2<;>cases h2
  have ha:vs[i]?=some v:=by
   unfold YZ at h2
   rw[xu (by simpa using hi),xn] at h2
   cases e:vs[i]? with
   |none=>rw[e] at h2;cases h2
   |some a=>rw[e] at h2;cases h2;rfl
  obtain⟨u,hu,rv⟩:=r.get ha
  have hp:ps[i]?=some y:=by
   rw[<- S.pre,List.getElem?_take_of_lt w6];exact h1
  have ndP:ps.Nodup:=by rw[<- S.pre];exact S.nd.sublist (List.take_sublist _ _)
  refine⟨u,rv,?_⟩
  rcases S.par y (xb hp) with k |k
  ·exact .inl ⟨k,Kc ndP hp hu k⟩
  ·obtain ⟨c, e⟩ := Qc (n := s.heap.objs.size + 1) k;refine .inr ⟨.inl k,c,e,?_⟩;have q:=x.cell y c e
   rw[Ke ndP hp hu (by show scope.names.lookup y≠_;rw[k];decide)] at q
   exact q
 ·exact e0.hok.fresh (Nat.le_of_lt (x.above y c (PySem.mem_of_lookup h)))
 ·unfold YZ;show _=N.length;rw[zE,zj,xJ];lia
def zY7{CX:CXT}{P:Program}{w:World}{K:W.Frag}{mg:Str->Option Value}{base:Heap}{k:Nat}{f:Addr}{name qual:Str}{params:Arguments}{body:List Stmt}{scope:Scope}{dV kV doc pm cdv ct oc:Value}{an od:Option Addr}
  {osl:Array (Option Value)}{N ps:List Str}{sp:Sp} (lk:K.lookup f=some ⟨oc,od,.func (W.fnOf name qual params body scope dV kV doc pm an cdv ct),osl⟩) (hcd:W.codeIn K cdv qual=true) (S:FnScope N ps scope)
  (len:∀vs H Q E,sp vs H Q E->vs.length=ps.length)
  (hbody : ∀ (A : Around) (outer : List Env) (s : Shared) (H : Hp) (vs : List V) (Q : VK) (E : XK), Room k (A.deeper (envOfC qual scope s.heap.objs.size f cdv)) -> sp vs H Q E ->
   ∃t,PSs (Jh CX P w K mg base N qual scope f cdv A outer s H E) body t/\t { nx:=λ_ H'=>Q .non H',rt:=Q } (YZ N vs) H) :
  FnOk P w K mg base CX (k+1) f (W.fnOf name qual params body scope dV kV doc pm an cdv ct) ps sp:=by
 refine⟨len,λA outer s H args us vs Q E hr e0 hb r hsp=>?_⟩;have hl:=len _ _ _ _ hsp;have KX:K.In s.heap:=e0.mod.kin.keeps λb o e=>(e0.bs b o e).1;have lim:s.heap.NoLimit:=e0.mod.nolimit.keeps λb o e=>(e0.bs b o e).1
 have hkind:∀y∈ps.zip us,scope.names.lookup y.1=some .local\/(scope.names.lookup y.1=some .cell/\((cellsFrom (s.heap.objs.size+1) scope.names []).lookup y.1).isSome=true):=fun⟨n,v⟩ hy=>by
  rcases S.par n (ye hy).1 with q |q
  ·exact .inl q
  ·exact .inr ⟨q,W.cellsFrom_some _ _ _ (.inl q)⟩
 refine codeAny_call_function hr.depth (KX _ _ lk) rfl S.co S.gen rfl (W.codeRec_of KX hcd) (hb _ _ _ _ ?_);refine wpAny_newFunctionEnv_cells S.kind hkind λenv he s1 x=>?_;subst he;refine⟨lim.keeps x.toInCall.keep,codeAny_func ?_⟩;obtain⟨t,ht,hq⟩:=hbody A outer s H vs Q E (hr.deeper _) hsp;have I:Inv (Jh CX P w K mg base N qual scope f cdv A outer s H E) [] (YZ N vs) H s1:=zk2 S hr.hd e0 hl r x;refine wa (ht [] s1 (YZ N vs) H _ I hq) (λfl s' hs=>?_) λe s' hs=>hs
 have fin:∀{σ':St}{H':Hp}{v:V}{u:Value},Inv (Jh CX P w K mg base N qual scope f cdv A outer s H E) [] σ' H' s'->RelV v u->Q v H'->CE outer P w H s Q u s':=
  λ{σ' H' v u} J rv q=>⟨v,H',J.os,J.bare,J.base,J.hok,rv,q⟩
 cases fl with
 |ret u=>
  obtain⟨v,σ',H',J,rv,q⟩:=hs;exact fin J rv q
 |next=>
  obtain⟨σ',H',J,q⟩:=hs;exact fin (v:=V.non) (u:=Value.none) J rfl q
 |brk=>
  obtain⟨_,_,_,q⟩:=hs;exact False.elim q
 |cont=>
  obtain⟨_,_,_,q⟩:=hs;exact False.elim q
section
variable {X:Cx}{x:Str}{p pos:Pos}{e:Expr}{es:List Expr}{t:TA}{id T:String}{r:List V->Hp->VK->Prop}
def tCB(r:List V->Hp->VK->Prop)(t:TA):TE:=λσ H Q=>t σ H λvs H1=>r vs H1 Q
def YO(hc:jw X (.builtin id) r)(hg:Gl X x)(hm:X.mg x=none)(hv:bootBuiltins x=some (.builtin id))(ha:PA X (e::es) t)(hn:x ≠ "__name__" := by decide)(hdb:(x == ("__debug__" : Str))=false:=by decide)
  (he:starEach (e::es) X.env=(false,eval e X.env)::starEach es X.env:=by rfl) (hpl:(backTo pos (starEach es X.env)).any (·.1)=false:=by rfl):PE X (.Call (.Name x p) (e::es) [] pos) (tCB r t):=by
 intro pins s σ H Q I h;refine wpAny_Call_Name_kw (UJ I hg hm hv ?_ hn hdb);exact PyProof.Rows.callWith_builtin1 (thn (ha pos pins s σ H _ I h) λus s1 ⟨vs,H1,I1,r1,q1⟩=>hc pins s1 σ H1 vs us Q I1 r1 q1) he hpl
def zf1(hc:jw X (.type T) r)(hg:Gl X x)(hm:X.mg x=none)(hv:bootBuiltins x=some (.type T))(ha:PA X (e::es) t)(hn:x ≠ "__name__" := by decide)(hdb:(x == ("__debug__" : Str))=false:=by decide)
  (he:starEach (e::es) X.env=(false,eval e X.env)::starEach es X.env:=by rfl) (hpl:(backTo pos (starEach es X.env)).any (·.1)=false:=by rfl):PE X (.Call (.Name x p) (e::es) [] pos) (tCB r t):=by
 intro pins s σ H Q I h;refine wpAny_Call_Name_kw (UJ I hg hm hv ?_ hn hdb);exact PyProof.Rows.callWith_type1 (thn (ha pos pins s σ H _ I h) λus s1 ⟨vs,H1,I1,r1,q1⟩=>hc pins s1 σ H1 vs us Q I1 r1 q1) he hpl
end
end L2
namespace HT
open PySem PyProof.Rows
section
open PySem.SeqAt
open PySem.AutoSeq1 (wpAny_loadPart')
open PySem.MeetsSeq PySem.MeetsSeq2 PySem.MeetsSeq3
end
section
variable {prog:Program}{w:World}{A:Around}{E:Value->Shared->Prop}{s:Shared}
def zO5{t b:Addr}{vs ws:List Value}{Q:Value->Shared->Prop}(ht:IsTup s.heap t vs.toArray)(hb:IsTup s.heap b ws.toArray)(hv:vs≠[])
  (h1:ws=[]->Q (.ref t) s) (h2:ws≠[]->Q (.ref s.heap.objs.size) { s with heap:=s.heap.push { cls:=.type "tuple",data:=.seq (vs++ws).toArray } })
  (hsz:vs.length+ws.length<=sizeLine):wpAny (model prog w) A (binaryOp .Add (.ref t) (.ref b)) Q E s:=by
 obtain⟨⟨cls,dd,data,sl⟩,ho,hc,n,hd⟩:=id ht;obtain⟨⟨cls2,dd2,data2,sl2⟩,ho2,hc2,n2,hd2⟩:=id hb;simp only at hc hd hc2 hd2;subst hc hd hc2 hd2
 have e:vs.toArray++ws.toArray=(vs++ws).toArray:=by simp
 by_cases hw:ws=[]
 ·exact concat_meets ⟨_,ho,rfl⟩ ⟨_,ho2,rfl⟩ noFill_tuple_add seq_tuple_add PySem.F.slot_tuple_add PySem.F.entry_tuple_add (PySem.F.args_tuple_add_2 _ _)
   (tuple_addW1 t b vs.toArray ws.toArray n n2 dd dd2 sl sl2 (by simpa using hv) (by simp[hw])) ⟨ho,ho2,h1 hw⟩
 ·refine concat_meets ⟨_, ho, rfl⟩ ⟨_, ho2, rfl⟩ noFill_tuple_add seq_tuple_add PySem.F.slot_tuple_add PySem.F.entry_tuple_add (PySem.F.args_tuple_add_2 _ _)
   (tuple_addW2 t b vs.toArray ws.toArray n n2 dd dd2 sl sl2 (by simpa using hv) (by simpa using hw) (by rw[zB,zB];exact hsz)) ⟨ho,ho2,?_⟩
  rw[e];exact h2 hw
def sIx(n d:Nat):Option Int->Nat
 |none=>d
 |some v=>if v<0 then(v+(n:Int)).toNat else min v.toNat n
def WZ(n d:Nat):sIx n d none=d:=rfl
def Va(n d k:Nat):sIx n d (some (k:Int))=min k n:=by
 show(if (k:Int)<0 then((k:Int)+(n:Int)).toNat else min (k:Int).toNat n)=min k n
 rw[if_neg w6,Int.toNat_natCast]
def zR2(n d:Nat)(hd:d<=n)(o:Option Int):sIx n d o<=n:=by
 cases o with
 |none=>exact hd
 |some v=>
  show(if v<0 then(v+(n:Int)).toNat else min v.toNat n)<=n
  by_cases hv:v<0
  ·rw[if_pos hv];lia
  ·rw[if_neg hv];exact Nat.min_le_right _ _
def zo0(v:Int)(n d:Nat):(if v<0 then max (v+(n:Int)) 0 else min v (n:Int))=((sIx n d (some v):Nat):Int):=by
 show(if v<0 then max (v+(n:Int)) 0 else min v (n:Int))=(((if v<0 then(v+(n:Int)).toNat else min v.toNat n):Nat):Int)
 by_cases hv:v<0
 ·simp only[if_pos hv];lia
 ·simp only[if_neg hv];lia
def QO(lo hi:Option Int)(n:Nat):Builtin.Slice.sliceAdjust lo hi 1 (n:Int)=(((sIx n 0 lo:Nat):Int),((sIx n n hi:Nat):Int)):=by
 have h1:¬ ((1:Int)<0):=w6
 unfold Builtin.Slice.sliceAdjust;simp only[h1,if_false];refine Prod.ext ?_ ?_
 ·cases lo with
  |none=>rfl
  |some v=>exact zo0 v n 0
 ·cases hi with
  |none=>rfl
  |some v=>exact zo0 v n n
def Qv(i j:Nat):Builtin.Slice.slicePlaces (i:Int) (j:Int) 1=j-i:=by
 unfold Builtin.Slice.slicePlaces
 have h1:(1:Int) > 0:=w6
 simp only[h1,if_true,Int.ediv_one]
 split<;>lia
def Wn{v:Value}{o:Option Int}{Q:Option Int->Shared->Prop}(p:IsPart v o)(h:Q o s):wpAny (model prog w) A (Builtin.Slice.slicePartIndex v) Q E s:=by
 cases p with
 |none=>exact slicePart_none h
 |int i t=>exact slicePart_int h
def qA{sl:Addr}{vl vu:Value}{lo hi:Option Int}{n:Nat}{Q:Int × Int × Nat->Shared->Prop}(hs:s.heap.IsSliceOf sl vl vu .none)(pl:IsPart vl lo)(pu:IsPart vu hi)
  (h:Q (((sIx n 0 lo:Nat):Int),1,sIx n n hi-sIx n 0 lo) s):wpAny (model prog w) A (Builtin.Slice.sliceApplied (.ref sl) (pure (n:Int))) Q E s:=by
 obtain⟨os,hos,hcs,hds⟩:=id hs;unfold Builtin.Slice.sliceApplied Builtin.Slice.sliceFields;refine zc (zc (xy hos hds (x:=vl) rfl (zc (xy hos hds (x:=vu) rfl (zc (xy hos hds (x:=.none) rfl (zo ?_)))))));refine zc (slicePart_none ?_)
 show wpAny _ _ (if ((1:Int) == 0)=true then _ else _) _ _ s
 rw[if_neg w9]
 refine zc (Wn pl (zc (Wn pu (zc (zo ?_)))))
 show wpAny _ _ (match Builtin.Slice.sliceAdjust lo hi 1 (n:Int) with |(lo,hi)=>pure (lo,(1:Int),Builtin.Slice.slicePlaces lo hi 1)) _ _ s
 rw[QO lo hi n];show wpAny _ _ (pure (((sIx n 0 lo:Nat):Int),(1:Int),Builtin.Slice.slicePlaces ((sIx n 0 lo:Nat):Int) ((sIx n n hi:Nat):Int) 1)) _ _ s;rw[Qv];exact zo h
def JF(xs:Array Value)(i k:Nat):((List.range k).filterMap fun(m:Nat)=>xs[((i:Int)+(m:Int)*1).toNat]?).toArray=((xs.toList.drop i).take k).toArray:=by
 have e:(fun(m:Nat)=>xs[((i:Int)+(m:Int)*1).toNat]?)=λm=>xs[i+m]?:=by
  funext m
  have:((i:Int)+(m:Int)*1).toNat=i+m:=w6
  rw[this]
 rw[e];have:=pick_run xs i k;rw[List.filterMap_map] at this;have e2:((λx=>xs[x]?)∘λx=>i+x)=λm=>xs[i+m]?:=rfl;rw[e2] at this;rw[this]
def ZZ{t sl:Addr}{items:Array Value}{vl vu:Value}{lo hi:Option Int}{Q:Value->Shared->Prop}(ht:IsTup s.heap t items)(hs:s.heap.IsSliceOf sl vl vu .none)(pl:IsPart vl lo)(pu:IsPart vu hi)
  (hw:¬ (sIx items.size 0 lo=0/\sIx items.size items.size hi=items.size))
  (h:Q (.ref s.heap.objs.size) { s with heap:=s.heap.push { cls:=.type "tuple",data:=.seq ((items.toList.drop (sIx items.size 0 lo)).take (sIx items.size items.size hi-sIx items.size 0 lo)).toArray } })
  (hsz:items.size<=sizeLine):wpAny (model prog w) A (getItem (.ref t) (.ref sl)) Q E s:=by
 have htake:sizeOk (.seq ((items.toList.drop (sIx items.size 0 lo)).take (sIx items.size items.size hi-sIx items.size 0 lo)).toArray):=by
  show((items.toList.drop (sIx items.size 0 lo)).take (sIx items.size items.size hi-sIx items.size 0 lo)).toArray.size<=sizeLine;rw[zB,wB,wo,ww];lia
 have hj:sIx items.size items.size hi<=items.size:=zR2 _ _ (zk _) hi;obtain⟨os,hos,hcs,hds⟩:=id hs;have hTs:s.TypeIs (.ref sl) "slice" := ⟨os,hos,hcs⟩;unfold getItem
 try with_reducible refine wq ?_
 first |refine zc (zo ?_) |skip
 refine zc (wpAny_sequenceKey ht.typeIs w9 ?_)
 refine zc (xY (name:=Str.ofString "__getitem__") ht.typeIs PyProof.Rows.slot_tuple_getitem
  (wQ PyProof.Rows.slot_tuple_getitem ht.typeIs entry_tuple_getitem ?_ (args_tuple_getitem _ _)))
 show wpAny _ _ (Builtin.Tuple.tupleItemsOf (.ref t) >>= _) _ _ s;refine zc (tupleItemsOf_ ht ?_);refine zc (wpAny_typeOf hTs ?_)
 rw[if_pos w9]
 refine zc (qA hs pl pu ?_)
 have hno:¬ ((((sIx items.size 0 lo:Nat):Int) == 0&&(1:Int) == 1&&(sIx items.size items.size hi-sIx items.size 0 lo) == items.size)=true):=by
  intro q;rw[zv,zv] at q;have q1:((sIx items.size 0 lo:Nat):Int)=0:=eq_of_beq q.1.1;have q2:sIx items.size items.size hi-sIx items.size 0 lo=items.size:=eq_of_beq q.2
  exact hw ⟨w6,w6⟩
 show wpAny _ _ (if (((sIx items.size 0 lo:Nat):Int) == 0&&(1:Int) == 1&&(sIx items.size items.size hi-sIx items.size 0 lo) == items.size)=true then _ else _) _ _ s
 rw[if_neg hno,JF]
 first
  |exact zc (m:=Builtin.Tuple.tupleExact _) (xM (zo ⟨_,rfl,zo h⟩) htake)
  |exact zc (m:=Builtin.Tuple.tupleExact _) (xM (zc (zo (zo ⟨_,rfl,zo h⟩))) htake)
  |exact zc (zc (m:=Builtin.Tuple.tupleExact _) (xM (zo (zo ⟨_,rfl,zo h⟩)) htake))
  |exact zc (zc (m:=Builtin.Tuple.tupleExact _) (xM (zo ⟨_,rfl,zo h⟩) htake))
end
end HT
namespace L2
abbrev TO:=St->Hp->(Option Int->Hp->Prop)->Prop
def PO(X:Cx)(e:Option Expr)(t:TO):Prop:=
 ∀(pins:List (Addr × Obj)) (s:Shared) (σ:St) (H:Hp) (Q:Option Int->Hp->Prop),Inv X pins σ H s->t σ H Q ->
  wpAny (model X.prog X.w) X.A (evalPart e X.env) (λu s'=>∃o H',Inv X pins σ H' s'/\IsPart u o/\Q o H') X.xe s
def zE5:TO:=λ_ H Q=>Q none H
def xd7(t:TE):TO:=λσ H Q=>t σ H λx H1=>∃i,x=.int i/\Q (some i) H1
section
variable {X:Cx}{e:Expr}{te:TE}{lo hi:Option Expr}{tl th:TO}{pos p2:Pos}
def ze5:PO X none zE5:=by
 intro pins s σ H Q I h;rw[evalPart_none];exact zo ⟨none,H,I,.none,h⟩
def ze4(h:PE X e te):PO X (some e) (xd7 te):=by
 intro pins s σ H Q I hw;rw[evalPart_some];refine thn (h pins s σ H _ I hw) λu s1 ⟨x,H1,I1,r1,q1⟩=>?_;obtain⟨i,rfl,q⟩:=q1;obtain⟨t,rfl⟩:=r1;exact⟨some i,H1,I1,.int i t,q⟩
def SlR(X:Cx)(r:V->Option Int->Option Int->Hp->VK->Prop):Prop:=
 ∀(pins:List (Addr × Obj)) (s:Shared) (σ:St) (H:Hp) (x:V) (v vl vu:Value) (lo hi:Option Int) (sl:Addr) (Q:VK),Inv X pins σ H s->RelV x v->s.heap.IsSliceOf sl vl vu .none->IsPart vl lo->IsPart vu hi->r x lo hi H Q ->
  ∃T id,typeLookup (.type T) "__getitem__" = pure (some (.builtin id))/\s.TypeIs v T/\wpAny (model X.prog X.w) X.A (getItem v (.ref sl)) (EP X pins σ Q) X.xe s
def tSl(r:V->Option Int->Option Int->Hp->VK->Prop)(te:TE)(tl th:TO):TE:=λσ H Q=>te σ H λx H1=>tl σ H1 λl H2=>th σ H2 λu H3=>r x l u H3 Q
def YN{r:V->Option Int->Option Int->Hp->VK->Prop}(hr:SlR X r)(he:PE X e te)(hl:PO X lo tl)(hu:PO X hi th):PE X (.Subscript e (.Slice lo hi none p2) pos) (tSl r te tl th):=by
 intro pins s σ H Q I h;refine Subscript_ (thn (he pins s σ H _ I h) λv s1 ⟨x,H1,I1,r1,q1⟩=>?_);refine wpAny_Slice (thn (hl pins s1 σ H1 _ I1 q1) λvl s2 ⟨l,H2,I2,pl,q2⟩=>thn (hu pins s2 σ H2 _ I2 q2) λvu s3 ⟨u,H3,I3,pu,q3⟩=>?_);rw[evalPart_none];refine zo ?_;have I4:Inv X pins σ H3 { s3 with heap:=s3.heap.push { cls:=.type "slice",data:=.fields #[vl,vu,.none] } }:=I3.kept (t':=s3.toks) λb ob q=>zg _ q;obtain⟨T,id,hT,ht,hg⟩:=hr pins { s3 with heap:=s3.heap.push { cls:=.type "slice",data:=.fields #[vl,vu,.none] } } σ H3 x v vl vu l u s3.heap.objs.size Q I4 r1 (Heap.IsSliceOf.new ..) pl pu q3;show wpAny (model X.prog X.w) X.A (subscriptTail e (.Slice lo hi none p2) v (.ref s3.heap.objs.size)) (EP X pins σ Q) X.xe { s3 with heap:=s3.heap.push { cls:=.type "slice",data:=.fields #[vl,vu,.none] } }
 exact tail_any (ops:=[.ref s3.heap.objs.size,v]) ht hT hg (by with_unfolding_all rfl)
def zy5(xs:List V)(lo hi:Option Int):List V:=(xs.drop (HT.sIx xs.length 0 lo)).take (HT.sIx xs.length xs.length hi-HT.sIx xs.length 0 lo)
def XI(xs:List V)(lo hi:Option Int):(zy5 xs lo hi).length<=xs.length:=by
 unfold zy5;rw[wB,wo];lia
def xw6(K:W.Frag):V->Option Int->Option Int->Hp->VK->Prop:=λx lo hi H Q=>∃a xs,x=.ref a/\SqT K H a xs /\
 ¬ (HT.sIx xs.length 0 lo=0/\HT.sIx xs.length xs.length hi=xs.length)/\∀p,H p=none->Q (.ref p) (upd H p (.tup (zy5 xs lo hi)))
def zQ5:SlR X (xw6 X.K):=by
 intro pins s σ H x v vl vu lo hi sl Q I rx hs pl pu h;obtain⟨a,xs,rfl,hx,hw,q⟩:=h;cases rx;obtain⟨its,r,ht,hz⟩:=I.tuple hx
 have hlen:its.toArray.size=xs.length:=by rw[zB];exact r.length.symm
 refine⟨"tuple",_,PyProof.Rows.slot_tuple_getitem.lookup,ht.typeIs,?_⟩
 refine HT.ZZ ht hs pl pu (by rw[hlen];exact hw) ?_ (by rw[hlen];exact hz)
 rw[hlen];refine⟨.ref s.heap.objs.size,_,I.laid (t':=s.toks) (o:=.tup (zy5 xs lo hi)) (λb ob q=>zg _ q) (zk _) ?_,rfl,q _ (I.hok.fresh (zk _))⟩;exact⟨zm (XI xs lo hi) hz,_,(r.drop (HT.sIx xs.length 0 lo)).take (HT.sIx xs.length xs.length hi-HT.sIx xs.length 0 lo),IsTup.new _ _⟩
def xf5(K:W.Frag):R2:=λx y H Q=>∃a b xs ys,x=.ref a/\y=.ref b/\SqT K H a xs/\SqT K H b ys/\xs≠[]/\xs.length+ys.length<=sizeLine /\
 (ys=[]->Q (.ref a) H)/\(ys≠[]->∀p,H p=none->Q (.ref p) (upd H p (.tup (xs++ys))))
def Vals.nil_iff{xs:List V}{us:List Value}(r:Vals xs us):us=[]↔xs=[]:=by
 cases r with
 |nil=>simp
 |cons _ _=>simp
def zK3:OpR X (binaryOp .Add) (xf5 X.K):=by
 intro pins s σ H x y v u Q I rx ry h;obtain⟨a,b,xs,ys,rfl,rfl,ha,hb,hx,hz,q1,q2⟩:=h;cases rx;cases ry;obtain⟨its,r1,p1,_⟩:=I.tuple ha;obtain⟨its2,r2,p2,_⟩:=I.tuple hb
 refine HT.zO5 p1 p2 (λz=>hx (r1.nil_iff.mp z)) (λz=>⟨.ref a,H,I,rfl,q1 (r2.nil_iff.mp z)⟩) (λz=>?_) (by rw[<- r1.length,<- r2.length];exact hz)
 refine⟨.ref s.heap.objs.size,_,I.laid (t':=s.toks) (o:=.tup (xs++ys)) (λb ob q=>zg _ q) (zk _) ?_,rfl,q2 (λw=>z (r2.nil_iff.mpr w)) _ (I.hok.fresh (zk _))⟩
 exact⟨by rw[zE];exact hz,_,r1.append r2,IsTup.new _ _⟩
end
def ixN(n:Nat)(i:Int):Option Nat:=if 0<=i then(if i<n then some i.toNat else none) else if -(n:Int)<=i then some (i+n).toNat else none
def atI{α:Type}(xs:List α)(i:Int):Option α:=(ixN xs.length i).bind λj=>xs[j]?
def zk1{n:Nat}{i:Int}{j:Nat}(h:ixN n i=some j):seqIndex? i n=some j/\j<n/\-(n:Int)<=i/\i<n:=by
 unfold ixN at h
 by_cases h0:0<=i
 ·rw [if_pos h0] at h
  by_cases h1:i<n
  ·rw [if_pos h1] at h;have e:i.toNat=j:=xk h
   exact⟨by rw[seqIndex_of h0 h1,e],w6,w6,h1⟩
  ·rw[if_neg h1] at h;cases h
 ·rw [if_neg h0] at h
  by_cases h1:-(n:Int)<=i
  ·rw [if_pos h1] at h;have e:(i+n).toNat=j:=xk h
   exact⟨by rw[seqIndex_neg w6 h1,e],w6,h1,w6⟩
  ·rw[if_neg h1] at h;cases h
def Jj{α:Type}{xs:List α}{i:Int}{v:α}(h:atI xs i=some v):∃j,seqIndex? i xs.length=some j/\xs[j]?=some v/\j<xs.length/\-(xs.length:Int)<=i/\i<xs.length:=by
 unfold atI at h
 cases e:ixN xs.length i with
 |none=>rw[e] at h;cases h
 |some j=>
  rw[e] at h;obtain⟨h1,h2,h3,h4⟩:=zk1 e;exact⟨j,h1,h,h2,h3,h4⟩
def VF{α:Type}{xs:List α}{j:Nat}{v:α}(h:xs[j]?=some v):atI xs (j:Int)=some v:=by
 have hj:j<xs.length:=(zM.mp h).1
 have e:ixN xs.length (j:Int)=some j:=by
  unfold ixN
  rw[if_pos w6,if_pos w6];simp
 unfold atI;rw[e];exact h
def VG(b:Expr):Prop:=∀o i,subscripted b false o i=operate [o,i] (getItem o i)
def IxR(X:Cx)(r:R2):Prop:=
 ∀(value slice:Expr) (pins:List (Addr × Obj)) (s:Shared) (σ:St) (H:Hp) (x y:V) (v u:Value) (Q:VK),Inv X pins σ H s->RelV x v->RelV y u->r x y H Q ->
  subscripted slice false v u=operate [v,u] (getItem v u)->wpAny (model X.prog X.w) X.A (subscriptTail value slice v u) (EP X pins σ Q) X.xe s
def MtR(X:Cx)(id:String)(r:V->List V->Hp->VK->Prop):Prop:=
 ∀(pins:List (Addr × Obj)) (s:Shared) (σ:St) (H:Hp) (x:V) (xs:List V) (v:Value) (us:List Value) (Q:VK),Inv X pins σ H s->RelV x v->Vals xs us->r x xs H Q ->
  wpAny (model X.prog X.w) X.A (call (.builtin id) (v::us)) (EP X pins σ Q) X.xe s
section
variable {X:Cx}{a b:Expr}{ta tb:TE}{pos:Pos}
def IxR.or{r r':R2}(h:IxR X r)(h':IxR X r'):IxR X (λx y H Q=>r x y H Q\/r' x y H Q):=by
 intro value slice pins s σ H x y v u Q I rx ry q hs
 rcases q with q |q
 ·exact h value slice pins s σ H x y v u Q I rx ry q hs
 ·exact h' value slice pins s σ H x y v u Q I rx ry q hs
def zt6{r:R2}(hr:IxR X r)(ha:PE X a ta)(hb:PE X b tb)(hs:VG b):PE X (.Subscript a b pos) (tOp r ta tb):=by
 intro pins s σ H Q I h;exact Subscript_ (xn1 ha hb I h λv u s2 x y H2 I2 rx ry q=>hr a b pins s2 σ H2 x y v u Q I2 rx ry q (hs _ _))
def xo6(K:W.Frag):R2:=λx y H Q=>∃p xs i v,x=.ref p/\y=.int i/\SqL K H p xs/\atI xs i=some v/\Q v H
def xo4(K:W.Frag):R2:=λx y H Q=>∃p xs i v,x=.ref p/\y=.int i/\SqT K H p xs/\atI xs i=some v/\Q v H
def xo5:R2:=λx y H Q=>∃z i c,x=.str z/\y=.int i/\z.length<=sizeLine/\atI z.cps.toList i=some c/\Q (.str ⟨#[c]⟩) H
def Vz:IxR X (xo6 X.K):=by
 intro value slice pins s σ H x y v u Q I rx ry h hs;obtain⟨p,xs,i,z,rfl,rfl,hq,he,q⟩:=h;cases rx;obtain⟨t,rfl⟩:=ry;obtain⟨its,r,pl,hz⟩:=I.list hq;obtain⟨j,h1,h2,h3,h4,h5⟩:=Jj he;obtain⟨w,ew,rw'⟩:=r.get h2;have hl:=r.length;have hn:=UI;have fin:EP X pins σ Q w s:=⟨z,H,I,rw',q⟩
 by_cases h0:0<=i
 ·have hj : i.toNat = j := by
   rw[seqIndex_of h0 h5] at h1;exact xk h1
  exact item_listR pl.isList h0 w6 (by rw[hj];simpa using ew) fin hs
 ·have hj : (i + (its.toArray.size : Int)).toNat = j := by
   rw[seqIndex_neg w6 h4] at h1
   rw[zB,<- hl];exact xk h1
  exact subscriptTail_builtinR (x:=w) pl.isList.typeIs slot_list_getitem.lookup
   (wpAny_getItem_list_neg (Q:=λr s'=>r=w/\EP X pins σ Q r s') pl.isList w6 (by rw[zB]<;>lia) w6 (by rw[hj];simpa using ew) ⟨rfl,fin⟩) hs
def zX7:IxR X (xo4 X.K):=by
 intro value slice pins s σ H x y v u Q I rx ry h hs;obtain⟨p,xs,i,z,rfl,rfl,hq,he,q⟩:=h;cases rx;obtain⟨t,rfl⟩:=ry;obtain⟨its,r,pl,hz⟩:=I.tuple hq;obtain⟨j,h1,h2,h3,h4,h5⟩:=Jj he;obtain⟨w,ew,rw'⟩:=r.get h2;have hl:=r.length;have hn:=UI;have fin:EP X pins σ Q w s:=⟨z,H,I,rw',q⟩
 exact subscriptTail_builtinR (x:=w) pl.typeIs slot_tuple_getitem.lookup
  (getItem_tuple (j:=j) (Q:=λr s'=>r=w/\EP X pins σ Q r s') pl w6 w6 (by rw[zB,<- hl];exact h1) (by simpa using ew) ⟨rfl,fin⟩) hs
def zX8:IxR X xo5:=by
 intro value slice pins s σ H x y v u Q I rx ry h hs;obtain⟨z,i,c,rfl,rfl,hz,he,q⟩:=h;obtain⟨t,rfl⟩:=rx;obtain⟨t',rfl⟩:=ry;obtain⟨j,h1,h2,h3,h4,h5⟩:=Jj he
 have hl:z.cps.toList.length=z.length:=by simp[Str.length]
 rw[hl] at h1 h4 h5;have hn:=UI
 exact tail_any (typeIs_str s z t) slot_str_getitem.lookup (getItem_str (c:=c) (by
  have e1:decide (i < -(2^63:Int))=false:=zO w6
  have e2:decide (i>=2^63)=false:=zO w6
  rw[e1,e2,Bool.or_false]) (by rw[h1];simpa using h2) ⟨.str ⟨#[c]⟩,H,I.tok _,⟨_,rfl⟩,q⟩) hs
def rIx(K:W.Frag):R2:=λx y H Q=>xo6 K x y H Q\/xo4 K x y H Q\/xo5 x y H Q
def wb:IxR X (rIx X.K):=Vz.or (zX7.or zX8)
def QF(its:List Value)(n j:Nat)(u:Value):Obj.mapSeq (·.setIfInBounds j u) { cls:=.type "list",data:=.seq its.toArray n }={ cls:=.type "list",data:=.seq (its.set j u).toArray n }:=by
 simp[Obj.mapSeq]
def Inv.lst{pins:List (Addr × Obj)}{σ:St}{H:Hp}{s:Shared}{p:Addr}{xs:List V}(I:Inv X pins σ H s)(h:H p=some (.lst xs)) :
  ∃(its:List Value) (n:Nat),Vals xs its/\s.heap.get? p=some { cls:=.type "list",data:=.seq its.toArray n }/\xs.length<=sizeLine:=by
 obtain⟨z,its,n,r,e⟩:=I.hok p _ h;exact⟨its,n,r,e,z⟩
def Inv.lstUpd{pins:List (Addr × Obj)}{σ:St}{H:Hp}{s:Shared}{p:Addr}{xs ys:List V}{its its':List Value}{n n':Nat}{f:Obj->Obj}(I:Inv X pins σ H s)(h:H p=some (.lst xs))
  (ho:s.heap.get? p=some { cls:=.type "list",data:=.seq its.toArray n }) (hf:f { cls:=.type "list",data:=.seq its.toArray n }={ cls:=.type "list",data:=.seq its'.toArray n' }) (r:Vals ys its') (hz:ys.length<=sizeLine) (t:Nat) :
  Inv X pins σ (upd H p (.lst ys)) { s with heap:=s.heap.update p f,toks:=t }:=by
 have e:(s.heap.update p f).get? p=some { cls:=.type "list",data:=.seq its'.toArray n' }:=by
  rw[Heap.get?_update_self f ho (by rw[hf]<;>rfl),hf]
 refine I.write (x:=p) (e:=p) (by rw[h];trivial) (.inl rfl) (λb u hb q=>(wU _ _ (Ne.symm hb)).trans q) ⟨_,e⟩ ?_
 exact⟨hz,its',n',r,e⟩
def xf3:V->V->V->Hp->(Hp->Prop)->Prop:=λo i v H Q=>∃p xs k j,o=.ref p/\i=.int k/\H p=some (.lst xs)/\ixN xs.length k=some j/\Q (upd H p (.lst (xs.set j v)))
def zr1:xv0 X xf3:=by
 intro pins s σ H o i v ov iv u Q I ro ri rv h;obtain⟨p,xs,k,j,rfl,rfl,hp,hj,q⟩:=h;cases ro;obtain⟨t,rfl⟩:=ri;obtain⟨its,n,r,ho,hz⟩:=I.lst hp;obtain⟨h1,h2,h3,h4⟩:=zk1 hj;have hl:=r.length;have hn:=UI
 have I':Inv X pins σ (upd H p (.lst (xs.set j v))) { s with heap:=s.heap.update p (Obj.mapSeq (·.setIfInBounds j u)) }:=
  I.lstUpd hp ho (QF its n j u) (r.set rv j) (by rw[List.length_set];exact hz) s.toks
 by_cases h0:0<=k
 ·have hk : k.toNat = j := by
   rw[seqIndex_of h0 h4] at h1;exact xk h1
  exact W.ki_setAt ho h0 w6 (by rw[zB,<- hl];exact h4) (by rw[hk];exact⟨_,I',q⟩)
 ·have hk : (k + (its.toArray.size : Int)).toNat = j := by
   rw[seqIndex_neg w6 h3] at h1
   rw[zB,<- hl];exact xk h1
  exact W.ki_setBack ho w6 (by rw[zB,<- hl];exact h3) w6 (by rw[hk];exact⟨_,I',q⟩)
def Ub(lo hi:Option Int)(n:Nat):(sliceBounds lo hi none n).1=((HT.sIx n 0 lo:Nat):Int)/\(sliceBounds lo hi none n).2.1=((HT.sIx n n hi:Nat):Int)/\(sliceBounds lo hi none n).2.2=1:=by
 refine⟨?_,?_,rfl⟩
 ·cases lo with
  |none=>simp[sliceBounds,HT.sIx]
  |some i=>
   simp only[sliceBounds,HT.sIx,Option.getD_none,show(1:Int) > 0 by decide,if_true]
   by_cases h:i<0
   ·simp only[h,if_true]<;>lia
   ·simp only[h,if_false]<;>lia
 ·cases hi with
  |none=>simp[sliceBounds,HT.sIx]
  |some i=>
   simp only[sliceBounds,HT.sIx,Option.getD_none,show(1:Int) > 0 by decide,if_true]
   by_cases h:i<0
   ·simp only[h,if_true]<;>lia
   ·simp only[h,if_false]<;>lia
def WR(its:List Value)(lo hi:Option Int):slicePick its.toArray lo hi none=((its.drop (HT.sIx its.length 0 lo)).take (HT.sIx its.length its.length hi-HT.sIx its.length 0 lo)).toArray:=by
 obtain⟨h1,h2,h3⟩:=Ub lo hi its.toArray.size;unfold slicePick;rw[h1,h2,h3]
 simp only[sliceRange_one,pick_run,zB]<;>rfl
def xw7(K:W.Frag):V->Option Int->Option Int->Hp->VK->Prop:=λx lo hi H Q=>∃a xs,x=.ref a/\SqL K H a xs/\∀p,H p=none->Q (.ref p) (upd H p (.lst (zy5 xs lo hi)))
def zb3:SlR X (xw7 X.K):=by
 intro pins s σ H x v vl vu lo hi sl Q I rx hs pl pu h;obtain⟨a,xs,rfl,hx,q⟩:=h;cases rx;obtain⟨its,r,ht,hz⟩:=I.list hx;have hlen:=r.length;refine⟨"list",_,slot_list_getitem.lookup,ht.isList.typeIs,?_⟩
 refine wpAny_getItem_list_slice ht.isList hs pl pu .none (by simp) ?_ (by rw[zB]<;>lia)
 rw[WR,<- hlen];refine⟨.ref s.heap.objs.size,_,I.laid (t':=s.toks) (o:=.lst (zy5 xs lo hi)) (λb ob q=>zg _ q) (zk _) ?_,rfl,q _ (I.hok.fresh (zk _))⟩;exact⟨zm (XI xs lo hi) hz,_,0,(r.drop (HT.sIx xs.length 0 lo)).take (HT.sIx xs.length xs.length hi-HT.sIx xs.length 0 lo),zw _ rfl⟩
def Wf:V->Bool
 |.non=>true
 |.bl _=>true
 |.int _=>true
 |.str _=>true
 |_=>false
def eqV:V->V->Bool
 |.non,.non=>true
 |.bl a,.bl b=>a == b
 |.bl a,.int b=>(if a then 1 else 0) == b
 |.int a,.bl b=>a == (if b then 1 else 0)
 |.int a,.int b=>a == b
 |.str a,.str b=>a == b
 |_,_=>false
def zZ1{A:Around}{s:Shared}{y x:V}{u v:Value}(ry:RelV y u)(rx:RelV x v)(fy:Wf y=true)(fx:Wf x=true):SeqAt.EqAt A s u v (eqV y x):=by
 cases y with
 |non=>
  cases ry
  cases x with
  |non=>cases rx;exact SeqAt.EqAt.same _
  |bl b=>cases rx;exact SeqAt.EqAt.none_bool b
  |int b=>obtain⟨t,rfl⟩:=rx;exact SeqAt.EqAt.none_int b t
  |str b=>obtain⟨t,rfl⟩:=rx;exact SeqAt.EqAt.none_str b t
  |_=>exact absurd (show false=true from fx) zI
 |bl a=>
  cases ry
  cases x with
  |non=>cases rx;exact SeqAt.EqAt.bool_none a
  |bl b=>cases rx;exact SeqAt.EqAt.bool_bool a b
  |int b=>obtain⟨t,rfl⟩:=rx;exact SeqAt.EqAt.bool_int a b t
  |str b=>obtain⟨t,rfl⟩:=rx;exact SeqAt.EqAt.bool_str a b t
  |_=>exact absurd (show false=true from fx) zI
 |int a=>
  obtain⟨t',rfl⟩:=ry
  cases x with
  |non=>cases rx;exact SeqAt.EqAt.int_none a t'
  |bl b=>cases rx;exact SeqAt.EqAt.int_bool a t' b
  |int b=>obtain⟨t,rfl⟩:=rx;exact SeqAt.EqAt.int_int a t' b t
  |str b=>obtain⟨t,rfl⟩:=rx;exact SeqAt.EqAt.int_str a t' b t
  |_=>exact absurd (show false=true from fx) zI
 |str a=>
  obtain⟨t',rfl⟩:=ry
  cases x with
  |non=>cases rx;exact SeqAt.EqAt.str_none a t'
  |bl b=>cases rx;exact SeqAt.EqAt.str_bool a t' b
  |int b=>obtain⟨t,rfl⟩:=rx;exact SeqAt.EqAt.str_int a t' b t
  |str b=>obtain⟨t,rfl⟩:=rx;exact SeqAt.EqAt.str_str a t' b t
  |_=>exact absurd (show false=true from fx) zI
 |_=>exact absurd (show false=true from fy) zI
def eqU(x:V)(u:Value):Bool:=match u with
 |.none=>eqV .non x
 |.bool b=>eqV (.bl b) x
 |.int i _=>eqV (.int i) x
 |.str z _=>eqV (.str z) x
 |_=>false
def zC9{x y:V}{u:Value}(r:RelV y u)(f:Wf y=true):eqU x u=eqV y x:=by
 cases y with
 |non=>cases r;rfl
 |bl b=>cases r;rfl
 |int i=>obtain⟨t,rfl⟩:=r;rfl
 |str z=>obtain⟨t,rfl⟩:=r;rfl
 |_=>exact absurd (show false=true from f) zI
theorem XT{x:V}:∀{xs:List V}{us:List Value},Vals xs us->xs.all Wf=true->us.any (eqU x)=xs.any λy=>eqV y x
 |_,_,.nil,_=>rfl
 |y::xs,u::us,.cons r t,f=>by
  rw[ym,zv] at f;rw[yl,yl,zC9 r f.1,XT t f.2]
theorem Zn{A:Around}{s:Shared}{x:V}{v:Value}(rx:RelV x v)(fx:Wf x=true):∀{xs:List V}{us:List Value},Vals xs us->xs.all Wf=true->∀u∈us,SeqAt.EqAt A s u v (eqU x u)
 |_,_,.nil,_=>λu hu=>by cases hu
 |y::xs,u::us,.cons r t,f=>λu' hu=>by
  rw[ym,zv] at f
  rcases zi.mp hu with rfl |hu
  ·rw[zC9 r f.1];exact zZ1 r rx f.1 fx
  ·exact Zn rx fx t f.2 u' hu
def inV(x:V)(xs:List V):Bool:=xs.any λy=>eqV y x
def rIn(K:W.Frag)(neg:Bool):R2:=λx y H Q=>∃p xs,y=.ref p/\(SqL K H p xs\/SqT K H p xs)/\Wf x=true/\xs.all Wf=true/\Q (.bl (if neg then !inV x xs else inV x xs)) H
def Uw:OpR X (compareOp .In) (rIn X.K false):=by
 intro pins s σ H x y v u Q I rx ry h;obtain⟨p,xs,rfl,hq,fx,fs,q⟩:=h;cases ry
 rcases hq with hq |hq
 ·obtain ⟨its, r, pl, hz⟩ := I.list hq
  refine SeqAt.in_listAt (eqU x) pl.isList (λw hw=>Zn rx fx r fs w (by simpa using hw)) ⟨.bl _,H,I,rfl,?_⟩
  rw[show its.toArray.any (eqU x)=its.any (eqU x) by simp,XT r fs]
  exact q
 ·obtain ⟨its, r, pl, hz⟩ := I.tuple hq
  refine SeqAt.in_tupleAt (eqU x) pl (λw hw=>Zn rx fx r fs w (by simpa using hw)) ⟨.bl _,H,I,rfl,?_⟩
  rw[show its.toArray.any (eqU x)=its.any (eqU x) by simp,XT r fs]
  exact q
def kc:OpR X (compareOp .NotIn) (rIn X.K true):=by
 intro pins s σ H x y v u Q I rx ry h;obtain⟨p,xs,rfl,hq,fx,fs,q⟩:=h;cases ry
 rcases hq with hq |hq
 ·obtain ⟨its, r, pl, hz⟩ := I.list hq
  refine SeqAt.notIn_listAt (eqU x) pl.isList (λw hw=>Zn rx fx r fs w (by simpa using hw)) ⟨.bl _,H,I,rfl,?_⟩
  rw[show its.toArray.any (eqU x)=its.any (eqU x) by simp,XT r fs]
  exact q
 ·obtain ⟨its, r, pl, hz⟩ := I.tuple hq
  refine SeqAt.notIn_tupleAt (eqU x) pl (λw hw=>Zn rx fx r fs w (by simpa using hw)) ⟨.bl _,H,I,rfl,?_⟩
  rw[show its.toArray.any (eqU x)=its.any (eqU x) by simp,XT r fs]
  exact q
def we:jw X (.builtin "len") (λxs H Q=>∃p ys,xs=[.ref p]/\(SqL X.K H p ys\/SqT X.K H p ys)/\Q (.int ys.length) H):=by
 intro pins s σ H xs us Q I r h;obtain⟨p,ys,rfl,hq,q⟩:=h;obtain⟨u,rfl,rx⟩:=VQ r;cases rx;have hn:=UI
 rcases hq with hq |hq
 ·obtain ⟨its, r', pl, hz⟩ := I.list hq;have hlen:=r'.length
  exact Calls.call_len_list pl.isList (by simp only[zB]<;>lia) ⟨.int ys.length,H,I.tok _,⟨s.toks+1,by rw[zB,hlen]⟩,q⟩
 ·obtain ⟨its, r', pl, hz⟩ := I.tuple hq;have hlen:=r'.length
  exact len_tuple pl (by simp only[zB]<;>lia) ⟨.int ys.length,H,I.tok _,⟨s.toks+1,by rw[zB,hlen]⟩,q⟩
def yO:jw X (.type "tuple") (λxs H Q=>∃p ys,xs=[.ref p]/\((SqL X.K H p ys/\∀l,H l=none->Q (.ref l) (upd H l (.tup ys)))\/(SqT X.K H p ys/\Q (.ref p) H))):=by
 intro pins s σ H xs us Q I r h;obtain⟨p,ys,rfl,h⟩:=h;obtain⟨u,rfl,rx⟩:=VQ r;cases rx
 rcases h with ⟨hq,q⟩ |⟨hq,q⟩
 ·obtain ⟨its, r', pl, hz⟩ := I.list hq;have hlen:=r'.length
  refine call_tuple_list pl.isList (λh' kp=>?_) (by simp only[zB]<;>lia)
  have I1:Inv X pins σ H { s with heap:=h' }:=I.kept (t':=s.toks) kp
  have I2:Inv X pins σ (upd H h'.objs.size (.tup ys)) { s with heap:=h'.push { cls:=.type "tuple",data:=.seq its.toArray } }:=
   I1.laid (t':=s.toks) (λb o e=>zg _ e) (zk _) (show ObjOk X.prog X.w _ _ _ (.tup ys) from⟨hz,its,r',IsTup.new _ _⟩)
  exact⟨.ref h'.objs.size,_,I2,rfl,q _ (I1.hok.fresh (zk _))⟩
 ·obtain⟨its,r',pl,hz⟩:=I.tuple hq;exact call_tuple_same pl ⟨.ref p,H,I,rfl,q⟩
def tyV(K:W.Frag)(T:String)(x:V)(H:Hp):Prop:=match x with
 |.str _=>T = "str"
 |.int _=>T = "int"
 | .ref p => (T = "list" /\ ∃ xs, SqL K H p xs) \/ (T = "tuple" /\ ∃ o, K.lookup p = some o /\ o.cls = .type "tuple" /\ o.dict = none) \/
   (T = "dict" /\ ((∃kvs,H p=some (.dK kvs))\/∃kvs,H p=some (.dT kvs)))\/(T = "set" /\ ∃S n,H p=some (.set S n))
 |_=>False
def zQ0{pins:List (Addr × Obj)}{σ:St}{H:Hp}{s:Shared}{T:String}{x:V}{v:Value}(I:Inv X pins σ H s)(r:RelV x v)(ty:tyV X.K T x H) :
  s.TypeIs v T/\∀a,v=.ref a->∃ob,s.heap.get? a=some ob/\ob.dict=none:=by
 cases x with
 |str z=>
  obtain⟨t,rfl⟩:=r;cases(show T = "str" from ty)
  exact⟨typeIs_str s z t,λ_ e=>nomatch e⟩
 |int i=>
  obtain⟨t,rfl⟩:=r;cases(show T = "int" from ty)
  exact⟨typeIs_int s i t,λ_ e=>nomatch e⟩
 | ref p =>
  cases r
  rcases ty with ⟨rfl,xs,hq⟩ |⟨rfl,o,hk,hc,hd⟩ |⟨rfl,hk⟩ |⟨rfl,S,n,hk⟩
  ·obtain⟨its,_,pl,_⟩:=I.list hq;refine⟨pl.isList.typeIs,λa e=>?_⟩;cases e;obtain⟨o,n,e,c,hd,_⟩:=pl;exact⟨o,e,hd⟩
  ·refine⟨⟨o,I.kIn p o hk,hc⟩,λa e=>?_⟩;cases e;exact⟨o,I.kIn _ o hk,hd⟩
  ·have z : ∃ o, s.heap.get? p = some o /\ o.ExactDict := by
    rcases hk with ⟨kvs,hk⟩ |⟨kvs,hk⟩
    ·obtain⟨_,_,_,_,o,_,_,e,ex,_⟩:=I.hok p _ hk;exact⟨o,e,ex⟩
    ·obtain⟨_,_,_,_,o,_,_,e,ex,_⟩:=I.hok p _ hk;exact⟨o,e,ex⟩
   obtain⟨o,e,ex⟩:=z;refine⟨⟨o,e,ex.1⟩,λa e2=>?_⟩;cases e2;exact⟨o,e,ex.2.1⟩
  ·obtain⟨o,_,_,_,e,ex,_⟩:=I.hok p _ hk;refine⟨⟨o,e,ex.1⟩,λa e2=>?_⟩;cases e2;exact⟨o,e,ex.2.1⟩
 |_=>exact False.elim ty
def tBM(K:W.Frag)(T:String)(r:V->List V->Hp->VK->Prop)(to:TE)(t:TA):TE:=λσ H Q=>to σ H λx H1=>tyV K T x H1/\t σ H1 λxs H2=>r x xs H2 Q
variable {o e:Expr}{es:List Expr}{to:TE}{t:TA}{name:Str}{apos cpos:Pos}{T id:String}{r:V->List V->Hp->VK->Prop}
def zU6(pa:PlainAttrs T)(slot:Slot T name id)(hty:typeOf (.builtin id)=pure (.type "method_descriptor"))(hm:MtR X id r)(ho:PE X o to)(ha:PA X (e::es) t)
  (hbase:attributeBase o name X.env (eval o X.env)=eval o X.env:=by rfl)
  (hfew : ((backTo cpos (starEach (e :: es) X.env)).all (λx => !x.1) && (backToKw cpos (keywordEach [] X.env)).all (λx => x.1.isSome)
   && decide ((e::es).length+([]:List Keyword).length+(if ([]:List Keyword).isEmpty then 0 else 1)<30))=true:=by rfl)
  (hline:(apos.endLine == cpos.line)=true:=by rfl) (hs:starEach (e::es) X.env=(false,eval e X.env)::starEach es X.env:=by rfl) (hplain:(backTo cpos (starEach es X.env)).any (·.1)=false:=by rfl) :
  PE X (.Call (.Attribute o name apos) (e::es) [] cpos) (tBM X.K T r to t):=by
 intro pins s σ H Q I h;refine wpAny_Call_method_late hbase hfew hline rfl (thn (ho pins s σ H _ I h) λv s1 ⟨x,H1,I1,r1,ty,q1⟩=>?_);obtain⟨h1,h2⟩:=zQ0 I1 r1 ty;refine⟨T,id,pa,slot,hty,h1,h2,?_⟩;have hA:=ha cpos pins s1 σ H1 _ I1 q1;rw[hs] at hA ⊢
 refine Calls.callWith_builtin (by show(false||(backTo cpos (starEach es X.env)).any (·.1))=false;rw[hplain]<;>rfl) (Calls.evalArgs_plain ?_)
 exact thn hA λus s2 ⟨vs,H2,I2,r2,q2⟩=>hm pins s2 σ H2 x vs v us Q I2 r1 r2 q2
end
def MtM(X:Cx)(id:String)(r:V->List V->Hp->VK->Prop):Prop:=
 ∀(pins:List (Addr × Obj)) (s:Shared) (σ:St) (H:Hp) (x:V) (xs:List V) (v:Value) (us:List Value) (Q:VK),Inv X pins σ H s->RelV x v->Vals xs us->r x xs H Q ->
  wpAny (model X.prog X.w) X.A (call (.builtin id) (v::us)) (EP X pins σ Q) X.xe s
theorem Vals.one:∀{x:V}{us:List Value},Vals [x] us->∃u,us=[u]/\RelV x u
 |_,_,.cons r .nil=>⟨_,rfl,r⟩
def Vals.reverse{xs:List V}{us:List Value}(h:Vals xs us):Vals xs.reverse us.reverse:=by
 induction h with
 |nil=>exact .nil
 |cons r t ih=>rw[reverse_cons,reverse_cons];exact Vals.append ih (.cons r .nil)
section
variable {X:Cx}{pins:List (Addr × Obj)}{σ:St}{H:Hp}{s:Shared}{l b:Addr}{xs ys zs:List V}
def Inv.lset{its its':List Value}{n:Nat}{f:Array Value->Array Value}{t':Nat}(I:Inv X pins σ H s)(hH:H l=some (.lst xs))
  (e:s.heap.get? l=some { cls:=.type "list",data:=.seq its.toArray n }) (hf:f its.toArray=its'.toArray) (hv:Vals ys its') (hz:ys.length<=sizeLine) :
  Inv X pins σ (upd H l (.lst ys)) { s with heap:=s.heap.update l (Obj.mapSeq f),toks:=t' }:=by
 have q:=PySem.IsL.update e f;rw[hf] at q
 refine I.write (x:=l) (e:=l) (by rw[hH];exact trivial) (.inl rfl) (λb' u hb hu=>(wU s.heap (Obj.mapSeq f) (Ne.symm hb)).trans hu) ⟨_,q⟩ ?_
 exact⟨hz,its',_,hv,q⟩
def Inv.lnew{its:List Value}{t':Nat}(I:Inv X pins σ H s)(hv:Vals ys its)(hz:ys.length<=sizeLine) :
  Inv X pins σ (upd H s.heap.objs.size (.lst ys)) { s with heap:=s.heap.push { cls:=.type "list",data:=.seq its.toArray },toks:=t' }:=
 I.laid (λ_ _ q=>zg _ q) (zk _) ⟨hz,its,0,hv,zw _ rfl⟩
def Inv.fresh(I:Inv X pins σ H s):H s.heap.objs.size=none:=I.hok.fresh (zk _)
def Inv.lstM(I:Inv X pins σ H s)(hH:H l=some (.lst xs)):xs.length<=sizeLine/\∃(its:List Value) (n:Nat),Vals xs its/\xs.length=its.length/\s.heap.get? l=some { cls:=.type "list",data:=.seq its.toArray n }:=by
 obtain⟨z,its,n,r,e⟩:=I.hok l _ hH;exact⟨z,its,n,r,r.length,e⟩
end
section
variable {X:Cx}
def zG7:V->List V->Hp->VK->Prop:=λx vs H Q=>∃l xs y,x=.ref l/\vs=[y]/\H l=some (.lst xs)/\xs.length<sizeLine/\Q .non (upd H l (.lst (xs++[y])))
def zi9:MtM X "list.append" zG7:=by
 intro pins s σ H x vs v us Q I rx rv h;obtain⟨l,xs,y,rfl,rfl,hH,hz,q⟩:=h;cases rx;obtain⟨u,rfl,ru⟩:=rv.one;obtain⟨z,its,n,r,hl,e⟩:=I.lstM hH
 refine call_meets F.slot_list_append ⟨_,e,rfl⟩ F.entry_list_append (F.args_list_append_2 _ _) (PySem.list_append l its.toArray n u (by rw[zB];lia)) ⟨e,?_⟩
 refine⟨.non,_,I.lset (its':=its++[u]) hH e (by simp) (r.append (.cons ru .nil)) ?_,rfl,q⟩
 rw[zE,xE];lia
def xp0:R2:=λx y H Q=>∃l b xs zs,x=.ref l/\y=.ref b/\H l=some (.lst xs)/\H b=some (.lst zs)/\xs.length+zs.length<=sizeLine/\∀p,H p=none->Q (.ref p) (upd H p (.lst (xs++zs)))
def Ux:OpR X (binaryOp .Add) xp0:=by
 intro pins s σ H x y v u Q I rx ry h;obtain⟨l,b,xs,zs,rfl,rfl,hH,hB,hz,q⟩:=h;cases rx;cases ry;obtain⟨z,its,n,r,hl,e⟩:=I.lstM hH;obtain⟨z2,its2,n2,r2,hl2,e2⟩:=I.lstM hB
 refine PySem.P.add_list e e2 ?_ (by rw[zB,zB];lia)
 have ea:its.toArray++its2.toArray=(its++its2).toArray:=by simp
 rw[ea]
 exact⟨.ref _,_,I.lnew (t':=s.toks) (r.append r2) (by rw[zE];lia),rfl,q _ I.fresh⟩
end
section
variable {prog:Program}{w:World}{A:Around}{E:Value->Shared->Prop}{s:Shared}
end
section
variable {X:Cx}
end
end L2
namespace Att
open PySem PySem.W PySem.Calls PyProof.Rows
def XE{P:Params}{h:Heap}:∀(ns:List Int) (vs:List Value),WellAll P h vs (ns.map WData.int)->IntsAre vs ns:=by
 intro ns
 induction ns with
 |nil=>
  intro vs w;rw[map_nil] at w;cases w;exact .nil
 | cons n ns ih =>
  intro vs w;rw[zR] at w
  cases w with
  |cons a b=>
   cases a;exact .cons _ _ (ih _ b)
def zb6{l:OpenLaw}{n:Nat}(hn:l.most=some n){P:Params}{h:Heap}{args:List WData}{vals:List Value}
  (hpre:l.row.toRowW.claim.pre args=true) (hwl:WellAll P h vals args) :
  ∃a vs ns,vals=[Value.ref a]/\args=[WData.list (ns.map WData.int)]/\h.get? a=some { cls:=.type "list",data:=.seq vs.toArray }/\IntsAre vs ns/\ns.length<=n:=by
 have hsh:WShape.hasAll [] args [.list .int]=true:=(pre_splitW hpre).1;have hc:l.pre.holds [] { args:=args }=true:=(pre_splitW hpre).2;obtain⟨d,r,rfl,h1,h2⟩:=hasAllW_cons hsh;obtain rfl:=hasAllW_nil h2;obtain⟨xs,rfl,h3⟩:=hasW_list h1;obtain⟨ns,rfl⟩:=items_int h3
 have hlen:ns.length<=n:=by
  unfold OpenLaw.pre at hc
  have h4:(WTm.not (.lt (.lit (.int (n:Int))) (.len (.arg 0)))).holds [] { args:=[.list (ns.map .int)] }=true:=by
   have h4:=(holds_andW hc).1;rw[hn] at h4;exact h4
  have h5:=condW_of h4 (w_not (w_lt w_lit (w_len_list (w_arg rfl))));rw[zj] at h5;refine Nat.le_of_not_lt λq=>?_
  have q':(n:Int)<((ns.length:Nat):Int):=w6
  first
   |(rw[xm q'] at h5;exact absurd h5 w9)
   |(simp at h5;lia)
 cases hwl with
 |cons w1 w2=>
  cases w2
  cases w1 with
  |list ho hall=>exact⟨_,_,ns,rfl,rfl,ho,XE ns _ hall,hlen⟩
def ze3(l:OpenLaw)(args:List WData):l.row.toRowW.claim.post args (.bool true) args=true:=
 postW_of (r:=l.row.toRowW) (X:=(true == true))
  (show WShape.has [] (.bool true) .bool=true by first |rfl |decide |simp[WShape.has,WShape.arms,WShape.armsAll])
  (show(WTm.eq .res (.lit (.bool true))).value [] { args:=args,res:=some (.bool true),after:=args }=some (.bool (true == true)) from w_eq_bool (w_res rfl) w_lit) rfl
def attach_call{l:OpenLaw}{n:Nat}{q:Program}{loose:List Str}{XP:(Str->Option Value)->Heap->Prop}{YP:World->Heap->Prop}{d:DefRec}
  (hn:l.most=some n) (hdf:d.params.defaults=[])
  (call : ∀ (w : World) (s₀ s₁ : Shared) (mg mb : Str -> Option Value) (fa : Addr) (o : Obj) (pm cd doc : Value) (a : Addr) (vs : List Value) (ns : List Int),
   Ground q loose [] XP w s₀ mg mb s₁.heap->YP w s₁.heap ->
   s₁.heap.get? fa=some o->o.data=.func (docDef d.name d.params d.body d.scope pm cd doc)->s₁.heap.CodeRec cd d.name->mg d.name=some (.ref fa) ->
   s₁.heap.get? a=some { cls:=.type "list",data:=.seq vs.toArray }->IntsAre vs ns->ns.length<=n->s₁.gens=#[] ->
   codeAny (model l.prog w) callerA (.call (.ref fa) ⟨[.ref a],[]⟩) (λr s'=>r=.ok (.ret (.bool true))/\OldK s₁.heap s'.heap/\s'.os=s₁.os/\AllBare s'.gens) s₁) :
  WalkO q loose XP YP l.row.toRowW d [] (λf vs=>PySem.call f vs):=by
 intro w s₀ s₁ mg mb G Y fa o pm cd doc dV kV ho hd hcd hD hmg hg args vals as hpre hlay hrd hwl hlo;obtain rfl:dV=.none:=Dflts.none hD hdf;obtain rfl:kV=.none:=Dflts.noKw hD;obtain⟨a,vs,ns,rfl,rfl,hobj,hints,hlen⟩:=zb6 hn hpre hwl;refine enter_call (codeAny_mono (call w s₀ s₁ mg mb fa o pm cd doc a vs ns G Y ho (fd_plain hd) hcd hmg hobj hints hlen hg) λr s' hq=>?_);obtain⟨rfl,h2,h3,h4⟩:=hq
 exact⟨.inl ⟨.bool true,.bool true,[],rfl,λ_=>rfl,.bool true,ze3 l _,λ_=>⟨List.Pairwise.nil,λ_ hm=>(nomatch hm)⟩⟩,h2,h3,h4⟩
section
variable {prog:Program}{w:World}{A:Around}{E:Value->Shared->Prop}{s:Shared}{K:Frag}
end
end Att
namespace L2
theorem VP:∀{vs:List Value}{ns:List Int},IntsAre vs ns->Vals (ns.map V.int) vs
 |_,_,.nil=>.nil
 |_,_,.cons n t h=>.cons ⟨t,rfl⟩ (VP h)
def xd2(H:Hp):Prop:=∀b,H b=none\/∃o xs,H b=some (.frz o (.lst xs))
def qw(s:Stmt):Arguments:=match s with
 |.FunctionDef _ a _ _ _ _ _ _ _ _=>a
 |_=>{ posonlyargs:=[],args:=[],vararg:=none,kwonlyargs:=[],kw_defaults:=[],kwarg:=none,defaults:=[] }
def vT(s:Stmt):List Stmt:=match s with
 |.FunctionDef _ _ b _ _ _ _ _ _ _=>b
 |_=>[]
def zL(s:Stmt):Scope:=match s with
 |.FunctionDef _ _ _ _ _ _ sc _ _ _=>sc
 |_=>{ kind:=.function,names:=[],isGenerator:=false,isCoroutine:=false }
abbrev CX0:CXT:=λ_ _ _ _ _ _=>False
abbrev E0:XK:=λ_ _ _=>False
def zg0{X:Cx}:WJ CX0 X E0:=λ_ _ _ _ _ _ _ h=>h.elim
structure Fun(K:W.Frag)(x qual:Str)(st:Stmt)(f:Addr)(fd:FuncData):Prop where
 ex:∃(oc:Value) (od:Option Addr) (kV doc pm:Value) (an:Option Addr) (cdv ct:Value) (osl:Array (Option Value)),
  fd=W.fnOf x qual (qw st) (vT st) (zL st) .none kV doc pm an cdv ct/\K.lookup f=some ⟨oc,od,.func fd,osl⟩/\W.codeIn K cdv qual=true
 kp:W.keepIn K (.ref f)=true
section
variable {P:Program}{w:World}{K:W.Frag}{mg:Str->Option Value}{base:Heap}
def Fun.ok{x qual:Str}{st:Stmt}{f:Addr}{fd:FuncData}{N ps:List Str}{k:Nat}{sp:Sp}(F:Fun K x qual st f fd)(S:FnScope N ps (zL st))(len:∀vs H Q E,sp vs H Q E->vs.length=ps.length)
  (hbody : ∀ (cdv : Value) (A : Around) (outer : List Env) (s : Shared) (H : Hp) (vs : List V) (Q : VK) (E : XK), Room k (A.deeper (envOfC qual (zL st) s.heap.objs.size f cdv)) -> sp vs H Q E ->
   ∃t,PSs (Jh CX0 P w K mg base N qual (zL st) f cdv A outer s H E).nox (vT st) t/\t { nx:=λ_ H'=>Q .non H',rt:=Q } (YZ N vs) H):FnOk P w K mg base CX0 (k+1) f fd ps sp:=by
 obtain⟨oc,od,kV,doc,pm,an,cdv,ct,osl,rfl,lk,hcd⟩:=F.ex;refine zY7 lk hcd S len λA outer s H vs Q E hr hsp=>?_;obtain⟨t,h,q⟩:=hbody cdv A outer s H vs Q E hr hsp;exact⟨t,h.nox,q⟩
def Fun.binds{x qual:Str}{st:Stmt}{f:Addr}{fd:FuncData}{ps:List Str}(F:Fun K x qual st f fd)
  (h:∀(kV doc pm:Value) (an:Option Addr) (cdv ct:Value) (us:List Value),us.length=ps.length->bindArgs (W.fnOf x qual (qw st) (vT st) (zL st) .none kV doc pm an cdv ct) ⟨us,[]⟩=pure (ps.zip us)):Binds K fd ps []:=by
 obtain⟨oc,od,kV,doc,pm,an,cdv,ct,osl,rfl,lk,hcd⟩:=F.ex;exact .all (h kV doc pm an cdv ct)
def zC6{x qual:Str}{st:Stmt}{f:Addr}{oc:Value}{od an:Option Addr}{osl:Array (Option Value)}{kV doc pm cdv ct:Value}(l:K.lookup f=some ⟨oc,od,.func (W.fnOf x qual (qw st) (vT st) (zL st) .none kV doc pm an cdv ct),osl⟩)
  (c:W.codeIn K cdv qual=true) (k:W.keepIn K (.ref f)=true):Fun K x qual st f (W.fnOf x qual (qw st) (vT st) (zL st) .none kV doc pm an cdv ct):=⟨⟨oc,od,kV,doc,pm,an,cdv,ct,osl,rfl,l,c⟩,k⟩
end
def zw8{A:Around}{k:Nat}(hr:Room k A):A.units+1<cLine:=wY (Nat.add_le_add_left (by decide:1<=64) _) hr.units
section
variable {X:Cx}
end
end L2
namespace L2
open PySem
def qD(env:Env):List (Str × NameKind)->List (Str × Addr)->List (Str × Addr)
 |[],acc=>acc
 |y::r,acc=>if y.2 == .free then qD env r ((y.1,(env.cells.lookup y.1).getD 0)::acc) else qD env r acc
def kL{env:Env}:∀(l:List (Str × NameKind)) (acc:List (Str × Addr)),(∀y∈l,y.2=.free->∃c,env.cells.lookup y.1=some c)->(∀x c,acc.lookup x=some c->env.cells.lookup x=some c) ->
  ∀x c,(qD env l acc).lookup x=some c->env.cells.lookup x=some c
 |[],acc,_,ha,x,c,h=>ha x c h
 | y :: r, acc, hf, ha, x, c, h => by
  unfold qD at h
  split at h
  ·rename_i hk
   have hk':y.2=.free:=by simpa using hk
   obtain⟨d,hd⟩:=hf y xi hk';refine kL r _ (λz hz=>hf z (zh _ hz)) (λz e hz=>?_) x c h;rw[xG] at hz
   cases hb:z == y.1 with
   |true=>
    rw[hb,hd] at hz
    have e2:z=y.1:=by simpa using hb
    have e3:d=e:=by simpa using hz
    rw[e2,hd,e3]
   |false=>rw[hb] at hz;exact ha z e hz
  ·exact kL r acc (λz hz=>hf z (zh _ hz)) ha x c h
theorem Yd{env:Env}{x:Str}:∀(l:List (Str × NameKind)) (acc:List (Str × Addr)),(∃c,acc.lookup x=some c)->∃c,(qD env l acc).lookup x=some c
 |[],acc,h=>h
 | y :: r, acc, h => by
  unfold qD
  split
  ·refine Yd r _ ?_;rw[xG]
   cases hb:x == y.1 with
   |true=>exact⟨_,rfl⟩
   |false=>exact h
  ·exact Yd r acc h
theorem qZ{env:Env}{y:Str × NameKind}(hk:y.2=.free):∀(l:List (Str × NameKind)) (acc:List (Str × Addr)),y∈l->∃c,(qD env l acc).lookup y.1=some c
 |[],acc,h=>by simp at h
 | z :: r, acc, h => by
  unfold qD
  rcases zi.mp h with rfl |h
  ·rw [if_pos (by rw [hk]; rfl)]
   exact Yd r _ ⟨_,al_List_lookup_cons_self⟩
  ·split
   ·exact qZ hk r _ h
   ·exact qZ hk r _ h
def WH{env:Env}(f:Str × NameKind->List (Str × Addr)->Sem (ForInStep (List (Str × Addr))))
  (hf:∀y acc,f y acc=if y.2 == .free then(cellOf env y.1 >>= λc=>pure (.yield ((y.1,c)::acc))) else pure (.yield acc)) :
  ∀(l:List (Str × NameKind)) (acc:List (Str × Addr)),(∀y∈l,y.2=.free->∃c,env.cells.lookup y.1=some c)->forIn l acc f=(pure (qD env l acc):Sem _)
 |[],acc,_=>by rw[forIn_nil];rfl
 | y :: r, acc, h => by
  have ih:=λacc=>WH f hf r acc λz hz=>h z (zh _ hz);rw[forIn_cons,hf];unfold qD
  split
  ·rename_i hk
   obtain⟨c,hc⟩:=h y xi (by simpa using hk)
   have e:cellOf env y.1=pure c:=by unfold cellOf;rw[hc]
   rw[e,hc];exact ih _
  ·exact ih _
def YS{scope:Scope}{env:Env}(h:∀y∈scope.names,y.2=.free->∃c,env.cells.lookup y.1=some c):closureFor scope env=pure (qD env scope.names []):=by
 have e:=WH (env:=env) (λx cs=>match x with |(name,kind)=>if (kind == NameKind.free)=true then(do let c <- cellOf env name;pure (.yield ((name,c)::cs))) else pure (.yield cs)) (λy acc=>rfl) scope.names [] h
 have e2:closureFor scope env=((forIn scope.names [] (λx cs=>match x with |(name,kind)=>if (kind == NameKind.free)=true then(do let c <- cellOf env name;pure (ForInStep.yield ((name,c)::cs))) else pure (ForInStep.yield cs)):Sem (List (Str × Addr))) >>= λcs=>pure cs):=rfl
 rw[e2,e];rfl
def Yq{env:Env}{x:Str}:∀(l:List (Str × NameKind)),
  (l.map λ(n, k) => if (k == NameKind.free && env.scope.kind == .function && env.kindOf n == some .cell) then (n, NameKind.cell) else (n, k)).lookup x =
   (l.lookup x).map λk=>if (k == NameKind.free&&env.scope.kind == .function&&env.kindOf x == some .cell) then NameKind.cell else k
 |[]=>rfl
 | (n, k) :: r => by
  have ih:=@Yq env x r;rw[zR]
  by_cases e:x=n
  ·subst e;dsimp only
   split
   ·rename_i h;rw[al_List_lookup_cons_self,al_List_lookup_cons_self,Option.map_some,if_pos h]
   ·rename_i h;rw[al_List_lookup_cons_self,al_List_lookup_cons_self,Option.map_some,if_neg h]
  ·have e' : (x == n) = false := by simpa using e
   dsimp only
   split
   ·rw[xG,e',xG,e'];exact ih
   ·rw[xG,e',xG,e'];exact ih
def zo3:∀(l:List (Str × NameKind)) (h:Heap) (acc:List (Str × Addr)) (x:Str) (c:Addr),(cellsFrom h.objs.size l acc).lookup x=some c ->
  ((pushCells h l).IsCell c none/\h.objs.size<=c/\(x,NameKind.cell)∈l)\/acc.lookup x=some c
 |[],_,_,_,_,e=>.inr e
 | (n, k) :: r, h, acc, x, c, e => by
  unfold cellsFrom at e;unfold pushCells
  split at e
  ·rename_i hk
   have hk':k=.cell:=by simpa using hk
   rw[if_pos hk];have hz:(h.push { cls:=.type "cell",data:=.cell none }).objs.size=h.objs.size+1:=wd ..;rw[<- hz] at e
   rcases zo3 r (h.push { cls:=.type "cell",data:=.cell none }) _ x c e with ⟨a,b,d⟩ |q
   ·exact .inl ⟨a,by rw[hz] at b;lia,zh _ d⟩
   ·rw [xG] at q
    cases hb:x == n with
    |false=>rw[hb] at q;exact .inr q
    |true=>
     rw[hb] at q
     have e1:h.objs.size=c:=by simpa using q
     have e2:x=n:=by simpa using hb
     subst e1 e2
     refine .inl ⟨?_,zk _,by rw[hk'];exact xi⟩
     exact⟨_,pushCells_keeps _ _ _ _ (zw _ rfl),rfl⟩
  ·rename_i hk;rw[if_neg hk]
   rcases zo3 r h acc x c e with ⟨a,b,d⟩ |q
   ·exact .inl ⟨a,b,zh _ d⟩
   ·exact .inr q
def zo1:∀(l:List (Str × NameKind)) (n:Nat) (acc:List (Str × Addr)),(∀x y c,acc.lookup x=some c->acc.lookup y=some c->x=y)->(∀x c,acc.lookup x=some c->c<n) ->
  ∀x y c,(cellsFrom n l acc).lookup x=some c->(cellsFrom n l acc).lookup y=some c->x=y
 |[],_,_,hi,_,x,y,c,e,e'=>hi x y c e e'
 | (m, k) :: r, n, acc, hi, hl, x, y, c, e, e' => by
  unfold cellsFrom at e e'
  have one:∀z d,((m,n)::acc).lookup z=some d->(z=m/\d=n)\/acc.lookup z=some d:=λz d q=>by
   rw[xG] at q
   cases hb:z == m with
   |true=>rw[hb] at q;exact .inl ⟨by simpa using hb,by simpa using q.symm⟩
   |false=>rw[hb] at q;exact .inr q
  split at e
  ·rename_i hk;rw[if_pos hk] at e';refine zo1 r (n+1) ((m,n)::acc) (λa b d q q'=>?_) (λa d q=>?_) x y c e e'
   ·rcases one a d q with ⟨a1, a2⟩ | a1 <;> rcases one b d q' with ⟨b1, b2⟩ | b1
    ·rw[a1,b1]
    ·exact absurd (hl b d b1) (by rw[a2];exact xx _)
    ·exact absurd (hl a d a1) (by rw[b2];exact xx _)
    ·exact hi a b d a1 b1
   ·rcases one a d q with ⟨_, a2⟩ | a1
    ·rw[a2];exact Nat.lt_succ_self _
    ·exact Nat.lt_succ_of_lt (hl a d a1)
  ·rename_i hk;rw[if_neg hk] at e';exact zo1 r n acc hi hl x y c e e'
theorem Ye{x:Str}:∀(l:List (Str × NameKind)) (n:Nat) (acc:List (Str × Addr)),(∃c,acc.lookup x=some c)->∃c,(cellsFrom n l acc).lookup x=some c
 |[],_,_,h=>h
 | (m, k) :: r, n, acc, h => by
  unfold cellsFrom
  split
  ·refine Ye r _ _ ?_;rw[xG]
   cases hb:x == m with
   |true=>exact⟨_,rfl⟩
   |false=>exact h
  ·exact Ye r _ _ h
theorem zo2{x:Str}:∀(l:List (Str × NameKind)) (n:Nat) (acc:List (Str × Addr)),(x,NameKind.cell)∈l->∃c,(cellsFrom n l acc).lookup x=some c
 |[],_,_,h=>by simp at h
 | (m, k) :: r, n, acc, h => by
  unfold cellsFrom
  rcases zi.mp h with e |h
  ·cases e;exact Ye r _ _ ⟨_,al_List_lookup_cons_self⟩
  ·split
   ·exact zo2 r _ _ h
   ·exact zo2 r _ _ h
theorem zO4{x:Str}:∀(l:List (Str × NameKind)) (n:Nat) (acc:List (Str × Addr)) (lo:Nat),lo<=n->((x,NameKind.cell)∈l\/∀c,acc.lookup x=some c->lo<=c)->∀c,(cellsFrom n l acc).lookup x=some c->lo<=c
  | [], n, acc, lo, hn, h, c, e => by
    rcases h with h |h
    · simp at h
    · exact h c e
  | (m, k) :: r, n, acc, lo, hn, h, c, e => by
    unfold cellsFrom at e
    split at e
    · rename_i hk
      refine zO4 r (n+1) ((m,n)::acc) lo w6 ?_ c e
      rcases h with h |h
      · rcases zi.mp h with z | z
        · cases z
          refine .inr λd q=>?_;rw[al_List_lookup_cons_self] at q
          have:n=d:=by simpa using q
          lia
        · exact .inl z
      · refine .inr λd q => ?_
        rw[xG] at q
        cases hb:x == m with
        | true => rw [hb] at q; have : n = d := by simpa using q;
                  lia
        |false=>rw[hb] at q;exact h d q
    · rename_i hk
      refine zO4 r n acc lo hn ?_ c e
      rcases h with h |h
      · rcases zi.mp h with z | z
        · cases z;exact absurd rfl hk
        · exact .inl z
      · exact .inr h
section
variable {M:Model}{A:Around}{E:Value->Shared->Prop}{s:Shared}
def Xu{scope:Scope}{env:Env}{cl:List (Str × Addr)}{Q:Env->Shared->Prop}
  (h : Q (newEnv scope s.heap.objs.size env.globals (cellsFrom (s.heap.objs.size + 1) scope.names cl) env.qual none .none (some env) builtinsNs)
   { s with heap:=pushCells (s.heap.push { cls:=.type "dict",data:=.dict #[] }) scope.names }) :
  wpAny M A (newFunctionEnv scope env.globals cl [] env.qual none .none (some env)) Q E s:=by
 simp only[newFunctionEnv,Option.isSome_some,if_true];refine zc (wpAny_alloc ?_);refine zc (wpAny_layCells _ (λname kind cells=>?_) _ _ _ _ ?_)
 ·cases hkc:kind == NameKind.cell<;>simp[hkc]
 ·rw[List.forIn_nil];refine zc (zo (zo ?_));have hz:({ s with heap:=s.heap.push { cls:=.type "dict",data:=.dict #[] } }:Shared).heap.objs.size=s.heap.objs.size+1:=wd ..;rw[hz];exact h
end
abbrev zo6(ifs:List Expr)(env:Env):Sem Bool:=forIn ifs true λc r=>if r=true then do let ok <- isTrue c env (eval c env);pure (ForInStep.yield ok) else pure (ForInStep.yield r)
section
variable {prog:Program}{w:World}{A:Around}{R:Result->Shared->Prop}{s:Shared}
def zn7{elt target iter:Expr}{ifs:List Expr}{scope:Scope}{pos:Pos}{it acc:Value}{env:Env}(J:Nat->Shared->Prop)
  (turn : ∀ n s, J n s -> wpAny (model prog w) A (pyNext it) (λr s1 => match r with
   |none=>R (.ok .next) s1
   | some v => wpAny (model prog w) A (letOwnedTupleGo target it v) (λ_ s2 => wpAny (model prog w) A (assign target env v) (λ_ s3 => wpAny (model prog w) A (zo6 ifs env) (λok s4 =>
     if ok=true then wpAny (model prog w) A (eval elt env) (λx s5=>wpAny (model prog w) A (call (.builtin "list.append") [acc,x]) (λ_ s6=>∃m,m<n/\J m s6) (λ_ _=>False) s5) (λ_ _=>False) s4
     else ∃m,m<n/\J m s4) (λ_ _=>False) s3) (λ_ _=>False) s2) (λ_ _=>False) s1) (λ_ _=>False) s)
  (n:Nat) (h:J n s):codeAny (model prog w) A (.compLoop (.ListComp elt [⟨target,iter,ifs,0⟩] scope pos) 0 it acc env) R s:=by
 refine codeAny_loop rfl J (λn s hJ=>?_) n h
 show wpAny _ A ((compTurn (.ListComp elt [⟨target,iter,ifs,0⟩] scope pos) 0 it acc env).onRaise (λx=>do noteFrame x env;theTreesLotGoes x)) _ _ s
 refine wpAny_noted ?_;rw[compTurn_list]
 have up:∀{α:Type}{t:Sem α}{Q Q':α->Shared->Prop}{E:Value->Shared->Prop}{s:Shared},wpAny (model prog w) A t Q (λ_ _=>False) s->(∀a s,Q a s->Q' a s)->wpAny (model prog w) A t Q' E s:=
  λh f=>wa h f λ_ _ z=>False.elim z
 refine zc (wy (zc (up (turn n s hJ) λr s1 h1=>?_)))
 cases r with
 |none=>exact zo h1
 |some v=>
  refine zc (up h1 λ_ s2 h2=>?_);refine zc (up h2 λ_ s3 h3=>?_);refine zc (up h3 λok s4 h4=>?_)
  cases ok with
  |false=>exact zo ⟨rfl,h4⟩
  |true=>exact zc (zc (up h4 λx s5 h5=>zc (up h5 λ_ s6 h6=>zo (zo ⟨rfl,h6⟩))))
end
def WC(b:Bool):String:=if b then "list_iterator" else "tuple_iterator"
def SeqIs(b:Bool)(h:Heap)(l:Addr)(xs:Array Value):Prop:=match b with |true=>h.IsList l xs |false=>h.IsTuple l xs
def IterIs(b:Bool)(h:Heap)(i l:Addr)(k:Nat):Prop:=match b with |true=>h.IsListIter i l k |false=>h.IsTupleIter i l k
def SeqIs.at{b:Bool}{h h':Heap}{l:Addr}{xs:Array Value}(x:SeqIs b h l xs)(hk:∀o,h.get? l=some o->h'.get? l=some o):SeqIs b h' l xs:=by
 cases b<;>(obtain⟨o,e,r⟩:=x;exact⟨o,hk o e,r⟩)
def IterIs.at{b:Bool}{h h':Heap}{i l:Addr}{k:Nat}(x:IterIs b h i l k)(hk:∀o,h.get? i=some o->h'.get? i=some o):IterIs b h' i l k:=by
 cases b<;>(obtain⟨o,e,r⟩:=x;exact⟨o,hk o e,r⟩)
def IterIs.obj{b:Bool}{h:Heap}{i l:Addr}{k:Nat}(x:IterIs b h i l k):∃o,h.get? i=some o/\o.cls=.type (WC b)/\o.data=.fields #[.ref l,.int k 0]:=by
 cases b<;>exact x
def SeqIs.ne{b c:Bool}{h:Heap}{l i m:Addr}{k:Nat}{xs:Array Value}(x:SeqIs b h l xs)(y:IterIs c h i m k):l≠i:=by
 rintro rfl;obtain⟨o,e,hc,_⟩:=y.obj
 cases b<;>(obtain⟨o',e',hc',_⟩:=x;rw[e] at e';cases e';rw[hc] at hc';cases c<;>exact absurd (Value.type.inj hc') w9)
section
variable {prog:Program}{w:World}{A:Around}{E:Value->Shared->Prop}{s:Shared}
def Wq{b:Bool}{l:Addr}{xs:Array Value}{Q:Value->Shared->Prop}(hl:SeqIs b s.heap l xs)
  (hQ:Q (.ref s.heap.objs.size) { s with heap:=s.heap.push { cls:=.type (WC b),data:=.fields #[.ref l,.int 0 0] } }):wpAny (model prog w) A (pyIter (.ref l)) Q E s:=by
 cases b with
 |true=>exact wpAny_pyIter_list hl hQ
 |false=>exact wpAny_pyIter_tuple hl hQ
def QD{it l:Addr}{i:Nat}{items:Array Value}{x:Value}{Q:Value->Shared->Prop}(hit:s.heap.IsTupleIter it l i)(hl:s.heap.IsTuple l items)(hx:items[i]?=some x)
  (hQ:∀h',h'.IsTupleIter it l (i+1)->Heap.SameBut it s.heap h'->Q x { s with heap:=h' }):wpAny (model prog w) A (Builtin.SmallTypes.nextOf (.ref it)) Q E s:=by
 obtain⟨o,ho,hc,hd⟩:=id hit;obtain⟨ol,hol,_,nl,hdl⟩:=hl;unfold Builtin.SmallTypes.nextOf;refine zc (xY (name:=Str.ofString "__next__") hit.typeIs F.slot_tuple_iterator_next (wQ F.slot_tuple_iterator_next hit.typeIs F.entry_tuple_iterator_next ?_ (F.args_tuple_iterator_next_1 _)));show wpAny _ A.in1 (field (.ref it) 0 >>= _) _ _ s;refine zc (xy (x:=.ref l) ho hd rfl ?_)
 show wpAny _ A.in1 (if (Value.ref l == Value.none)=true then _ else _) _ _ s
 have nn:¬ ((Value.ref l == Value.none)=true):=zI;rw[if_neg nn];show wpAny _ A.in1 (field (.ref it) 1 >>= _) _ _ s;refine zc (xy (x:=.int i 0) ho hd rfl ?_);show wpAny _ A.in1 (seqItems? (.ref l) >>= _) _ _ s;refine zc (wE hol hdl ?_);simp only[hx,Int.toNat_natCast]
 refine zc (wpAny_setField ho hd (by simp) (zo ⟨x,rfl,zo (hQ _ ⟨_,Heap.get?_update_self _ ho (Obj.isFreed_of_fields (Obj.data_mapFields hd _)),(Obj.cls_mapFields ..).trans hc,?_⟩ (Heap.SameBut.update ..))⟩))
 rw[Obj.data_mapFields hd];simp[rawInt]
def Wc{it l:Addr}{i:Nat}{items:Array Value}{Q:Value->Shared->Prop}(hh:A.handled=none)(hit:s.heap.IsTupleIter it l i)(hl:s.heap.IsTuple l items)(hx:items[i]?=none)
  (hE:∀h' e,Heap.ExtBut it s.heap h'->(∃o,h'.get? e=some o/\o.cls=.type "StopIteration")->E (.ref e) { s with heap:=h' }):wpAny (model prog w) A (Builtin.SmallTypes.nextOf (.ref it)) Q E s:=by
 obtain⟨o,ho,hc,hd⟩:=id hit;obtain⟨ol,hol,_,nl,hdl⟩:=hl;unfold Builtin.SmallTypes.nextOf;refine zc (xY (name:=Str.ofString "__next__") hit.typeIs F.slot_tuple_iterator_next (wQ F.slot_tuple_iterator_next hit.typeIs F.entry_tuple_iterator_next ?_ (F.args_tuple_iterator_next_1 _)));show wpAny _ A.in1 (field (.ref it) 0 >>= _) _ _ s;refine zc (xy (x:=.ref l) ho hd rfl ?_)
 show wpAny _ A.in1 (if (Value.ref l == Value.none)=true then _ else _) _ _ s
 have nn:¬ ((Value.ref l == Value.none)=true):=zI;rw[if_neg nn];show wpAny _ A.in1 (field (.ref it) 1 >>= _) _ _ s;refine zc (xy (x:=.int i 0) ho hd rfl ?_);show wpAny _ A.in1 (seqItems? (.ref l) >>= _) _ _ s;refine zc (wE hol hdl ?_);simp only[hx,Int.toNat_natCast]
 refine zc (wpAny_rule (zc (wpAny_setField ho hd (by simp) ?_)))
 show wpAny _ A.in1 (newExc (.type "StopIteration") [] >>= _) _ _ _;refine zc ?_;simp only[newExc,newTuple]
 refine zc (xM ?_ (by size_fits))
 refine zc (m:=firstArgMember _ _) (wpAny_of_eq (a:=Value.none) (by simp only[firstArgMember];rfl) ?_)
 refine xM ?_ (by size_fits)
 simp only[raiseNew];refine zc (wpAny_handled ?_);rw[show A.in1.handled=none from hh];refine zc (zo (wpAny_throw ?_));exact hE _ _ (((Heap.SameBut.update ..).extBut.push _).push _) ⟨_,zw _ rfl,rfl⟩
def ZX{b:Bool}{it l:Addr}{i:Nat}{items:Array Value}{x:Value}{Q:Value->Shared->Prop}(hit:IterIs b s.heap it l i)(hl:SeqIs b s.heap l items)(hx:items[i]?=some x)
  (hQ:∀h',IterIs b h' it l (i+1)->Heap.SameBut it s.heap h'->Q x { s with heap:=h' }):wpAny (model prog w) A (Builtin.SmallTypes.nextOf (.ref it)) Q E s:=by
 cases b with
 |true=>exact wpAny_nextOf_list_item hit hl hx hQ
 |false=>exact QD hit hl hx hQ
def jz{b:Bool}{it l:Addr}{i:Nat}{items:Array Value}{Q:Value->Shared->Prop}(hh:A.handled=none)(hit:IterIs b s.heap it l i)(hl:SeqIs b s.heap l items)(hx:items[i]?=none)
  (hE:∀h' e,Heap.ExtBut it s.heap h'->(∃o,h'.get? e=some o/\o.cls=.type "StopIteration")->E (.ref e) { s with heap:=h' }):wpAny (model prog w) A (Builtin.SmallTypes.nextOf (.ref it)) Q E s:=by
 cases b with
 |true=>exact wpAny_nextOf_list_end hh hit hl hx hE
 |false=>exact Wc hh hit hl hx hE
structure ZApart(z ti to i1 i2:Addr):Prop where
 a1:ti≠z
 a2:to≠z
 a3:i1≠z
 a4:i2≠z
 a5:ti≠to
 a6:ti≠i1
 a7:ti≠i2
 a8:to≠i1
 a9:to≠i2
 a10:i1≠i2
structure ZSt(b c:Bool)(z ti to i1 i2 l1 l2:Addr)(k:Nat)(h:Heap):Prop where
 z:IsZip h z ti to .none
 ti:IsPair h ti (.ref i1) (.ref i2)
 to:∃u v,IsPair h to u v
 i1:IterIs b h i1 l1 k
 i2:IterIs c h i2 l2 k
structure ZMid(b c:Bool)(z ti to i1 i2 l1 l2:Addr)(k:Nat)(T:Addr)(h:Heap):Prop where
 z:IsZip h z ti to (rawInt T)
 ti:IsPair h ti (.ref i1) (.ref i2)
 to:∃u v,IsPair h to u v
 i1:IterIs b h i1 l1 (k+1)
 i2:IterIs c h i2 l2 (k+1)
def ZSt.apartL{b c d:Bool}{z ti to i1 i2 l1 l2 l:Addr}{k:Nat}{h:Heap}{xs:Array Value}(x:ZSt b c z ti to i1 i2 l1 l2 k h)(hl:SeqIs d h l xs)(hto:l≠to):l≠z/\l≠i1/\l≠i2:=by
 refine⟨?_,hl.ne x.i1,hl.ne x.i2⟩;rintro rfl;have e:=x.z
 cases d<;>(obtain⟨o',e',hc',_⟩:=hl;rw[e] at e';cases e';exact absurd (Value.type.inj hc') w9)
def zp9{b c:Bool}{z ti to i1 i2 l1 l2:Addr}{k:Nat}{xs ys:Array Value}{x y:Value}{Q:Value->Shared->Prop}(D:ZApart z ti to i1 i2)(S:ZSt b c z ti to i1 i2 l1 l2 k s.heap)
  (hl1:SeqIs b s.heap l1 xs) (hl2:SeqIs c s.heap l2 ys) (n1:l1≠to) (n2:l2≠to) (hx:xs[k]?=some x) (hy:ys[k]?=some y)
  (hQ:∀h',ZMid b c z ti to i1 i2 l1 l2 k s.heap.objs.size h'->IsPair h' s.heap.objs.size x y->(∀d o,d≠z->d≠to->d≠i1->d≠i2->s.heap.get? d=some o->h'.get? d=some o)->Q (.ref s.heap.objs.size) { s with heap:=h' }) :
  wpAny (model prog w) A (Builtin.«zip.__next__» ⟨[.ref z],[]⟩) (λfin s'=>∃v,fin=.done (.ret v)/\Q v s') E s:=by
 obtain⟨m1,m2,m3⟩:=S.apartL hl1 n1;obtain⟨m4,m5,m6⟩:=S.apartL hl2 n2;obtain⟨hz,hTI,⟨u,v,hTO⟩,h1,h2⟩:=S;show wpAny _ A (field (.ref z) 2 >>= _) _ _ _;refine zc (xy (x:=.bool false) hz rfl rfl ?_);show wpAny _ A (field (.ref z) 3 >>= _) _ _ _;refine zc (xy (x:=.ref ti) hz rfl rfl ?_);refine zc (wE hTI rfl ?_);show wpAny _ A (Builtin.SmallTypes.ownedTupleIsFree (.ref z) >>= _) _ _ _;refine zc ?_;unfold Builtin.SmallTypes.ownedTupleIsFree;refine zc (xy (x:=.none) hz rfl rfl (zo ?_));simp only[if_true];refine zc (wpAny_rule ?_);refine zc (xy (x:=.ref to) hz rfl rfl ?_)
 refine zc (wD hz (by simp) λg1 hz1 s1=>?_)
 replace hz1:IsZip g1 z ti to .ellipsis:=hz1
 refine zc ?_;simp only[forIn_cons,forIn_nil,List.zipIdx_cons,List.zipIdx_nil];refine zc (zc (wpAny_onRaise ?_));show wpAny _ A (Builtin.SmallTypes.nextOf (.ref i1) >>= _) _ _ _;refine zc (ZX (h1.at λo e=>s1.extBut _ _ D.a3 e) (hl1.at λo e=>s1.extBut _ _ m1 e) hx λg2 k1 s2=>zo ?_);have hTO2:IsPair g2 to u v:=s2.extBut _ _ D.a8 (s1.extBut _ _ D.a2 hTO);refine zc (wE hTO2 rfl ?_);refine zc (wpAny_updateSeq_pair hTO2 λg3 hTO3 s3=>?_)
 replace hTO3:IsPair g3 to x v:=hTO3
 refine zc (wpAny_letGo (zo ?_));refine zc (zc (wpAny_onRaise ?_));show wpAny _ A (Builtin.SmallTypes.nextOf (.ref i2) >>= _) _ _ _;refine zc (ZX (h2.at λo e=>s3.extBut _ _ D.a9.symm (s2.extBut _ _ D.a10.symm (s1.extBut _ _ D.a4 e))) (hl2.at λo e=>s3.extBut _ _ n2 (s2.extBut _ _ m5 (s1.extBut _ _ m4 e))) hy λg4 k2 s4=>zo ?_);have hTO4:IsPair g4 to x v:=s4.extBut _ _ D.a9 hTO3;refine zc (wE hTO4 rfl ?_);refine zc (wpAny_updateSeq_pair hTO4 λg5 hTO5 s5=>?_)
 replace hTO5:IsPair g5 to x y:=hTO5
 refine zc (wpAny_letGo (zo (zo ?_)));refine zc (wE hTO5 rfl ?_);refine zc (wpAny_newTuple ?_)
 have sz:g5.objs.size=s.heap.objs.size:=by rw[s5.1,s4.1,s3.1,s2.1,s1.1]
 have z5:IsZip g5 z ti to .ellipsis:=s5.extBut _ _ D.a2.symm (s4.extBut _ _ D.a4.symm (s3.extBut _ _ D.a2.symm (s2.extBut _ _ D.a3.symm hz1)));have kp:∀d o,d≠z->d≠to->d≠i1->d≠i2->s.heap.get? d=some o->g5.get? d=some o:=λd o d1 d2 d3 d4 e=>s5.extBut _ _ d2 (s4.extBut _ _ d4 (s3.extBut _ _ d2 (s2.extBut _ _ d3 (s1.extBut _ _ d1 e))));have j1:IterIs b g5 i1 l1 (k+1):=k1.at λo e=>s5.extBut _ _ D.a8.symm (s4.extBut _ _ D.a10 (s3.extBut _ _ D.a8.symm e));have j2:IterIs c g5 i2 l2 (k+1):=k2.at λo e=>s5.extBut _ _ D.a9.symm e;have zl:z<g5.objs.size:=zt z5;show wpAny _ A (Builtin.SmallTypes.ownedTupleHandOut (.ref z) (.ref g5.objs.size) >>= _) _ _ _;refine zc ?_;unfold Builtin.SmallTypes.ownedTupleHandOut;have z6:IsZip (g5.push { cls:=.type "tuple",data:=.seq #[x,y] }) z ti to .ellipsis:=zg _ z5
 refine zc (wD z6 (by simp) λg7 z7 s7=>?_)
 replace z7:IsZip g7 z ti to (rawInt g5.objs.size):=z7
 refine wD z7 (by simp) λg8 z8 s8=>?_
 replace z8:IsZip g8 z ti to (rawInt g5.objs.size):=z8
 have up:∀d o,d≠z->g5.get? d=some o->g8.get? d=some o:=λd o d1 e=>s8.extBut _ _ d1 (s7.extBut _ _ d1 (zg _ e));have T8:IsPair g8 g5.objs.size x y:=s8.extBut _ _ (xT zl) (s7.extBut _ _ (xT zl) (zw _ rfl));rw[sz] at z8 T8;refine zo ⟨_,rfl,?_⟩;show Q (.ref g5.objs.size) _;rw[sz];exact hQ g8 ⟨z8,up _ _ D.a1 (kp _ _ D.a1 D.a5 D.a6 D.a7 hTI),⟨_,_,up _ _ D.a2 hTO5⟩,j1.at λo e=>up _ o D.a3 e,j2.at λo e=>up _ o D.a4 e⟩ T8 λd o d1 d2 d3 d4 e=>up d o d1 (kp d o d1 d2 d3 d4 e)
def zp8{b c:Bool}{z ti to i1 i2 l1 l2:Addr}{k:Nat}{xs ys:Array Value}{Q:Fin->Shared->Prop}(hh:A.handled=none)(D:ZApart z ti to i1 i2)(S:ZSt b c z ti to i1 i2 l1 l2 k s.heap)
  (hl1:SeqIs b s.heap l1 xs) (hl2:SeqIs c s.heap l2 ys) (n1:l1≠to) (n2:l2≠to) (hend:xs[k]?=none\/ys[k]?=none)
  (hE:∀h' e,(∀d o,d≠z->d≠to->d≠i1->d≠i2->s.heap.get? d=some o->h'.get? d=some o)->(∃o,h'.get? e=some o/\o.cls=.type "StopIteration")->E (.ref e) { s with heap:=h' }) :
  wpAny (model prog w) A (Builtin.«zip.__next__» ⟨[.ref z],[]⟩) Q E s:=by
 obtain⟨m1,m2,m3⟩:=S.apartL hl1 n1;obtain⟨m4,m5,m6⟩:=S.apartL hl2 n2;obtain⟨hz,hTI,⟨u,v,hTO⟩,h1,h2⟩:=S;show wpAny _ A (field (.ref z) 2 >>= _) _ _ _;refine zc (xy (x:=.bool false) hz rfl rfl ?_);show wpAny _ A (field (.ref z) 3 >>= _) _ _ _;refine zc (xy (x:=.ref ti) hz rfl rfl ?_);refine zc (wE hTI rfl ?_);show wpAny _ A (Builtin.SmallTypes.ownedTupleIsFree (.ref z) >>= _) _ _ _;refine zc ?_;unfold Builtin.SmallTypes.ownedTupleIsFree;refine zc (xy (x:=.none) hz rfl rfl (zo ?_));simp only[if_true];refine zc (wpAny_rule ?_);refine zc (xy (x:=.ref to) hz rfl rfl ?_)
 refine zc (wD hz (by simp) λg1 hz1 s1=>?_)
 replace hz1:IsZip g1 z ti to .ellipsis:=hz1
 refine zc ?_;simp only[forIn_cons,forIn_nil,List.zipIdx_cons,List.zipIdx_nil];refine zc (zc (wpAny_onRaise ?_));show wpAny _ A (Builtin.SmallTypes.nextOf (.ref i1) >>= _) _ _ _;have q1:IterIs b g1 i1 l1 k:=h1.at λo e=>s1.extBut _ _ D.a3 e;have q2:SeqIs b g1 l1 xs:=hl1.at λo e=>s1.extBut _ _ m1 e
 cases hx:xs[k]? with
 |none=>
  refine zc (jz hh q1 q2 hx λg2 e s2 he=>?_);obtain⟨oe,hoe,hce⟩:=he;have z2:IsZip g2 z ti to .ellipsis:=s2 _ _ D.a3.symm hz1
  have hez:e≠z:=λq=>by subst q;rw[z2] at hoe;cases hoe;exact absurd (Value.type.inj hce) w9
  exact wD z2 (by simp) λg3 _ s3=>hE g3 e (λd o d1 _ d3 _ q=>s3.extBut _ _ d1 (s2 _ _ d3 (s1.extBut _ _ d1 q))) ⟨oe,s3.extBut _ _ hez hoe,hce⟩
 | some x =>
  have hy:ys[k]?=none:=by
   rcases hend with h |h
   ·rw[hx] at h;cases h
   ·exact h
  refine zc (ZX q1 q2 hx λg2 k1 s2=>zo ?_);have hTO2:IsPair g2 to u v:=s2.extBut _ _ D.a8 (s1.extBut _ _ D.a2 hTO);refine zc (wE hTO2 rfl ?_);refine zc (wpAny_updateSeq_pair hTO2 λg3 hTO3 s3=>?_);refine zc (wpAny_letGo (zo ?_));refine zc (zc (wpAny_onRaise ?_));show wpAny _ A (Builtin.SmallTypes.nextOf (.ref i2) >>= _) _ _ _;refine zc (jz hh (h2.at λo e=>s3.extBut _ _ D.a9.symm (s2.extBut _ _ D.a10.symm (s1.extBut _ _ D.a4 e))) (hl2.at λo e=>s3.extBut _ _ n2 (s2.extBut _ _ m5 (s1.extBut _ _ m4 e))) hy λg4 e s4 he=>?_);obtain⟨oe,hoe,hce⟩:=he;have z4:IsZip g4 z ti to .ellipsis:=s4 _ _ D.a4.symm (s3.extBut _ _ D.a2.symm (s2.extBut _ _ D.a3.symm hz1))
  have hez:e≠z:=λq=>by subst q;rw[z4] at hoe;cases hoe;exact absurd (Value.type.inj hce) w9
  exact wD z4 (by simp) λg5 _ s5=>hE g5 e (λd o d1 d2 d3 d4 q=>s5.extBut _ _ d1 (s4 _ _ d4 (s3.extBut _ _ d2 (s2.extBut _ _ d3 (s1.extBut _ _ d1 q))))) ⟨oe,s5.extBut _ _ hez hoe,hce⟩
def zv6{b c:Bool}{z ti to i1 i2 l1 l2:Addr}{k:Nat}{xs ys:Array Value}{x y:Value}{Q:Option Value->Shared->Prop}(D:ZApart z ti to i1 i2)(S:ZSt b c z ti to i1 i2 l1 l2 k s.heap)
  (hl1:SeqIs b s.heap l1 xs) (hl2:SeqIs c s.heap l2 ys) (n1:l1≠to) (n2:l2≠to) (hx:xs[k]?=some x) (hy:ys[k]?=some y)
  (hQ:∀h',ZMid b c z ti to i1 i2 l1 l2 k s.heap.objs.size h'->IsPair h' s.heap.objs.size x y->(∀d o,d≠z->d≠to->d≠i1->d≠i2->s.heap.get? d=some o->h'.get? d=some o)->Q (some (.ref s.heap.objs.size)) { s with heap:=h' }) :
  wpAny (model prog w) A (pyNext (.ref z)) Q E s:=by
 have hT:s.TypeIs (.ref z) "zip" := ⟨_,S.z,rfl⟩;unfold pyNext
 exact zc (wpAny_attempt (xY (name:=Str.ofString "__next__") hT F.slot_zip_next (wQ F.slot_zip_next hT F.entry_zip_next
  (zp9 D S hl1 hl2 n1 n2 hx hy λh' a1 a2 a3=>zo (hQ h' a1 a2 a3)) (F.args_zip_next_1 _))))
def UC{b c:Bool}{z ti to i1 i2 l1 l2:Addr}{k:Nat}{xs ys:Array Value}{Q:Option Value->Shared->Prop}(hh:A.handled=none)(D:ZApart z ti to i1 i2)(S:ZSt b c z ti to i1 i2 l1 l2 k s.heap)
  (hl1:SeqIs b s.heap l1 xs) (hl2:SeqIs c s.heap l2 ys) (n1:l1≠to) (n2:l2≠to) (hend:xs[k]?=none\/ys[k]?=none)
  (hQ:∀h',(∀d o,d≠z->d≠to->d≠i1->d≠i2->s.heap.get? d=some o->h'.get? d=some o)->Q none { s with heap:=h' }):wpAny (model prog w) A (pyNext (.ref z)) Q E s:=by
 have hT:s.TypeIs (.ref z) "zip" := ⟨_,S.z,rfl⟩;unfold pyNext
 refine zc (wpAny_attempt (xY (name:=Str.ofString "__next__") hT F.slot_zip_next (wQ F.slot_zip_next hT F.entry_zip_next
  (zp8 hh D S hl1 hl2 n1 n2 hend λh' e hk he=>?_) (F.args_zip_next_1 _))))
 obtain⟨o,ho,hc⟩:=he;refine zc (wpAny_isInstance (T := "StopIteration") (b:=true) ⟨o,ho,hc⟩ isSubtype_stop (zo (hQ _ hk)))
def zh1(h:Heap)(b:Bool)(l:Addr):Heap:=h.push { cls:=.type (WC b),data:=.fields #[.ref l,.int 0 0] }
def zh3(h:Heap)(b c:Bool)(l1 l2:Addr):Heap:=(zh1 (zh1 h b l1) c l2).push { cls:=.type "tuple",data:=.seq #[.ref h.objs.size,.ref (zh1 h b l1).objs.size] }
def zh4(h:Heap)(b c:Bool)(l1 l2:Addr):Heap:=(zh3 h b c l1 l2).push { cls:=.type "tuple",data:=.seq #[.none,.none] }
def zh5(h:Heap)(b c:Bool)(l1 l2:Addr):Heap:=(zh4 h b c l1 l2).push { cls:=.type "zip",data:=.fields #[.none,.bool false,.bool false,.ref (zh1 (zh1 h b l1) c l2).objs.size,.ref (zh3 h b c l1 l2).objs.size] }
end
def zj0(b c:Bool)(l1 l2:Addr)(xs ys:Array Value) :
  Meets (Builtin.«zip.__new__» ⟨[.type "zip",.ref l1,.ref l2],[]⟩) (λ_ R s=>SeqIs b s.heap l1 xs/\SeqIs c s.heap l2 ys /\
   R (.ok (.ret (.ref (zh4 s.heap b c l1 l2).objs.size))) { s with heap:=zh5 s.heap b c l1 l2 }):=
 .of_wp λprog w A R s h=>by
  obtain⟨hp,g,d,tk,os⟩:=s;obtain⟨hl1,hl2,h⟩:=h;have hsub:=sub_zip;have q1:SeqIs b (Shared.heap ⟨hp,g,d,tk,os⟩) l1 xs:=hl1;have q2:SeqIs c (Shared.heap ⟨hp.push { cls:=.type (WC b),data:=.fields #[.ref l1,.int 0 0] },g,d,tk,os⟩) l2 ys:=hl2.at λo e=>zg _ e
  wp_walk using Wq q1,Wq q2
  exact⟨_,rfl,h⟩
section
variable {prog:Program}{w:World}{A:Around}{E:Value->Shared->Prop}{s:Shared}
def zy8{b c:Bool}{l1 l2:Addr}{xs ys:Array Value}{Q:Value->Shared->Prop}(hl1:SeqIs b s.heap l1 xs)(hl2:SeqIs c s.heap l2 ys)
  (h:∀h' z ti to i1 i2,ZApart z ti to i1 i2->ZSt b c z ti to i1 i2 l1 l2 0 h'->(∀d∈[z,ti,to,i1,i2],s.heap.objs.size<=d)->(∀d o,s.heap.get? d=some o->h'.get? d=some o)->Q (.ref z) { s with heap:=h' }) :
  wpAny (model prog w) A (call (.type "zip") [.ref l1,.ref l2]) Q E s:=by
 refine callType_new F.called_zip w9 (F.typeCall_zip_2 _ _) (F.newCall_zip_2 _ _) (λobj=>F.args_object_init_3 obj _ _) F.entry_zip_new (zj0 b c l1 l2 xs ys) ⟨hl1,hl2,?_⟩
 unfold zh5 zh4 zh3;generalize h1:zh1 s.heap b l1=g1;generalize h2:zh1 g1 c l2=g2
 have z1:g1.objs.size=s.heap.objs.size+1:=by rw[<- h1];exact wd ..
 have z2:g2.objs.size=s.heap.objs.size+2:=by rw[<- h2];exact(wd ..).trans (by rw[z1])
 generalize h3:g2.push { cls:=.type "tuple",data:=.seq #[.ref s.heap.objs.size,.ref g1.objs.size] }=g3
 have z3:g3.objs.size=s.heap.objs.size+3:=by rw[<- h3,wd,z2]
 generalize h4:g3.push { cls:=.type "tuple",data:=.seq #[.none,.none] }=g4
 have z4:g4.objs.size=s.heap.objs.size+4:=by rw[<- h4,wd,z3]
 have e1:g1.get? s.heap.objs.size=some { cls:=.type (WC b),data:=.fields #[.ref l1,.int 0 0] }:=by rw[<- h1];exact zw _ rfl
 have e2:g2.get? g1.objs.size=some { cls:=.type (WC c),data:=.fields #[.ref l2,.int 0 0] }:=by rw[<- h2];exact zw _ rfl
 have e3:g3.get? g2.objs.size=some { cls:=.type "tuple",data:=.seq #[.ref s.heap.objs.size,.ref g1.objs.size] }:=by rw[<- h3];exact zw _ rfl
 have e4:g4.get? g3.objs.size=some { cls:=.type "tuple",data:=.seq #[.none,.none] }:=by rw[<- h4];exact zw _ rfl
 have k1:∀d o,s.heap.get? d=some o->g1.get? d=some o:=λd o e=>by rw[<- h1];exact zg _ e
 have k2:∀d o,g1.get? d=some o->g2.get? d=some o:=λd o e=>by rw[<- h2];exact zg _ e
 have k3:∀d o,g2.get? d=some o->g3.get? d=some o:=λd o e=>by rw[<- h3];exact zg _ e
 have k4:∀d o,g3.get? d=some o->g4.get? d=some o:=λd o e=>by rw[<- h4];exact zg _ e
 show _/\_;refine⟨⟨_,zw _ rfl,rfl⟩,?_⟩;refine h _ g4.objs.size g2.objs.size g3.objs.size s.heap.objs.size g1.objs.size ⟨?_,?_,?_,?_,?_,?_,?_,?_,?_,?_⟩ ⟨zw _ rfl,zg _ (k4 _ _ e3),⟨_,_,zg _ e4⟩,?_,?_⟩ (λd hd=>?_) λd o e=>zg _ (k4 _ _ (k3 _ _ (k2 _ _ (k1 _ _ e))))
 ·rw[z2,z4];first |exact zG w6 |exact xT w6
 ·rw[z3,z4];first |exact zG w6 |exact xT w6
 ·rw[z4];first |exact zG w6 |exact xT w6
 ·rw[z1,z4];first |exact zG w6 |exact xT w6
 ·rw[z2,z3];first |exact zG w6 |exact xT w6
 ·rw[z2];first |exact zG w6 |exact xT w6
 ·rw[z2,z1];first |exact zG w6 |exact xT w6
 ·rw[z3];first |exact zG w6 |exact xT w6
 ·rw[z3,z1];first |exact zG w6 |exact xT w6
 ·rw[z1];first |exact zG w6 |exact xT w6
 ·cases b<;>exact⟨_,zg _ (k4 _ _ (k3 _ _ (k2 _ _ e1))),rfl,rfl⟩
 ·cases c<;>exact⟨_,zg _ (k4 _ _ (k3 _ _ e2)),rfl,rfl⟩
 ·simp only [zi, xl, or_false] at hd
  rcases hd with rfl |rfl |rfl |rfl |rfl
  ·rw[z4];lia
  ·rw[z2];lia
  ·rw[z3];lia
  ·exact zk _
  ·rw[z1];lia
end
end L2
namespace L2
def Inv.track{X:Cx}{pins:List (Addr × Obj)}{σ:St}{H:Hp}{s:Shared}{a:Addr}{o:HO}(I:Inv X pins σ H s)(hn:H a=none)(hz:X.s₀.heap.objs.size<=a)(hL:a≠X.env.locals)
  (hc:∀x c,X.env.cells.lookup x=some c->c≠a) (hp:∀p∈X.pn++pins,p.1≠a) (new:ObjOk X.prog X.w (upd H a o) s.heap a o):Inv X pins σ (upd H a o) s:=by
 have nb:∀b u,H b=some u->b≠a:=λb u e=>wu e hn;refine⟨I.ok,I.os,I.bare,⟨I.base.keep,I.base.slot,λb u e n hx=>?_,I.base.there,λb xs e=>?_,λb u xs e=>?_,λb ps e=>?_⟩,I.loc,I.cell,?_,λx c e=>?_,λp hq=>?_,λb u e=>?_,I.len⟩
 ·rw[xW (zG (zD (zt e) hz))];exact I.base.free b u e n hx
 ·have q:=I.base.tups b xs e;rw[xW (nb b _ q)];exact q
 ·have q:=I.base.frzs b u xs e;rw[xW (nb b _ q)];exact q
 ·obtain⟨m,q⟩:=I.base.tbls b ps e;exact⟨m,by rw[xW (nb b _ q)];exact q⟩
 ·rw[xW (Ne.symm hL)];exact I.free
 ·rw[xW (hc x c e)];exact I.freeC x c e
 ·obtain ⟨q1, q2, q3⟩ := I.pin p hq
  exact⟨q1,by rw[xW (hp p hq)];exact q2,q3⟩
 ·by_cases hb : b = a
  ·subst hb;rw[wZ] at e;cases e;exact new
  ·rw [xW hb] at e
   exact(I.hok b u e).stay (λ_ _ _ q=>q) (λc q=>by rw[xW (nb c _ q)];exact q) λc xs q=>by rw[xW (nb c _ q)];exact q
structure CompOk(X:Cx)(scope:Scope)(M:List Str):Prop where
 kind:scope.kind=.function
 uniq:∀y∈scope.names,scope.names.lookup y.1=some y.2
 frees:∀y∈scope.names,y.2=.free->(X.env.kindOf y.1=some .cell\/X.env.kindOf y.1=some .free)
 shadow:∀x∈M,scope.names.lookup x≠some .local/\scope.names.lookup x≠some .cell
 same:∀(i:Nat) (x:Str),M[i]?=some x->scope.names.lookup x=some .free->X.N[i]?=some x
 mlen:M.length=X.N.length
def zn8(N M:List Str)(out sc:Scope):Bool:=
 (sc.kind == .function && sc.names.all (λy => sc.names.lookup y.1 == some y.2 && (y.2 != .free || (out.names.lookup y.1 == some .cell || out.names.lookup y.1 == some .free))) &&
  M.all (λx=>sc.names.lookup x != some .local&&sc.names.lookup x != some .cell))&&(M.length == N.length&&(M.zip N).all (λp=>sc.names.lookup p.1 != some .free||p.1 == p.2))
def vi{X:Cx}{sc:Scope}{M:List Str}(h:zn8 X.N M X.env.scope sc=true):CompOk X sc M:=by
 unfold zn8 at h;rw[zv,zv,zv,zv,zZ,zZ,zZ] at h;obtain⟨⟨⟨h1,h2⟩,h3⟩,h4,h5⟩:=h
 have hl:M.length=X.N.length:=by simpa using h4
 refine⟨by simpa using h1,λy hy=>?_,λy hy hf=>?_,λx hx=>?_,λi x hi hf=>?_,hl⟩
 ·have := h2 y hy;rw[zv] at this
  simpa using this.1
 ·have := h2 y hy;rw[zv] at this;have q:=this.2;rw[hf] at q
  have q':(X.env.scope.names.lookup y.1 == some .cell||X.env.scope.names.lookup y.1 == some .free)=true:=by simpa using q
  rw[Bool.or_eq_true] at q'
  exact q'.imp (λz=>(show X.env.scope.names.lookup y.1=some .cell by simpa using z)) λz=>(show X.env.scope.names.lookup y.1=some .free by simpa using z)
 ·have := h3 x hx;rw[zv] at this
  exact⟨by simpa using this.1,by simpa using this.2⟩
 ·have hlt : i < X.N.length := by rw [<- hl]; exact (zM.mp hi).1
  have hn:X.N[i]?=some X.N[i]:=xD hlt
  have hz:(M.zip X.N)[i]?=some (x,X.N[i]):=by rw[List.getElem?_zip_eq_some];exact⟨hi,hn⟩
  have:=h5 _ (xb hz);rw[Bool.or_eq_true] at this
  rcases this with z |z
  ·rw[hf] at z;simp at z
  ·have e : x = X.N[i] := by simpa using z
   rw[hn,<- e]
def ja(X:Cx)(scope:Scope)(C:Addr):List (Str × Addr):=cellsFrom (C+1) scope.names (qD X.env scope.names [])
def yq(X:Cx)(scope:Scope)(own M:List Str)(C:Addr)(s2:Shared)(H2:Hp)(fp:List Addr):Cx where
 prog:=X.prog
 w:=X.w
 K:=X.K
 mg:=X.mg
 base:=X.base
 A:=X.A
 N:=own++M
 s₀:=s2
 H₀:=H2
 env:=compEnvC scope (ja X scope C) C X.env
 outer:=X.stack
 stack:=X.stack
 ex:=fp
 fn:=λx=>scope.names.lookup x == some .cell
 calm:=X.calm
 pn:=[]
 xe:=λ_ _=>False
def PTs(X:Cx)(ifs:List Expr)(t:TT):Prop:=
 ∀(pins:List (Addr × Obj)) (s:Shared) (σ:St) (H:Hp) (Q:Bool->Hp->Prop),Inv X pins σ H s->t σ H Q->wpAny (model X.prog X.w) X.A (zo6 ifs X.env) (TP X pins σ Q) X.xe s
def xv4:TT:=λ_ H Q=>Q true H
def zH0{X:Cx}:PTs X [] xv4:=λ_ _ _ H _ I h=>zo ⟨H,I,h⟩
def Qo(wi:TI)(own:Nat)(g:TG)(tt:TT)(te:TE):TE:=λσ H Q=>wi σ H λJ H1=>∃W:Nat->Nat->List V->Hp->Prop,(∃m,W 0 m [] H1)/\∀i m acc H,W i m acc H ->
 (J.stop i H/\acc.length<=sizeLine/\∀D,H D=none->Q (.ref D) (upd H D (.lst acc))) \/
 (J.go i H /\ acc.length < sizeLine /\ ∀ x H', J.yld i H x H' -> g x (List.replicate own none ++ σ) H' λσ2 H2 => σ2.drop own = σ /\ tt σ2 H2 λc H3 =>
  if c=true then te σ2 H3 λv H4=>∃m',m'<m/\W (i+1) m' (acc++[v]) H4 else ∃m',m'<m/\W (i+1) m' acc H3)
section
variable {X:Cx}{scope:Scope}{own M:List Str}{pins:List (Addr × Obj)}{σ:St}{H2:Hp}{s2:Shared}{fp:List Addr}
def CompOk.cells(ok:CompOk X scope M)(I:Inv X pins σ H2 s2):∀y∈scope.names,y.2=.free->∃c,X.env.cells.lookup y.1=some c:=λy hy hf=>I.ok.has y.1 (ok.frees y hy hf)
def CompOk.kindIn(ok:CompOk X scope M){x:Str}{C:Addr}{k:NameKind}(h:(compEnvC scope (ja X scope C) C X.env).kindOf x=some k) :
  scope.names.lookup x=some k\/(k=.cell/\scope.names.lookup x=some .free):=by
 have h':(relabel scope X.env).names.lookup x=some k:=h;unfold relabel at h';rw[Yq] at h'
 cases e:scope.names.lookup x with
 |none=>rw[e] at h';simp at h'
 | some j =>
  rw[e,Option.map_some] at h';have h2:=xk h'
  split at h2
  ·rename_i hc
   have:j=.free:=by
    rw[zv,zv] at hc
    simpa using hc.1.1
   exact .inr ⟨h2.symm,by rw[this]⟩
  ·exact .inl (by rw[h2])
def CompOk.cellsFrom_old(ok:CompOk X scope M)(I:Inv X pins σ H2 s2){C:Addr}{x:Str}{c:Addr}(h:(ja X scope C).lookup x=some c)(hx:scope.names.lookup x≠some .cell):X.env.cells.lookup x=some c:=by
 have e0:∀(l:List (Str × NameKind)) (n:Nat) (acc:List (Str × Addr)),(x,NameKind.cell) ∉ l->(cellsFrom n l acc).lookup x=acc.lookup x:=by
  intro l
  induction l with
  |nil=>intro n acc _;rfl
  | cons y r ih =>
   intro n acc hy;obtain⟨m,k⟩:=y;unfold cellsFrom
   split
   ·rename_i hk
    have hk':k=.cell:=by simpa using hk
    rw[ih _ _ λz=>hy (zh _ z),xG]
    have:(x == m)=false:=by
     cases hb:x == m with
     |false=>rfl
     |true=>
      have e:x=m:=by simpa using hb
      exact absurd (by rw[hk',e];exact xi) hy
    rw[this]
   ·exact ih _ _ λz=>hy (zh _ z)
 unfold ja at h;rw[e0 _ _ _ λhm=>hx (ok.uniq _ hm)] at h
 exact kL scope.names [] (ok.cells I) (λ_ _ z=>by simp at z) x c h
def JP(ok:CompOk X scope M)(hc:X.calm=true)(I:Inv X pins σ H2 s2)(hf:∀b∈fp,Km X pins H2 b/\b<s2.heap.objs.size){C:Addr}(hC:C=s2.heap.objs.size+1){h4:Heap}
  (hh:h4=pushCells ((s2.heap.push { cls:=.type "list",dict:=none,data:=.seq ([]:List Value).toArray }).push { cls:=.type "dict",data:=.dict #[] }) scope.names) :
  Inv (yq X scope own M C s2 H2 fp) [] (replicate own.length none++σ) H2 { s2 with heap:=h4 }:=by
 have zC:(s2.heap.push { cls:=.type "list",dict:=none,data:=.seq ([]:List Value).toArray }).objs.size=C:=by rw[wd,hC]
 have zC1:((s2.heap.push { cls:=.type "list",dict:=none,data:=.seq ([]:List Value).toArray }).push { cls:=.type "dict",data:=.dict #[] }).objs.size=C+1:=by rw[wd,zC]
 have keep:∀b o,s2.heap.get? b=some o->h4.get? b=some o:=λb o e=>by
  rw[hh];exact pushCells_keeps _ _ _ _ (zg _ (zg _ e))
 have cellOld:∀x c,X.env.cells.lookup x=some c->c<s2.heap.objs.size:=λx c e=>by obtain⟨v,q⟩:=I.cell x c e;exact q.lt
 have cellB:∀x c,(ja X scope C).lookup x=some c->(h4.IsCell c none/\C+1<=c/\scope.names.lookup x=some .cell)\/X.env.cells.lookup x=some c:=λx c e=>by
  by_cases hx:scope.names.lookup x=some .cell
  ·have e' := e;unfold ja at e';rw[<- zC1] at e'
   rcases zo3 _ _ _ x c e' with ⟨a,b,d⟩ |q
   ·exact .inl ⟨by rw[hh];exact a,by rw[zC1] at b;exact b,hx⟩
   ·exact .inr (kL scope.names [] (ok.cells I) (λ_ _ z=>by simp at z) x c q)
  ·exact .inr (ok.cellsFrom_old I e hx)
 have hNs:∃m,h4.Ns C m:=by
  have q:((s2.heap.push { cls:=.type "list",dict:=none,data:=.seq ([]:List Value).toArray }).push { cls:=.type "dict",data:=.dict #[] }).Ns C (λ_=>none):=by
   have:=Heap.Ns.new (s2.heap.push { cls:=.type "list",dict:=none,data:=.seq ([]:List Value).toArray }) (.type "dict");rw[zC] at this;exact this
  exact⟨_,q.keeps λb o e=>by rw[hh];exact pushCells_keeps _ _ _ _ e⟩
 have nfs:∀b∈fp,b ∉ frs X.stack:=λb hb hx=>by
  obtain⟨⟨_,f1,f2,_⟩,_⟩:=hf b hb
  rcases zi.mp (I.stkSub b hx) with e |e
  ·exact f1 e
  ·exact f2 e
 obtain⟨mC,hmC⟩:=hNs
 refine⟨⟨I.ok.mod,ok.kind,I.ok.glob,I.ok.blt,?_,?_,?_,?_,I.ok.hd,I.ok.frames,.inl rfl,?_,I.bs,?_,?_,nfs,I.stack,I.stkFree⟩,rfl,I.bare,Un.kept keep,⟨mC,hmC,?_⟩,?_,I.hok.fresh (by show s2.heap.objs.size<=C;rw[hC];exact yu _),?_,λp hp=>absurd (show p∈([]:List (Addr × Obj)) from hp) (by simp),I.hok.kept keep,?_⟩
 ·show s2.heap.objs.size<=C;rw[hC];exact yu _
 ·intro x y c h1 h2;refine zo1 scope.names (C+1) (qD X.env scope.names []) (λa b d p q=>?_) (λa d p=>?_) x y c h1 h2
  ·exact I.ok.inj a b d (kL scope.names [] (ok.cells I) (λ_ _ z=>by simp at z) a d p) (kL scope.names [] (ok.cells I) (λ_ _ z=>by simp at z) b d q)
  ·have := cellOld a d (kL scope.names [] (ok.cells I) (λ_ _ z => by simp at z) a d p)
   rw[hC];exact Nat.lt_succ_of_lt (Nat.lt_succ_of_lt this)
 ·intro x hx
  have go:∀k,(k=NameKind.cell\/k=NameKind.free)->(compEnvC scope (ja X scope C) C X.env).kindOf x=some k->∃c,(ja X scope C).lookup x=some c:=λk hk e=>by
   rcases ok.kindIn e with e |⟨_,e⟩
   ·rcases hk with rfl | rfl
    ·exact zo2 _ _ _ (PySem.mem_of_lookup e)
    ·exact Ye _ _ _ (qZ (y:=(x,.free)) rfl _ _ (PySem.mem_of_lookup e))
   ·exact Ye _ _ _ (qZ (y:=(x,.free)) rfl _ _ (PySem.mem_of_lookup e))
  rcases hx with e |e
  ·exact go _ (.inl rfl) e
  ·exact go _ (.inr rfl) e
 ·intro x c hx h
  have hx':scope.names.lookup x=some .cell:=by simpa [yq] using hx
  have:=zO4 (x:=x) scope.names (C+1) (qD X.env scope.names []) (C+1) (zk _) (.inl (PySem.mem_of_lookup hx')) c h;show s2.heap.objs.size<=c
  exact zm (by rw[hC];exact zm (yu _) (yu _)) this
 ·intro b hb;obtain⟨⟨_,_,_,_,f4,_⟩,f6⟩:=hf b hb;refine⟨?_,λx c h=>?_⟩
  ·show b≠C;rw[hC];exact zG (Nat.lt_succ_of_lt f6)
  ·rcases cellB x c h with ⟨_, q, _⟩ | q
   ·rw[hC] at q;exact xT (zD f6 (zm (zm (yu _) (yu _)) q))
   ·exact f4 x c q
 ·exact zm I.ok.bsz I.sz
 ·intro b o e hb;obtain⟨⟨_,_,_,f3,_⟩,_⟩:=hf b hb
  rcases f3 with z |z
  ·exact I.ok.noex b o e z
  ·exact absurd (zD (zt (I.ok.bs b o e).1) z) (xx _)
 ·intro i x v h1 h2 h3;have h2':(replicate own.length (none:Option V)++σ)[i]?=some (some v):=h2
  have hi:own.length<=i:=by
   apply Nat.le_of_not_lt;intro hlt
   rw[xu (by simpa using hlt),xr] at h2'
   rw[if_pos hlt] at h2';cases h2'
  rw[xp (by simpa using hi),xJ] at h2'
  have h1':(own++M)[i]?=some x:=h1;rw[xp hi] at h1';obtain⟨n1,n2⟩:=ok.shadow x (xb h1')
  have hfree:scope.names.lookup x=some .free/\((compEnvC scope (ja X scope C) C X.env).kindOf x=some .cell\/(compEnvC scope (ja X scope C) C X.env).kindOf x=some .free):=by
   rcases h3 with e |e |e
   ·rcases ok.kindIn (x := x) (C := C) e with q | ⟨q, _⟩
    ·exact absurd q n1
    ·cases q
   ·rcases ok.kindIn (x := x) (C := C) e with q | ⟨_, q⟩
    ·exact absurd q n2
    ·exact⟨q,.inl e⟩
   ·rcases ok.kindIn (x := x) (C := C) e with q | ⟨q, _⟩
    ·exact⟨q,.inr e⟩
    ·cases q
  obtain⟨hfr,hk⟩:=hfree;obtain⟨m,hn,hl⟩:=I.loc;have hkX:=ok.frees (x,.free) (PySem.mem_of_lookup hfr) rfl;have h1':=ok.same _ _ h1' hfr;obtain⟨u,ru,lk⟩:=hl (i-own.length) x v h1' h2' (hkX.elim (λz=>.inr (.inl z)) λz=>.inr (.inr z));refine⟨u,ru,.inr ⟨hk,?_⟩⟩
  rcases lk with ⟨k,_⟩ |⟨_,c,ec,ic⟩
  ·rcases hkX with z |z<;>(rw[k] at z;cases z)
  ·obtain ⟨c', e'⟩ : ∃ c', (ja X scope C).lookup x = some c' := Ye _ _ _ (qZ (y := (x, .free)) rfl _ _ (PySem.mem_of_lookup hfr));refine⟨c',e',?_⟩
   have:=ok.cellsFrom_old I e' (by rw[hfr];simp)
   have e2:some c=some c':=ec.symm.trans this;cases e2;exact ic.keeps keep
 ·intro x c h
  rcases cellB x c h with ⟨q,_⟩ |q
  ·exact⟨_,q⟩
  ·obtain⟨v,z⟩:=I.cell x c q;exact⟨v,z.keeps keep⟩
 ·intro x c h
  rcases cellB x c h with ⟨q,q2,_⟩ |q
  ·exact I.hok.fresh (by rw[hC] at q2;exact zm (zm (yu _) (yu _)) q2)
  ·exact I.freeC x c q
 ·show(List.replicate own.length (none:Option V)++σ).length=(own++M).length;rw[zE,zE,xJ,I.len,ok.mlen]
end
section
variable {X:Cx}{scope:Scope}{own M:List Str}{pins:List (Addr × Obj)}{σ:St}{H2:Hp}{s2:Shared}{tg iter elt:Expr}{ifs:List Expr}{pos:Pos}{g:TG}{tt:TT}{te:TE}
def UZ(ok:CompOk X scope M)(hc:X.calm=true)(hg:∀C s2 H2 fp,PG (yq X scope own M C s2 H2 fp) tg g)(ht:∀C s2 H2 fp,PTs (yq X scope own M C s2 H2 fp) ifs tt)(he:∀C s2 H2 fp,PE (yq X scope own M C s2 H2 fp) elt te)
  (I2:Inv X pins σ H2 s2) {it:Addr}{fp:List Addr}{tn:Nat->Heap->Prop}{J:It} (T:Turn X.prog X.w X.K tg J fp it tn) (st2:tn 0 s2.heap) (f2:∀b∈fp,Km X pins H2 b)
  {W:Nat->Nat->List V->Hp->Prop} (w0:∃m,W 0 m [] H2) {Qf:V->Hp->Prop}
  (turn : ∀ i m acc H, W i m acc H -> (J.stop i H /\ acc.length <= sizeLine /\ ∀ D, H D = none -> Qf (.ref D) (upd H D (.lst acc))) \/
   (J.go i H /\ acc.length < sizeLine /\ ∀ x H', J.yld i H x H' -> g x (List.replicate own.length none ++ σ) H' λσ2 H2 => σ2.drop own.length = σ /\ tt σ2 H2 λc H3 =>
    if c=true then te σ2 H3 λv H4=>∃m',m'<m/\W (i+1) m' (acc++[v]) H4 else ∃m',m'<m/\W (i+1) m' acc H3))
  {RR:Value->Addr->Result->Shared->Prop}{E:Value->Shared->Prop}
  (fin:∀D C H' s' m,Inv X pins σ H' s'->Qf (.ref D) H'->s'.heap.Ns C m->H' C=none->C≠X.env.locals->X.s₀.heap.objs.size<=C->(∀x c,X.env.cells.lookup x=some c->c≠C)->(∀p∈X.pn++pins,p.1≠C)->RR (.ref D) C (.ok .next) s') :
  wpAny (model X.prog X.w) X.A (newList []) (λacc s3=>wpAny (model X.prog X.w) X.A (newFunctionEnv scope X.env.globals (qD X.env scope.names []) [] X.env.qual none .none (some X.env)) (λcenv s4=>
   codeAny (model X.prog X.w) X.A (.compStart (.ListComp elt [⟨tg,iter,ifs,0⟩] scope pos) 0 (.ref it) acc { cenv with scope:=relabel scope X.env }) (RR acc cenv.locals) s4) E s3) E s2:=by
 refine xM (Xu ?_);have zC:(s2.heap.push { cls:=.type "list",dict:=none,data:=.seq ([]:List Value).toArray }).objs.size=s2.heap.objs.size+1:=wd ..;dsimp only;rw[zC];generalize hC:s2.heap.objs.size+1=C;generalize hh:pushCells ((s2.heap.push { cls:=.type "list",dict:=none,data:=.seq ([]:List Value).toArray }).push { cls:=.type "dict",data:=.dict #[] }) scope.names=h4
 have fpl:∀b∈fp,Km X pins H2 b/\b<s2.heap.objs.size:=λb hb=>by
  obtain⟨o,e,_⟩:=T.obj 0 _ st2 b hb;exact⟨f2 b hb,zt e⟩
 have I4:Inv (yq X scope own M C s2 H2 fp) [] (replicate own.length none++σ) H2 { s2 with heap:=h4 }:=JP ok hc I2 fpl hC.symm hh.symm;generalize hX:yq X scope own M C s2 H2 fp=X' at I4
 have keep4:∀b o,s2.heap.get? b=some o->h4.get? b=some o:=λb o e=>by
  rw[<- hh];exact pushCells_keeps _ _ _ _ (zg _ (zg _ e))
 have hD4:h4.get? s2.heap.objs.size=some { cls:=.type "list",dict:=none,data:=.seq ([]:List Value).toArray }:=by
  rw[<- hh];exact pushCells_keeps _ _ _ _ (zg _ (zw _ rfl))
 have st4:tn 0 h4:=T.keep _ _ _ st2 λb hb o e=>keep4 b o e
 have gg:PG X' tg g:=by rw[<- hX];exact hg C s2 H2 fp
 have gt:PTs X' ifs tt:=by rw[<- hX];exact ht C s2 H2 fp
 have ge:PE X' elt te:=by rw[<- hX];exact he C s2 H2 fp
 have xP:X'.prog=X.prog:=by rw[<- hX];rfl
 have xw:X'.w=X.w:=by rw[<- hX];rfl
 have xK:X'.K=X.K:=by rw[<- hX];rfl
 have xA:X'.A=X.A:=by rw[<- hX];rfl
 have xc:X'.calm=true:=by rw[<- hX];exact hc
 have xpn:X'.pn=[]:=by rw[<- hX];rfl
 have xs:X'.s₀=s2:=by rw[<- hX];rfl
 have xH:X'.H₀=H2:=by rw[<- hX];rfl
 have xL:X'.env.locals=C:=by rw[<- hX];rfl
 have xfs:X'.fs=frs X.stack:=by rw[<- hX];rfl
 have xex:X'.ex=fp:=by rw[<- hX];rfl
 have xe:X'.xe=λ_ _=>False:=by rw[<- hX];rfl
 have xenv:({ newEnv scope C X.env.globals (cellsFrom (C+1) scope.names (qD X.env scope.names [])) X.env.qual none .none (some X.env) builtinsNs with scope:=relabel scope X.env }:Env)=X'.env:=by rw[<- hX];rfl
 have Dlt:s2.heap.objs.size<C:=by rw[<- hC];exact Nat.lt_succ_self _
 have fpb:∀{pl:List (Addr × Obj)}{H:Hp},(∀b∈fp,H b=none)->(∀p∈pl,p.1 ∉ fp)->∀b∈fp,Km X' pl H b:=λ{pl H} hn hpl b hb=>by
  refine⟨hn b hb,?_,?_,.inl (by rw[xex];exact hb),λx c e=>(I4.ok.exf b (by rw[xex];exact hb)).2 x c e,λp hp z=>?_⟩
  ·exact(I4.ok.exf b (by rw[xex];exact hb)).1
  ·exact I4.ok.exfs b (by rw[xex];exact hb)
  ·rw [xpn, yf] at hp
   exact hpl p hp (by rw[z];exact hb)
 have Dfp:s2.heap.objs.size ∉ fp:=λz=>xx _ (fpl _ z).2;have DC:s2.heap.objs.size≠C:=zG Dlt
 have Dcell:∀x c,X'.env.cells.lookup x=some c->c≠s2.heap.objs.size:=λx c e z=>by
  obtain⟨v,o,q,hd⟩:=I4.cell x c e;rw[z] at q;have q':h4.get? s2.heap.objs.size=some o:=q;rw[hD4] at q';cases q';cases hd
 have Dfs:s2.heap.objs.size ∉ X'.fs:=λz=>by
  obtain⟨_,o,ho,_⟩:=I4.ok.funs.mem (by exact z)
  rw[xs] at ho;exact xx _ (zt ho)
 rw[xenv]
 have goal:∀s5:Shared,s5={ s2 with heap:=h4 }->codeAny (model X.prog X.w) X.A (.compLoop (.ListComp elt [⟨tg,iter,ifs,0⟩] scope pos) 0 (.ref it) (.ref s2.heap.objs.size) X'.env) (RR (.ref s2.heap.objs.size) C) s5:=by
  rintro s5 rfl;obtain⟨m0,w0⟩:=w0
  refine zn7 (λn s'=>∃i acc σ' H' its k,Inv X' [] σ' H' s'/\σ'.drop own.length=σ/\tn i s'.heap/\(∀b∈fp,H' b=none)/\H' s2.heap.objs.size=none /\
   s'.heap.get? s2.heap.objs.size=some { cls:=.type "list",data:=.seq (List.toArray its) k }/\Vals acc its/\W i n acc H') ?_ m0
   ⟨0,[],_,H2,[],0,I4,by simp,st4,λb hb=>(f2 b hb).1,I2.hok.fresh (zk _),hD4,.nil,w0⟩
  rintro n s3 ⟨i,acc,σ3,H3,its,k,I3,hσ,st3,fr3,hD,hDo,rv,w3⟩
  have pinD:∀{H:Hp}{s:Shared}{σ:St},Inv X' [] σ H s->H s2.heap.objs.size=none->s.heap.get? s2.heap.objs.size=some { cls:=.type "list",data:=.seq (List.toArray its) k } ->
    Inv X' [(s2.heap.objs.size,{ cls:=.type "list",data:=.seq (List.toArray its) k })] σ H s:=λ{H s σ} I hn ho=>I.pins_of λp hp=>by
   have e:p=(s2.heap.objs.size,{ cls:=.type "list",data:=.seq (List.toArray its) k }):=by simpa using hp
   subst e
   exact⟨ho,hn,by rw[xL];exact DC,Dfs,λv z=>by cases z⟩
  have plD:∀p∈[((s2.heap.objs.size,{ cls:=.type "list",data:=.seq (List.toArray its) k }):Addr × Obj)],p.1 ∉ fp:=λp hp=>by
   have e:p=(s2.heap.objs.size,{ cls:=.type "list",data:=.seq (List.toArray its) k }):=by simpa using hp
   subst e;exact Dfp
  have I3':=pinD I3 hD hDo
  rcases turn i n acc H3 w3 with ⟨stop,hsz,q⟩ |⟨go,hsz,step⟩
  ·have := T.done X' xP xw xK xc i _ s3 σ3 H3 (λ_ _ => False) I3' (fpb fr3 plD) st3 stop;rw[xA] at this;refine thn this λr s4 ⟨hr,I5⟩=>?_;subst hr
   have hDo5:=(I5.pin (s2.heap.objs.size,{ cls:=.type "list",data:=.seq (List.toArray its) k }) (by rw[xpn];simp)).1
   have un:Un (frs X.stack) fp H2 H3 s2.heap s4.heap:=by
    have:=I5.base;rw[xfs,xex,xH,xs] at this;exact this
   have os:s4.os=s2.os:=by rw[I5.os,xs]
   have hok:HOk X.prog X.w H3 s4.heap:=by have:=I5.hok;rw[xP,xw] at this;exact this
   have IX:Inv X pins σ H3 s4:=I2.call' os un hok I5.bare λb hb=>by
    obtain⟨_,f1,_,f3,f4,f5⟩:=f2 b hb;exact⟨f3,f1,f4,f5⟩
   have old:∀{b:Addr},s2.heap.objs.size<=b->(X.s₀.heap.objs.size<=b/\b≠X.env.locals/\(∀x c,X.env.cells.lookup x=some c->c≠b)/\∀p∈X.pn++pins,p.1≠b):=λ{b} hb=>by
    obtain⟨_,f1,_,f3,f4,f5⟩:=I2.fpOk (H':=λ_=>none) hb rfl;exact⟨zm I2.sz hb,f1,f4,f5⟩
   obtain⟨d1,d2,d3,d4⟩:=old (zk s2.heap.objs.size);obtain⟨c1,c2,c3,c4⟩:=old (b:=C) (Nat.le_of_lt Dlt);have IY:Inv X pins σ (upd H3 s2.heap.objs.size (.lst acc)) s4:=IX.track hD d1 d2 d3 d4 ⟨hsz,its,k,rv,hDo5⟩;obtain⟨m,hm,_⟩:=I5.loc;rw[xL] at hm
   have hCn:H3 C=none:=by have:=I5.free;rw[xL] at this;exact this
   exact fin _ C _ s4 m IY (q _ hD) hm (by rw[xW (Ne.symm DC)];exact hCn) c2 c1 c3 c4
  ·have := T.item X' xP xw xK xc i _ s3 σ3 H3 (λ_ _ => False) I3' (fpb fr3 plD) st3 go;rw[xA] at this;refine thn this λr s4 ⟨u,hr,h4⟩=>?_;subst hr;refine thn h4 λ_ s5 ⟨x,H5,I5,r5,y5,st5,fr5⟩=>?_
   have hσn:∀(j:Nat) v,(replicate own.length none++σ)[j]?=some (some v)->σ3[j]?=some (some v):=λj v e=>by
    by_cases hlt:j<own.length
    ·rw [xu (by simpa using hlt), xr, if_pos hlt] at e
     cases e
    ·have hle := Nat.le_of_not_lt hlt
     rw[xp (by simpa using hle),xJ,<- hσ,getElem?_drop] at e
     rw[show own.length+(j-own.length)=j by lia] at e
     exact e
   have hlen:(replicate own.length none++σ).length=σ3.length:=by
    have e1:σ3.length=X'.N.length:=I5.len;have e2:=I4.len;exact e2.trans e1.symm
   have I5w:Inv X' _ (replicate own.length none++σ) H5 s5:=I5.weak hlen hσn;have I5p:=I5w.pinned (fpb fr5 plD) (T.obj _ _ st5);have a1:=gg _ s5 _ H5 x u _ I5p r5 (step x H5 y5);rw[xP,xw,xA,xe] at a1;refine thn a1 λ_ s6 ⟨σ6,H6,I6,d6,q6⟩=>?_;have a2:=gt _ s6 σ6 H6 _ I6 q6;rw[xP,xw,xA,xe] at a2;refine thn a2 λb s7 ⟨H7,I7,q7⟩=>?_
   have pin7:∀{H:Hp}{s:Shared},Inv X' ([((s2.heap.objs.size,{ cls:=.type "list",data:=.seq (List.toArray its) k }):Addr × Obj)]++Wt fp s5.heap) σ6 H s ->
     (tn (i+1) s.heap/\(∀b∈fp,H b=none)/\H s2.heap.objs.size=none/\s.heap.get? s2.heap.objs.size=some { cls:=.type "list",data:=.seq (List.toArray its) k }/\Inv X' [] σ6 H s):=λ{H s} I=>by
    refine⟨T.keep _ _ _ st5 λb hb o e=>(I.pin (b,o) (zA _ (zA _ (kB hb e)))).1,λb hb=>?_,?_,?_,I.pins_of λp hp=>by simp at hp⟩
    ·obtain⟨o,e,d⟩:=T.obj _ _ st5 b hb;exact(I.pin (b,o) (zA _ (zA _ (kB hb e)))).2.1
    ·exact(I.pin (s2.heap.objs.size,{ cls:=.type "list",data:=.seq (List.toArray its) k }) (by rw[xpn];simp)).2.1
    ·exact(I.pin (s2.heap.objs.size,{ cls:=.type "list",data:=.seq (List.toArray its) k }) (by rw[xpn];simp)).1
   cases b with
   |false=>
    obtain⟨p1,p2,p3,p4,p5⟩:=pin7 I7;obtain⟨m',hm,w7⟩:=q7;exact⟨m',hm,i+1,acc,σ6,H7,its,k,p5,d6,p1,p2,p3,p4,rv,w7⟩
   |true=>
    rw[if_pos rfl] at q7 ⊢;have a3:=ge _ s7 σ6 H7 _ I7 q7;rw[xP,xw,xA,xe] at a3;refine thn a3 λy s8 ⟨v,H8,I8,r8,q8⟩=>?_;obtain⟨p1,p2,p3,p4,p5⟩:=pin7 I8;obtain⟨m',hm,w8⟩:=q8;have hl:=rv.length
    refine wpAny_list_append_plain (items:=List.toArray its) ⟨k,p4⟩ (λh' hpl hs=>?_) (by simp;lia)
    obtain⟨k',hpl⟩:=hpl
    have I9:Inv X' [] σ6 H8 { s8 with heap:=h' }:=p5.turned (t':=s8.toks) (λb o hb e=>hs.extBut b o hb e) p3 (by rw[xL];exact DC) (.inr (by rw[xs];exact zk _)) Dcell (λp hp=>by rw[xpn] at hp;simp at hp)
    refine⟨m',hm,i+1,acc++[v],σ6,H8,its++[y],k',I9,d6,T.keep _ _ _ p1 λb hb o e=>hs.extBut b o (λz=>Dfp (by rw[<- z];exact hb)) e,p2,p3,?_,rv.append (.cons r8 .nil),w8⟩
    rw[hpl];simp
 exact codeAny_compStart_list (goal _ rfl) (T.self _ 0 _ _ _ st4 (goal _ rfl))
def zI9{wi:TI}(ok:CompOk X scope M)(hc:X.calm=true)(hi:PI X tg iter wi)(hg:∀C s2 H2 fp,PG (yq X scope own M C s2 H2 fp) tg g)(ht:∀C s2 H2 fp,PTs (yq X scope own M C s2 H2 fp) ifs tt)
  (he:∀C s2 H2 fp,PE (yq X scope own M C s2 H2 fp) elt te) (hs:∀x,foldedSetIterable iter X.env x=pure x:=by intro _;rfl) :
  PE X (.ListComp elt [⟨tg,iter,ifs,0⟩] scope pos) (Qo wi own.length g tt te):=by
 intro pins s σ H Q I h;rw[eval_ListComp]
 refine wK (use:=none) rfl hs (YS (ok.cells I)) ok.kind (λx hx hl=>by rw[ok.uniq x hx,hl]) ?_
 refine thn (hi pins s σ H _ I h) λv s1 h1=>thn h1 λitv s2 h2=>?_;obtain⟨it,fp,tn,J,H2,e,I2,T,st2,f2,W,w0,turn⟩:=h2;subst e;refine UZ (Qf:=Q) ok hc hg ht he I2 T st2 f2 w0 turn λD C H' s' m IY q hm hCn c2 c1 c3 c4=>⟨m,hm,λh' hs'=>?_⟩;exact⟨.ref D,H',IY.turned (t':=s'.toks) (λb o hb e=>hs'.extBut b o hb e) hCn c2 (.inr c1) c3 c4,rfl,q⟩
def Qu{wi:TI}{i:Nat}{x:Str}{pos' spos:Pos}(hN:X.N.Nodup)(hix:X.N[i]?=some x)(hx:Loc X.env.scope x)(ok:CompOk X scope M)(hc:X.calm=true)(hi:PI X tg iter wi)(hg:∀C s2 H2 fp,PG (yq X scope own M C s2 H2 fp) tg g)
  (ht:∀C s2 H2 fp,PTs (yq X scope own M C s2 H2 fp) ifs tt) (he:∀C s2 H2 fp,PE (yq X scope own M C s2 H2 fp) elt te)
  (hsw:swapsWith (.ListComp elt [⟨tg,iter,ifs,0⟩] scope pos) (some (.Name x pos')) spos.line X.env=pure true:=by rfl) (hf:X.fn x=true\/X.env.scope.names.lookup x=some .local:=by first |exact .inl rfl |exact .inr rfl |assumption)
  (hs:∀x,foldedSetIterable iter X.env x=pure x:=by intro _;rfl):PS X (.Assign [.Name x pos'] (.ListComp elt [⟨tg,iter,ifs,0⟩] scope pos) spos) (xa7 (Qo wi own.length g tt te) (QL i)):=by
 intro pins s σ H D I h;rw[exec_Assign_Name_used _ _ _ _ hsw];refine zc (wy (zc ?_))
 show wpAny _ _ (do let _ <- comprehension (.ListComp elt [⟨tg,iter,ifs,0⟩] scope pos) scope X.env _ (newList []) false (eval iter X.env) (some (assign (.Name x pos') X.env))) _ _ s
 refine zc (thn (wK (use:=some (assign (.Name x pos') X.env)) (Q:=λ_ s'=>SP X pins D .next s') rfl hs (YS (ok.cells I)) ok.kind (λx hx hl=>by rw[ok.uniq x hx,hl]) ?_)
  λ_ s' hq=>zo (zo hq))
 refine thn (hi pins s σ H _ I h) λv s1 h1=>thn h1 λitv s2 h2=>?_;obtain⟨it,fp,tn,J,H2,e,I2,T,st2,f2,W,w0,turn⟩:=h2;subst e;refine UZ (Qf:=λx H1=>QL i x σ H1 D.nx) ok hc hg ht he I2 T st2 f2 w0 turn λD' C H' s' m IY q hm hCn c2 c1 c3 c4=>?_;show wpAny _ _ (assign (.Name x pos') X.env (.ref D')) _ _ s';refine wpAny_assign_Name (YY IY hN hix hx (v:=.ref D') rfl (λs'' I'' ⟨a,hsb,ha⟩=>?_) hf)
 have hCa:C≠a:=by
  rcases ha with z |z
  ·rw[z];exact c2
  ·exact λe=>c3 x a z e.symm
 exact⟨m,hm.sameBut hsb hCa,λh' hs'=>⟨_,H',I''.turned (t':=s''.toks) (λb o hb e=>hs'.extBut b o hb e) hCn c2 (.inr c1) c3 c4,q⟩⟩
end
section
variable {X:Cx}{pins:List (Addr × Obj)}{σ:St}{H:Hp}{s:Shared}
def Inv.turnedL{t':Nat}{h':Heap}{ch:List Addr}(I:Inv X pins σ H s)(k:∀b o,b ∉ ch->s.heap.get? b=some o->h'.get? b=some o)(hf:∀b∈ch,Km X pins H b):Inv X pins σ H { s with heap:=h',toks:=t' }:=by
 have nit:∀b u,H b=some u->b ∉ ch:=λb u e z=>by rw[(hf b z).1] at e;cases e
 refine I.step (g':=s.gens) (d':=s.drawn) (ch:=ch) (λb hb=>?_) (λb o _ _ hc e _=>k b o hc e) (λb o _ _ hc e _=>⟨o.slots,k b o hc e⟩) (λ_ _ _ _ n=>n)
  (λb o hc e=>⟨o,k b o hc e⟩) (λ_ _ e=>e) (λ_ _ _ e=>e) (λb ps e=>⟨#[],by rw[e];simp⟩) (λm hm=>?_) (λb u e=>?_) I.bare
 ·obtain⟨_,f1,_,f3,f4,f5⟩:=hf b hb;exact⟨f3,f1,f4,f5⟩
 ·obtain⟨o,es,ep,ho,r⟩:=hm;exact⟨o,es,ep,k _ o (λz=>(hf _ z).2.1 rfl) ho,r⟩
 ·refine (I.hok b u e).stay (λc v hc q => k c v ?_ q) (λ_ q => q) λ_ _ q => q
  rcases hc with z |z
  ·rw[z];exact nit b u e
  ·exact nit c _ z
def SqB(K:W.Frag)(b:Bool)(H:Hp)(a:Addr)(xs:List V):Prop:=match b with |true=>SqL K H a xs |false=>SqT K H a xs
def Inv.seqB{b:Bool}{a:Addr}{xs:List V}(I:Inv X pins σ H s)(h:SqB X.K b H a xs):∃its:List Value,Vals xs its/\SeqIs b s.heap a its.toArray:=by
 cases b with
 |true=>obtain⟨its,r,p,_⟩:=I.list h;exact⟨its,r,p.isList⟩
 |false=>obtain⟨its,r,p,_⟩:=I.tuple h;exact⟨its,r,p⟩
def Inv.seqB_inj{b:Bool}{a:Addr}{xs ys:List V}(I:Inv X pins σ H s)(h:SqB X.K b H a xs)(h':SqB X.K b H a ys):xs=ys:=by
 cases b with
 |true=>exact I.list_inj h h'
 |false=>exact I.tuple_inj h h'
def Inv.ne_fp{b:Bool}{a c:Addr}{xs:List V}(I:Inv X pins σ H s)(h:SqB X.K b H a xs)(hf:Km X pins H c):a≠c:=by
 have old:∀o,X.K.lookup a=some o->a≠c:=λo e z=>by
  have eb:=I.ok.mod.kin a o e;rw[z] at eb;obtain⟨_,_,_,f3,_⟩:=hf
  rcases f3 with q |q
  ·exact I.ok.noex c o eb q
  ·exact absurd (zD (zt (I.ok.bs c o eb).1) q) (xx _)
 have trk:∀u,H a=some u->a≠c:=λu e=>wu e hf.1
 cases b with
 |true=>
  rcases h with (h |⟨o,h⟩) |⟨o,_,_,hk,_⟩
  ·exact trk _ h
  ·exact trk _ h
  ·exact old o hk
 |false=>
  rcases h with (h |⟨o,h⟩) |⟨o,_,_,hk,_⟩
  ·exact trk _ h
  ·exact trk _ h
  ·exact old o hk
def Itz(K:W.Frag)(b c:Bool)(l1 l2:Addr):It:=
  ⟨λi H=>∃xs ys x y,SqB K b H l1 xs/\SqB K c H l2 ys/\xs[i]?=some x/\ys[i]?=some y,
   λi H v H'=>∃T,H T=none/\v=.ref T/\∀xs ys,SqB K b H l1 xs->SqB K c H l2 ys->∃x y,xs[i]?=some x/\ys[i]?=some y/\H'=upd H T (.tup [x,y]),
   λi H=>∃xs ys,SqB K b H l1 xs/\SqB K c H l2 ys/\(xs.length<=i\/ys.length<=i)⟩
def newTup{T:Addr}{x y:V}{u v:Value}{s1:Shared}(I:Inv X pins σ H s)(I1:Inv X pins σ H s1)(hT:s.heap.objs.size<=T)(hn:H T=none)(ho:s1.heap.get? T=some { cls:=.type "tuple",data:=.seq #[u,v] })(rx:RelV x u)(ry:RelV y v) :
  Inv X pins σ (upd H T (.tup [x,y])) s1:=by
 obtain⟨_,f1,_,f3,f4,f5⟩:=I.fpOk (H':=H) hT hn
 exact I1.track hn (zm I.sz hT) f1 f4 f5 ⟨(by show 2<=sizeLine;decide),[u,v],.cons rx (.cons ry .nil),⟨_,ho,rfl,_,rfl⟩⟩
def zq2{P:Program}{w:World}{K:W.Frag}{es:List Expr}{kk:Nat}{ps:Pos}{b c:Bool}{z ti to i1 i2 l1 l2:Addr}(D:ZApart z ti to i1 i2) :
  Turn P w K (.Tuple es kk ps) (Itz K b c l1 l2) [z,ti,to,i1,i2] z (λi h=>ZSt b c z ti to i1 i2 l1 l2 i h) where
 mem:=by simp
 obj:=λi h st d hd=>by
  have nc:∀{o:Obj}{vs:Array Value},o.data=.fields vs->∀v,o.data≠.cell v:=λe v q=>by rw[e] at q;cases q
  simp only[zi,xl,or_false] at hd
  rcases hd with rfl |rfl |rfl |rfl |rfl
  ·exact⟨_,st.z,λv q=>by cases q⟩
  ·exact⟨_,st.ti,λv q=>by cases q⟩
  ·obtain ⟨u, v, e⟩ := st.to
   exact⟨_,e,λv q=>by cases q⟩
  ·obtain⟨o,e,_,hd⟩:=st.i1.obj;exact⟨o,e,nc hd⟩
  ·obtain⟨o,e,_,hd⟩:=st.i2.obj;exact⟨o,e,nc hd⟩
 keep:=λi h h' st k=>by
  obtain⟨u,v,e⟩:=st.to
  exact⟨k z (by simp) _ st.z,k ti (by simp) _ st.ti,⟨u,v,k to (by simp) _ e⟩,st.i1.at λo q=>k i1 (by simp) o q,st.i2.at λo q=>k i2 (by simp) o q⟩
 item:=by
  intro X hP hw hK hc i pins s σ H E I hf st hg;subst hP hw hK;obtain⟨xs,ys,x,y,q1,q2,hx,hy⟩:=hg;obtain⟨is1,r1,p1⟩:=I.seqB q1;obtain⟨is2,r2,p2⟩:=I.seqB q2;obtain⟨u,hu,ru⟩:=r1.get hx;obtain⟨v,hv,rv⟩:=r2.get hy
  have hfto:=hf to (by simp)
  refine zv6 D st p1 p2 (I.ne_fp q1 hfto) (I.ne_fp q2 hfto) (x:=u) (y:=v) (by simpa using hu) (by simpa using hv) λh' M hT kp=>?_
  have lt:∀{d:Addr},d∈[z,ti,to,i1,i2]->s.heap.objs.size≠d:=λ{d} hd e=>by
   obtain⟨o,q⟩:∃o,s.heap.get? d=some o:=by
    simp only[zi,xl,or_false] at hd
    rcases hd with rfl |rfl |rfl |rfl |rfl
    ·exact⟨_,st.z⟩
    ·exact⟨_,st.ti⟩
    ·obtain⟨u,v,e⟩:=st.to;exact⟨_,e⟩
    ·obtain⟨o,e,_⟩:=st.i1.obj;exact⟨o,e⟩
    ·obtain⟨o,e,_⟩:=st.i2.obj;exact⟨o,e⟩
   have:=zt q;rw[<- e] at this;exact xx _ this
  refine⟨_,rfl,wpAny_letOwnedTupleGo_zip (s:={ s with heap:=h' }) M.z λh'' z' sb=>?_⟩
  have kp2:∀d o,d ∉ [z,ti,to,i1,i2]->s.heap.get? d=some o->h''.get? d=some o:=λd o hd e=>by
   simp only[zi,xl,or_false,not_or] at hd;exact sb.extBut _ _ hd.1 (kp d o hd.1 hd.2.2.1 hd.2.2.2.1 hd.2.2.2.2 e)
  have I1:Inv X pins σ H { s with heap:=h'' }:=I.turnedL (t':=s.toks) kp2 hf;have hn:H s.heap.objs.size=none:=I.hok.fresh (zk _)
  have I2:Inv X pins σ (upd H s.heap.objs.size (.tup [x,y])) { s with heap:=h'' }:=newTup I I1 (zk _) hn (sb.extBut _ _ (lt (by simp)) hT) ru rv
  obtain⟨u',v',eto⟩:=M.to
  refine⟨.ref s.heap.objs.size,_,I2,rfl,⟨_,hn,rfl,λxs' ys' e1 e2=>⟨x,y,by rw[I.seqB_inj e1 q1];exact hx,by rw[I.seqB_inj e2 q2];exact hy,rfl⟩⟩,?_,λd hd=>?_⟩
  ·exact⟨z',sb.extBut _ _ D.a1 M.ti,⟨u',v',sb.extBut _ _ D.a2 eto⟩,M.i1.at λo e=>sb.extBut _ _ D.a3 e,M.i2.at λo e=>sb.extBut _ _ D.a4 e⟩
  ·rw[xW (Ne.symm (lt hd))];exact(hf d hd).1
 done:=by
  intro X hP hw hK hc i pins s σ H E I hf st hg;subst hP hw hK;obtain⟨xs,ys,q1,q2,hx⟩:=hg;obtain⟨is1,r1,p1⟩:=I.seqB q1;obtain⟨is2,r2,p2⟩:=I.seqB q2
  have hfto:=hf to (by simp)
  have e1:=r1.length;have e2:=r2.length
  refine UC (I.ok.hd hc) D st p1 p2 (I.ne_fp q1 hfto) (I.ne_fp q2 hfto) (hx.imp (λz=>by simp;lia) λz=>by simp;lia) λh' kp=>⟨rfl,I.turnedL (t':=s.toks) (λd o hd e=>?_) hf⟩
  simp only[zi,xl,or_false,not_or] at hd;exact kp d o hd.1 hd.2.2.1 hd.2.2.2.1 hd.2.2.2.2 e
 self:=λ_ _ _ _ _ st h=>wpAny_pyIter_zip st.z h
def xA1(K:W.Frag)(ta:TA):TI:=λσ H R=>ta σ H λvs H1=>∃b c l1 l2 xs ys,vs=[.ref l1,.ref l2]/\SqB K b H1 l1 xs/\SqB K c H1 l2 ys/\R (Itz K b c l1 l2) H1
def zT7{es:List Expr}{kk:Nat}{ps:Pos}{a b:Expr}{ta:TA}{p pos:Pos}(hg:Gl X "zip")(hm:X.mg "zip" = none)(ha:PA X [a,b] ta)(hs:starEach [a,b] X.env=[(false,eval a X.env),(false,eval b X.env)]:=by rfl)(hs2:starEach [b] X.env=[(false,eval b X.env)]:=by rfl) :
  PI X (.Tuple es kk ps) (.Call (.Name "zip" p) [a,b] [] pos) (xA1 X.K ta):=by
 intro pins s σ H R I h
 refine Call_ (UJ I hg hm boot_zip (PyProof.Rows.callWith_type1 (thn (ha pos pins s σ H _ I h) λus s1 ⟨vs,H1,I1,r1,q1⟩=>?_) (by rw[hs,hs2]) (by rw[hs2];rfl)))
 obtain⟨bb,cc,l1,l2,xs,ys,e,q1,q2,q⟩:=q1;subst e
 cases r1 with
 | cons r rr =>
  cases rr with
  |cons r' rr=>
   cases rr;cases r;cases r';obtain⟨is1,r1,p1⟩:=I1.seqB q1;obtain⟨is2,r2,p2⟩:=I1.seqB q2;refine zy8 p1 p2 λh' z ti to i1 i2 D S new kp=>wpAny_pyIter_zip S.z ?_;exact⟨z,[z,ti,to,i1,i2],_,_,H1,rfl,I1.kept (t':=s1.toks) kp,zq2 D,S,λd hd=>I1.fpOk (new d hd) (I1.hok.fresh (new d hd)),q⟩
def Vals.bools{us:List Value}:∀{bs:List Bool},Vals (bs.map V.bl) us->us=bs.map Value.bool:=by
 induction us with
 |nil=>intro bs h;cases bs with |nil=>rfl |cons=>cases h
 | cons u us ih =>
  intro bs h
  cases bs with
  |nil=>cases h
  | cons b bs =>
   cases h with
   |cons r t=>
    have e:u=Value.bool b:=r;rw[e,ih t];rfl
def zF6(bs:List Bool):((List.range bs.length).all λi=>(bs[i]?).getD true)=bs.all id:=by
 rw[Bool.eq_iff_iff,zZ,zZ]
 constructor
 ·intro h b hb;obtain⟨i,hi,e⟩:=List.mem_iff_getElem.mp hb;have:=h i (List.mem_range.mpr hi);rw[xD hi,e] at this;exact this
 ·intro h i hi;have hi':=List.mem_range.mp hi;rw[xD hi'];exact h _ (getElem_mem hi')
def zV8{h h':Heap}{o:Obj}(hk:∀b x,b ∉ [h.objs.size]->(h.push o).get? b=some x->h'.get? b=some x):∀b x,h.get? b=some x->h'.get? b=some x:=
 λb x e=>hk b x (λz=>absurd (zt e) (by rw[xh.mp z];exact xx _)) (zg _ e)
def qy(hc:X.calm=true):jw X (.builtin "all") (λxs H Q=>∃(p:Addr) (bs:List Bool),xs=[.ref p]/\SqL X.K H p (bs.map V.bl)/\Q (.bl (bs.all id)) H):=by
 intro pins s σ H xs us Q I r h;obtain⟨p,bs,rfl,hq,q⟩:=h
 cases r with
 | cons r rr =>
  cases rr;cases r;obtain⟨its,rv,pl,_⟩:=I.list hq;have ei:=Vals.bools rv;subst ei;have hl:=pl.isList
  have hlt:p<s.heap.objs.size:=by obtain⟨_,e,_⟩:=hl;exact zt e
  refine call_all_walk (wpAny_pyIter_list hl ⟨s.heap.objs.size,[s.heap.objs.size,p],[s.heap.objs.size],(bs.map Value.bool).toArray.size,_,_,λi=>(bs[i]?).getD true,rfl,
   Walks.list (A:=X.A.in1) (I.ok.hd hc) _ p (zG hlt) _,⟨⟨_,zw _ rfl,rfl,rfl⟩,hl.push _⟩,λi v s' Q' E' hP hQ=>?_,λh' tk hk=>?_⟩)
  ·have hP' : (bs.map Value.bool)[i]? = some v := by simpa using hP
   rw[xn] at hP'
   cases e:bs[i]? with
   |none=>rw[e] at hP';cases hP'
   |some b=>
    rw[e] at hP';have hQ':Q' ((bs[i]?).getD true) s':=hQ;rw[e] at hQ';cases hP';exact wN hQ'
  ·refine⟨.bl (bs.all id),H,I.kept (zV8 hk),?_,q⟩;show Value.bool _=Value.bool _;rw[zB,zj,zF6]
def xm2(T:String):V->Bool
 |.bl _=>T == "bool" || T == "int"
 |.int _=>T == "int"
 |.str _=>T == "str"
 |_=>false
def xo7(K:W.Frag)(T:String)(x:V)(H:Hp)(Q:VK):Prop:=match x with
 |.ref a=>(∃xs,SqT K H a xs/\Q (.bl (T == "tuple")) H)\/(∃xs,SqL K H a xs/\Q (.bl (T == "list")) H)\/(∃kvs,H a=some (.dK kvs)/\Q (.bl false) H)
 |.non=>Q (.bl false) H
 |.bl b=>Q (.bl (xm2 T (.bl b))) H
 |.int i=>Q (.bl (xm2 T (.int i))) H
 |.str i=>Q (.bl (xm2 T (.str i))) H
 |_=>False
def yx:jw X (.builtin "isinstance") (λxs H Q=>∃x T,xs=[x,.ty T]/\(T = "bool" \/ T = "int" \/ T = "str" \/ T = "tuple" \/ T = "list")/\xo7 X.K T x H Q):=by
 intro pins s σ H xs us Q I r h;obtain⟨x,T,rfl,hT,q⟩:=h
 cases r with
 | cons r rr =>
  cases rr with
  | cons r' rr =>
   cases rr;cases r'
   cases x with
   |non=>
    cases r
    rcases hT with rfl |rfl |rfl |rfl |rfl
    ·exact IsiPair.NoneType_bool ⟨.bl false,H,I.tok _,rfl,q⟩
    ·exact IsiPair.NoneType_int ⟨.bl false,H,I.tok _,rfl,q⟩
    ·exact IsiPair.NoneType_str ⟨.bl false,H,I.tok _,rfl,q⟩
    ·exact IsiPair.NoneType_tuple ⟨.bl false,H,I.tok _,rfl,q⟩
    ·exact IsiPair.NoneType_list ⟨.bl false,H,I.tok _,rfl,q⟩
   |bl b=>
    cases r
    rcases hT with rfl |rfl |rfl |rfl |rfl
    ·exact IsiPair.bool_bool ⟨.bl true,H,I,rfl,q⟩
    ·exact IsiPair.bool_int ⟨.bl true,H,I,rfl,q⟩
    ·exact IsiPair.bool_str ⟨.bl false,H,I.tok _,rfl,q⟩
    ·exact IsiPair.bool_tuple ⟨.bl false,H,I.tok _,rfl,q⟩
    ·exact IsiPair.bool_list ⟨.bl false,H,I.tok _,rfl,q⟩
   |int i=>
    obtain⟨t,rfl⟩:=r
    rcases hT with rfl |rfl |rfl |rfl |rfl
    ·exact IsiPair.int_bool ⟨.bl false,H,I.tok _,rfl,q⟩
    ·exact IsiPair.int_int ⟨.bl true,H,I,rfl,q⟩
    ·exact IsiPair.int_str ⟨.bl false,H,I.tok _,rfl,q⟩
    ·exact IsiPair.int_tuple ⟨.bl false,H,I.tok _,rfl,q⟩
    ·exact IsiPair.int_list ⟨.bl false,H,I.tok _,rfl,q⟩
   |str i=>
    obtain⟨t,rfl⟩:=r
    rcases hT with rfl |rfl |rfl |rfl |rfl
    ·exact IsiPair.str_bool ⟨.bl false,H,I.tok _,rfl,q⟩
    ·exact IsiPair.str_int ⟨.bl false,H,I.tok _,rfl,q⟩
    ·exact IsiPair.str_str ⟨.bl true,H,I,rfl,q⟩
    ·exact IsiPair.str_tuple ⟨.bl false,H,I.tok _,rfl,q⟩
    ·exact IsiPair.str_list ⟨.bl false,H,I.tok _,rfl,q⟩
   |byt _=>exact q.elim
   |flt _=>exact q.elim
   |ty _=>exact q.elim
   | ref a =>
    cases r
    rcases q with ⟨ys,hq,q⟩ |⟨ys,hq,q⟩ |⟨kvs,hq,q⟩
    ·obtain ⟨its, rv, ⟨o, e, hc, n, hd⟩, _⟩ := I.tuple hq
     rcases hT with rfl |rfl |rfl |rfl |rfl
     ·exact IsiPair.tuple_bool e hc ⟨.bl false,H,I.tok _,rfl,q⟩
     ·exact IsiPair.tuple_int e hc ⟨.bl false,H,I.tok _,rfl,q⟩
     ·exact IsiPair.tuple_str e hc ⟨.bl false,H,I.tok _,rfl,q⟩
     ·exact IsiPair.tuple_tuple e hc ⟨.bl true,H,I,rfl,q⟩
     ·exact IsiPair.tuple_list e hc ⟨.bl false,H,I.tok _,rfl,q⟩
    ·obtain ⟨its, rv, ⟨o, n, e, hc, hd, hs⟩, _⟩ := I.list hq
     rcases hT with rfl |rfl |rfl |rfl |rfl
     ·exact IsiPair.list_bool e hc ⟨.bl false,H,I.tok _,rfl,q⟩
     ·exact IsiPair.list_int e hc ⟨.bl false,H,I.tok _,rfl,q⟩
     ·exact IsiPair.list_str e hc ⟨.bl false,H,I.tok _,rfl,q⟩
     ·exact IsiPair.list_tuple e hc ⟨.bl false,H,I.tok _,rfl,q⟩
     ·exact IsiPair.list_list e hc ⟨.bl true,H,I,rfl,q⟩
    ·obtain ⟨_, _, vs, _, p⟩ := (show ObjOk X.prog X.w H s.heap a (.dK kvs) from I.hok a _ hq);obtain⟨o,es,ep,e,h2,_⟩:=p;have hc:=h2.1
     rcases hT with rfl |rfl |rfl |rfl |rfl
     ·exact IsiPair.dict_bool e hc ⟨.bl false,H,I.tok _,rfl,q⟩
     ·exact IsiPair.dict_int e hc ⟨.bl false,H,I.tok _,rfl,q⟩
     ·exact IsiPair.dict_str e hc ⟨.bl false,H,I.tok _,rfl,q⟩
     ·exact IsiPair.dict_tuple e hc ⟨.bl false,H,I.tok _,rfl,q⟩
     ·exact IsiPair.dict_list e hc ⟨.bl false,H,I.tok _,rfl,q⟩
end
end L2
namespace L2
open PySem PySem.Spec PyProof.Rows PySem.W
structure ExcC(K:W.Frag)(C:Addr):Prop where
 ga:findIn K (.ref C) "__getattribute__" = some (some (.builtin "BaseException.__getattribute__"))
 gt:findIn K (.ref C) "__getattr__" = some none
 cl:findIn K (.ref C) "__class__" = some (some (.builtin "object.__class__"))
 gs:specialIn K (.builtin "object.__class__") "__get__" = some (some (.builtin "getset_descriptor.__get__"))
 tk:takesIn K (.builtin "object.__class__")=some true
 ob:mroIn K C (.type "object")=some true
 be:mroIn K C (.type "BaseException")=some true
 hd:hasDictIn K C=true
def zv4 : ".".intercalate ("object.__class__".cutAt '.').dropLast = "object" := by decide +kernel
def zv3 : "object.__class__".startsWith "lifetime." = false:=x5
def zz2:builtinKind "BaseException.__getattribute__" = some .slot:=x5
def zo8:splitId "BaseException.__getattribute__" = some ("BaseException","__getattribute__"):=x5
section
variable {prog:Program}{w:World}{A:Around}{E:Value->Shared->Prop}{s:Shared}{K:W.Frag}{x C:Addr}
def ExcAt(h:Heap)(x C:Addr):Prop:=∃(ox:Obj) (vs:Array Value),h.get? x=some ox/\ox.cls=.ref C/\ox.data=.fields vs
def ExcAt.type{M:Model}{h:Heap}(hx:ExcAt h x C):Looks M h (typeOf (.ref x)) (.ref C):=by
 obtain⟨ox,vs,e,ec,_⟩:=hx;intro A Q E s k q;unfold typeOf;refine zc (wpAny_loadPart (k _ _ e) ?_);rw[ec];exact zo q
def zN4{R:Result->Shared->Prop}{tp:Value}(c:ExcC K C)(KX:K.In s.heap)(hx:ExcAt s.heap x C)(q:R (.ok (.ret (.ref C))) s) :
  codeAny (model prog w) A (.call (.builtin "getset_descriptor.__get__") { pos:=[.builtin "object.__class__",.ref x,tp] }) R s:=by
 obtain⟨hp,g,d,t,os⟩:=s;have l0:Looks (model prog w) hp (typeOf (.ref x)) (.ref C):=hx.type;have l4:Looks (model prog w) hp (isSubtype (.ref C) (.type "object")) true:=looks_subIn KX c.ob;refine codeAny_call_builtin PySem.F.slot_gs_get.plain PySem.F.entry_gs_get ?_;refine PySem.F.slot_gs_get.check _ _ _ _ _ _ _ _ ?_ (PySem.F.args_gs_get _ _ _) ?_
 ·exact PySem.F.typeOf_object_class
 ·unfold Builtin.«getset_descriptor.__get__» Builtin.Getset_descriptor.descrGet
  wp_walk using l0.at
  rw[zv4]
  wp_walk using l4.at
  refine⟨PySem.Code.quiet_builtin _ zv3,codeAny_builtin PySem.F.entry_object_class ?_⟩;unfold Builtin.«object.__class__» shownTypeOf
  wp_walk using l0.at
  exact q
def zm0{tk:Tok}{Q:PySem.Fin->Shared->Prop}(c:ExcC K C)(KX:K.In s.heap)(hx:ExcAt s.heap x C)(q:Q (.done (.ret (.ref C))) s) :
  wpAny (model prog w) A (Builtin.«object.__getattribute__» ⟨[.ref x,.str "__class__" tk],[]⟩) Q E s:=by
 obtain⟨hp,g,d,t,os⟩:=s;have l1:Looks (model prog w) hp (typeLookup (.ref C) "__class__") (some (.builtin "object.__class__")):=looks_findIn KX c.cl;have l2:Looks (model prog w) hp (specialOf (.builtin "object.__class__") "__get__") (some (.builtin "getset_descriptor.__get__")):=looks_specialIn KX c.gs;have l3:Looks (model prog w) hp (Builtin.ObjectAttr.takesStores (.builtin "object.__class__")) true:=looks_takesIn KX c.tk;have l0:Looks (model prog w) hp (typeOf (.ref x)) (.ref C):=hx.type;unfold Builtin.«object.__getattribute__»
 wp_walk using l0.at,l1.at,l2.at,l3.at
 exact zN4 c KX hx (by wp_walk;exact q)
def zN3{M:Model}{h:Heap}(c:ExcC K C)(KX:K.In h)(hx:ExcAt h x C):Looks M h (isInstance (.ref x) (.type "BaseException")) true:=by
 have l0:Looks M h (typeOf (.ref x)) (.ref C):=hx.type;have l4:Looks M h (isSubtype (.ref C) (.type "BaseException")) true:=looks_subIn KX c.be;intro A Q E s k q;unfold isInstance;exact zc (l0 A _ E s k (l4 A Q E s k q))
def zm1{M:Model}{v:Value}{Q:Unit->Shared->Prop}(c:ExcC K C)(KX:K.In s.heap)(hx:ExcAt s.heap x C)(q:Q () s) :
  wpAny M A (checkBuiltinCall "BaseException.__getattribute__" { pos:=[.ref x,v] }) Q E s:=by
 refine check_slot (i := "BaseException.__getattribute__") (owner := "BaseException") (n := "__getattribute__") (self:=.ref x) (rest:=[v]) (kw:=[]) zz2 zo8 ?_ ?_ q
 ·exact zN3 c KX hx
 ·exact PySem.F.args_bexc_ga _ _
def zx6{v:Value}{tk:Tok}{R:Result->Shared->Prop}(c:ExcC K C)(KX:K.In s.heap)(hx:ExcAt s.heap x C)(hv:v=.str "__class__" tk)(q:R (.ok (.ret (.ref C))) s) :
  codeAny (model prog w) A (.call (.builtin "BaseException.__getattribute__") { pos:=[.ref x,v] }) R s:=by
 refine codeAny_call_builtin (PySem.F.attrBase_ValueError).ga.plain PySem.F.entry_bexc_ga ?_;refine zm1 c KX hx ?_;subst hv;exact zm0 c KX hx q
def zx7{Q:Option Value->Shared->Prop}(c:ExcC K C)(KX:K.In s.heap)(hx:ExcAt s.heap x C)(q:Q (some (.ref C)) { s with toks:=s.toks+1 }) :
  wpAny (model prog w) A (getAttr? (.ref x) "__class__") Q E s:=by
 obtain⟨hp,g,d,t,os⟩:=s;have l0:Looks (model prog w) hp (typeOf (.ref x)) (.ref C):=hx.type;have l1:Looks (model prog w) hp (typeLookup (.ref C) "__getattribute__") (some (.builtin "BaseException.__getattribute__")):=looks_findIn KX c.ga;unfold getAttr? getAttrBy? getAttrBy getAttrByItsOwn;have l2:Looks (model prog w) hp (typeLookup (.ref C) "__getattr__") none:=looks_findIn KX c.gt;have l3:∀self,bindSpecial (.builtin "BaseException.__getattribute__") self=pure (.builtin "BaseException.__getattribute__",[self]):=(PySem.F.attrBase_ValueError).ga.bind
 wp_walk using l0.at,l1.at,l2.at,wpAny_of_eq (l3 _)
 refine zx6 c KX hx rfl ?_;show wpAny (model prog w) A (handedOut (.ref C)) _ _ _;unfold handedOut
 wp_walk
 exact q
def zw3(c:ExcC K C):KitX K (.ref x) (.ref C) λh=>ExcAt h x C where
 ty:=λM h _ hx=>hx.type
 it:=λM h KX _ A Q E s k q=>mc_isType (s:=s) (λa o e=>k a o (KX a o e)) c.hd A Q E s (λ_ _ z=>z) q
 ne:=λh tp dd its n sl KX e=>by
  have hd:=c.hd;unfold hasDictIn clsIn at hd;refine beq_eq_false_iff_ne.mpr λz=>?_;injection z with z;subst z
  split at hd
  ·rename_i hl;have:=KX _ _ hl;rw[e] at this;cases this
  ·cases hd
 ca:=λKX hx q=>zx7 c KX hx q
end
end L2
namespace L2
theorem yG{h b b':Heap}:∀{l:List Env},h.FunFrames b l->(∀x∈frs l,b'.get? x=none)->h.FunFrames b' l
 |[],_,_=>trivial
 |env::r,hl,hb=>by
  obtain⟨hk,⟨L,o,hf,hn,ho,hd⟩,hr⟩:=hl
  refine⟨hk,⟨L,o,hf,hb L (by unfold frs;rw[wg,hf];exact xi),ho,hd⟩,yG hr λx hx=>hb x ?_⟩
  unfold frs;rw[wg,hf];exact zh _ hx
structure Fl(h:Heap)(a T:Addr)(cls:Value):Prop where
 ne:T≠a
 ex:∃(oe oT:Obj) (vs ts:Array Value) (a0:Value),h.get? a=some oe/\(oe.cls=cls/\vs[0]?=some a0)/\oe.data=.fields vs/\vs[1]?=some (.ref T)/\h.get? T=some oT/\oT.data=.fields ts/\ts[3]?=some .none
structure Kp(l:List Env)(hid:List Addr)(h h':Heap):Prop where
 keep:∀b o,h.get? b=some o->b ∉ frs l->b ∉ hid->h'.get? b=some o
 slot:∀b o,h.get? b=some o->b∈frs l->∃sl,h'.get? b=some { o with slots:=sl }
def kJ{h:Heap}{l:List Addr}:(W.hideAll h l).StaysIn h:=λ_ _ e=>W.of_hideAll l e
section
variable {M:Model}{A:Around}{E:Value->Shared->Prop}{s:Shared}{B:Heap}{env:Env}{outer:List Env}{L e:Addr}{cls:Value}{Q:Unit->Shared->Prop}
def Fl.of_traced{h h':Heap}{l:List Env}{hid:List Addr}{a0:Value}(ff:h'.FunFrames (W.hideAll h (hid++frs l)) l)(tr:h'.TracedW (W.hideAll h (hid++frs l)) e cls a0):∃T,Fl h' e T cls/\(h.get? T=none\/T∈hid):=by
 obtain⟨oe,vs,T,oT,ts,h1,⟨h2,h3⟩,h4,h5,h6,h7,h8,h9,h10⟩:=tr;refine⟨T,⟨h7,oe,oT,vs,ts,a0,h1,⟨h2,h3⟩,h4,h5,h8,h9,h10⟩,?_⟩
 cases q:h.get? T with
 |none=>exact .inl rfl
 | some o =>
  refine .inr ?_
  by_cases hm:T∈hid++frs l
  ·rcases xU.mp hm with z | z
   ·exact z
   ·obtain⟨_,o',ho',hd'⟩:=ff.mem (b:=T) z;rw[h8] at ho';cases ho';exact absurd h9 (hd' ts)
  ·rw[W.hideAll_get _ q hm] at h6;cases h6
def Kp.of{h h':Heap}{l:List Env}{hid:List Addr}(ffh:h.FunFrames B l)(st:(W.hideAll h (hid++frs l)).StaysIn h')
  (up:∀(b:Addr) (o:Obj),h.get? b=some o->(∀vs:Array Value,o.data≠.fields vs)->∃sl,h'.get? b=some { cls:=o.cls,dict:=o.dict,data:=o.data,slots:=sl }):Kp l hid h h' where
 keep:=λb o e h1 h2=>st b o (W.hideAll_get _ e λz=>(xU.mp z).elim h2 h1)
 slot:=λb o e hb=>by
  obtain⟨_,o',ho',hd⟩:=ffh.mem (b:=b) hb;rw[e] at ho';cases ho';exact up b o e hd
def zj2{oe:Obj}{vs:Array Value}{a0:Value}(hf:A.frames=some (env::outer))(ff:s.heap.FunFrames B (env::outer))(hL:env.frame=some L)(he:s.heap.get? e=some oe)(hd:oe.data=.fields vs)(h1:vs[1]?=some .none)(h0:vs[0]?=some a0)
  (q:∀(h':Heap) (T:Addr),Kp (env::outer) [e] s.heap h'->Fl h' e T oe.cls->s.heap.get? T=none->Q () { s with heap:=h' }):wpAny M A (leaving env (.ref e)) Q E s:=by
 refine wpAny_leaving_firstW (base:=W.hideAll s.heap ([e]++frs (env::outer))) hf (yG ff λx hx=>W.hideAll_none _ (zA _ hx)) hL he kJ (W.hideAll_none _ (by simp)) hd h1 h0 λh' hl=>?_
 obtain⟨st,ff',tr,up⟩:=hl;obtain⟨T,fl,hT⟩:=Fl.of_traced ff' tr
 refine q h' T (Kp.of ff st up) fl (hT.resolve_right λz=>fl.ne (by simpa using z))
def QG{T:Addr}(hf:A.frames=some (env::outer))(ff:s.heap.FunFrames B (env::outer))(hL:env.frame=some L)(hfl:Fl s.heap e T cls)
  (q:∀(h':Heap) (T':Addr),Kp (env::outer) [e,T] s.heap h'->Fl h' e T' cls->(s.heap.get? T'=none\/T'=T)->Q () { s with heap:=h' }):wpAny M A (leaving env (.ref e)) Q E s:=by
 obtain⟨ne,oe,oT,vs,ts,a0,h1,⟨h2,h3⟩,h4,h5,h6,h7,h8⟩:=hfl
 refine wpAny_leaving_nextW (base:=W.hideAll s.heap ([e,T]++frs (env::outer))) (cls:=cls) (a0:=a0) hf (yG ff λx hx=>W.hideAll_none _ (zA _ hx)) hL
  ⟨oe,vs,T,oT,ts,h1,⟨h2,h3⟩,h4,h5,W.hideAll_none _ (by simp),ne,h6,h7,h8⟩ kJ (W.hideAll_none _ (by simp)) λh' hl=>?_
 obtain⟨st,ff',tr,up⟩:=hl;obtain⟨T',fl,hT⟩:=Fl.of_traced ff' tr
 exact q h' T' (Kp.of ff st up) fl (hT.imp_right λz=>by
  rcases zi.mp z with z |z
  ·exact absurd z fl.ne
  ·simpa using z)
def zy7{T:Addr}(hf:A.frames=some (env::outer))(ff:s.heap.FunFrames B (env::outer))(hL:env.frame=some L)(hfl:Fl s.heap e T cls)
  (q:∀(h':Heap) (T':Addr),Kp (env::outer) [e,T,T'] s.heap h'->Fl h' e T' cls->(s.heap.get? T'=none\/T'=T)->Q () { s with heap:=h' }) :
  wpAny M A (noteFrame (.ref e) env) (λ_ s2=>wpAny M A (setFlight (.ref e) none) Q E s2) E s:=by
 obtain⟨ne,oe,oT,vs,ts,a0,h1,⟨h2,h3⟩,h4,h5,h6,h7,h8⟩:=hfl;have ffb:=yG (b':=W.hideAll s.heap ([e,T]++frs (env::outer))) ff λx hx=>W.hideAll_none _ (zA _ hx)
 refine wpAny_noteFrame_onW (base:=W.hideAll s.heap ([e,T]++frs (env::outer))) (cls:=cls) (a0:=a0) hf ffb hL
  ⟨oe,vs,T,oT,ts,h1,⟨h2,h3⟩,h4,h5,W.hideAll_none _ (by simp),ne,h6,h7,h8⟩ kJ (W.hideAll_none _ (by simp)) λh' hl=>?_
 obtain⟨st,ff',tr,up⟩:=hl;refine wpAny_setFlight_noneW (base:=W.hideAll s.heap ([e,T]++frs (env::outer))) (l:=env::outer) (cls:=cls) (a0:=a0) st ff' tr λh2' st2 ff2 tr2 up2=>?_;obtain⟨T',fl,hT⟩:=Fl.of_traced ff2 tr2
 have hT':s.heap.get? T'=none\/T'=T:=hT.imp_right λz=>by
  rcases zi.mp z with z |z
  ·exact absurd z fl.ne
  ·simpa using z
 have kp:Kp (env::outer) [e,T] s.heap h2':=Kp.of ff st2 λb o eb hd=>by
  obtain⟨sl,q1⟩:=up b o eb hd;exact⟨sl,up2 b _ q1 hd⟩
 refine q h2' T' ⟨λb o eb n1 n2=>kp.keep b o eb n1 λz=>n2 (by
  rcases zi.mp z with z |z
  ·simp[z]
  ·simp[xh.mp z]),kp.slot⟩ fl hT'
end
section
variable {P:Program}{w:World}{fs ex:List Addr}{H H1:Hp}{h h1 h2:Heap}{l:List Env}{hid hid':List Addr}{a:Addr}{o:HO}
def ObjOk.obj(x:ObjOk P w H h a o):∃u,h.get? a=some u:=by
 cases o with
 |lst xs=>obtain⟨_,_,_,_,e⟩:=x;exact⟨_,e⟩
 |tup xs=>obtain⟨_,_,_,_,e,_⟩:=x;exact⟨_,e⟩
 |dK kvs=>obtain⟨_,_,_,_,o,_,_,e,_⟩:=x;exact⟨_,e⟩
 |dT kvs=>obtain⟨_,_,_,_,o,_,_,e,_⟩:=x;exact⟨_,e⟩
 |set S n=>obtain⟨o,_,_,_,e,_⟩:=x;exact⟨_,e⟩
 |ins C dx fs=>obtain⟨_,_,_,e,_⟩:=x;exact⟨_,e⟩
 |own y=>exact x
 |xd fs=>obtain⟨_,⟨_,_,_,e,_⟩,_⟩:=x;exact⟨_,e⟩
 |rng lo hi=>obtain⟨_,_,_,e⟩:=x;exact⟨_,e⟩
 |frz ob u=>obtain⟨e,_⟩:=x;exact⟨_,e⟩
 |tbl ps=>exact⟨_,show h.get? a=some _ from x⟩
 |met f y=>exact⟨_,show h.get? a=some _ from x⟩
 |ext φ=>obtain⟨_,e,_⟩:=x;exact e
def HOk.nil_at(x:HOk P w H h)(e:h.get? a=none):H a=none:=by
 cases q:H a with
 |none=>rfl
 |some o=>obtain⟨u,z⟩:=(x a o q).obj;rw[e] at z;cases z
def HOk.track(x:HOk P w H h)(hn:H a=none)(new:ObjOk P w (upd H a o) h a o):HOk P w (upd H a o) h:=λb u e=>by
 by_cases hb:b=a
 ·subst hb;rw[wZ] at e;cases e;exact new
 ·rw [xW hb] at e
  exact(x b u e).stay (λc v _ q=>q) (λc q=>by rw[xW (wu q hn)];exact q) λc xs q=>by rw[xW (wu q hn)];exact q
def Kp.trans(k:Kp l hid h h1)(k':Kp l hid' h1 h2):Kp l (hid++hid') h h2 where
 keep:=λb o e n1 n2=>k'.keep b o (k.keep b o e n1 λz=>n2 (List.mem_append_left _ z)) n1 λz=>n2 (zA _ z)
 slot:=λb o e hb=>by
  obtain⟨sl,e1⟩:=k.slot b o e hb;obtain⟨sl',e2⟩:=k'.slot b _ e1 hb;exact⟨sl',e2⟩
def Un.kp(u:Un fs ex H H1 h h1)(k:Kp l hid h1 h2)(hl:∀b∈frs l,b∈fs\/h.get? b=none)(hh:∀b∈hid,h.get? b=none):Un fs ex H H1 h h2 where
 keep:=λb o e n hb hx=>k.keep b o (u.keep b o e n hb hx) (λz=>(hl b z).elim hb λq=>by rw[e] at q;cases q) λz=>by rw[hh b z] at e;cases e
 slot:=λb o e n hb hx=>by
  obtain⟨sl,e1⟩:=u.slot b o e n hb hx
  by_cases hm:b∈frs l
  ·obtain⟨sl',e2⟩:=k.slot b _ e1 hm;exact⟨sl',e2⟩
  ·exact⟨sl,k.keep b _ e1 hm λz=>by rw[hh b z] at e;cases e⟩
 free:=u.free
 there:=λb o e hx=>by
  obtain⟨o',e1⟩:=u.there b o e hx
  by_cases hm:b∈frs l
  ·obtain⟨sl',e2⟩:=k.slot b _ e1 hm;exact⟨_,e2⟩
  ·exact⟨_,k.keep b _ e1 hm λz=>by rw[hh b z] at e;cases e⟩
 tups:=u.tups
 frzs:=u.frzs
 tbls:=u.tbls
def HOk.kp(x:HOk P w H1 h1)(k:Kp l hid h1 h2)(hf:∀b∈frs l,H1 b=none)(hh:∀b∈hid,H1 b=none):HOk P w H1 h2:=λa o e=>
 (x a o e).stay (λb u hb q => k.keep b u q (λz => by
  have n:=hf b z
  rcases hb with rfl |hb
  ·rw[e] at n;cases n
  ·rw[hb] at n;cases n) λz=>by
  have n:=hh b z
  rcases hb with rfl |hb
  ·rw[e] at n;cases n
  ·rw[hb] at n;cases n) (λ_ q=>q) λ_ _ q=>q
def Un.track(u:Un fs ex H H1 h h1)(hn:H1 a=none)(ha:h.get? a=none):Un fs ex H (upd H1 a o) h h1 where
 keep:=u.keep
 slot:=u.slot
 free:=λb ob e n hx=>by
  rw[xW (λz=>by rw[z,ha] at e;cases e)]
  exact u.free b ob e n hx
 there:=u.there
 tups:=λb xs e=>by
  have q:=u.tups b xs e;rw[xW (wu q hn)];exact q
 frzs:=λb ob xs e=>by
  have q:=u.frzs b ob xs e;rw[xW (wu q hn)];exact q
 tbls:=λb ps e=>by
  obtain⟨m,q⟩:=u.tbls b ps e
  exact⟨m,by rw[xW (wu q hn)];exact q⟩
end
def CX1(P:Program)(w:World):CXT:=λouter H s E e s'=>∃(a T:Addr) (cls:Value) (H':Hp),e=.ref a/\s'.os=s.os/\AllBare s'.gens/\Un (frs outer) [] H H' s.heap s'.heap/\HOk P w H' s'.heap /\
 Fl s'.heap a T cls/\s.heap.get? a=none/\s.heap.get? T=none/\H' a=none/\H' T=none/\E cls none H'
section
variable {P:Program}{w:World}{K:W.Frag}{mg:Str->Option Value}{base:Heap}{N:List Str}{qual:Str}{scope:Scope}{f:Addr}{cd:Value}{A:Around}{outer:List Env}{s:Shared}{H:Hp}{E:XK}
def zP8{pins:List (Addr × Obj)}{σ:St}{H1:Hp}{s1:Shared}{h':Heap}{e C:Addr}{vs:List Value}(I:Inv (Jh (CX1 P w) P w K mg base N qual scope f cd A outer s H E) pins σ H1 s1)(m:s1.heap.MadeExcOf h' e (.ref C) vs)(q:E (.ref C) none H1) :
  (Jh (CX1 P w) P w K mg base N qual scope f cd A outer s H E).xe (.ref e) { s1 with heap:=h' }:=by
 obtain⟨t,he,ht,_⟩:=m.there;have ff:h'.FunFrames base (envOfC qual scope s.heap.objs.size f cd::outer):=Heap.FunFrames.of_keeps (λb o eb _=>⟨o,m.keeps b o eb,rfl⟩) I.stack
 have e0:s.heap.get? e=none:=by
  cases q:s.heap.get? e with
  |none=>rfl
  |some o=>
   obtain⟨o',z⟩:=I.base.there e o q (λz=>nomatch z)
   rw[m.new] at z;cases z
 have eH:H1 e=none:=I.hok.nil_at m.new;show wpAny _ _ (leaving (envOfC qual scope s.heap.objs.size f cd) (.ref e)) _ _ _;refine zj2 (s:={ s1 with heap:=h' }) (B:=base) (outer:=outer) (L:=s.heap.objs.size) (a0:=.ref t) I.ok.frames ff rfl he rfl rfl rfl λh2 T kp fl hT=>?_;have un:Un (frs outer) [] H H1 s.heap h':=Un.trans I.base (Un.kept m.keeps)
 have T0:s.heap.get? T=none:=by
  cases q:s.heap.get? T with
  |none=>rfl
  |some o=>
   obtain⟨o',z⟩:=un.there T o q (λz=>nomatch z)
   have hT':h'.get? T=none:=hT;rw[hT'] at z;cases z
 have hok':HOk P w H1 h':=I.hok.kept m.keeps;have fr:∀b∈frs (envOfC qual scope s.heap.objs.size f cd::outer),H1 b=none:=I.stkFree;refine⟨e,T,_,H1,rfl,I.os,I.bare,un.kp kp (λb hb=>?_) (λb hb=>?_),hok'.kp kp fr (λb hb=>?_),fl,e0,T0,eH,hok'.nil_at hT,q⟩
 ·rcases zi.mp (I.stkSub b hb) with z | z
  ·right
   rw[z];exact wL (zk _)
  ·exact .inl z
 ·rw[xh.mp hb];exact e0
 ·rw[xh.mp hb];exact eH
end
abbrev zq1:List Value:=[.type "ValueError",.type "Exception",.type "BaseException",.type "object"]
def zN2{K:W.Frag}{C:Addr}{bmB:List Value}{newId:String}(h:W.excIn K C bmB newId=true) :
  ∃nm q N bs bm hdct sn sub ab col dd k0 k1 k2 k3 k5,K.lookup C=some (excClassObj nm q C N bs bm hdct sn sub ab col dd k0 k1 k2 k3 k5 newId)/\W.tailIn K bmB bm=true/\W.nsOkIn K N=true/\W.nsIn K N "__init__" = some none:=by
 unfold W.excIn at h
 split at h
 ·rename_i dd cd sl hl
  split at h
  ·rename_i C' bm k0 k1 k2 k3 n k5 hm hs;simp only[zv,beq_iff_eq,Bool.not_eq_true'] at h;obtain⟨⟨⟨⟨⟨e1,e2⟩,e3⟩,e4⟩,e5⟩,e6⟩:=h;obtain⟨nm,bs,mr,N,q,hdct,sn,sub,ab,col,hd⟩:=cd;subst e1 e2;simp only at hm e3 e5 e6;subst hm e3;refine⟨nm,q,N,bs,bm,hdct,sn,sub,ab,col,dd,k0,k1,k2,k3,k5,?_,e4,e5,e6⟩;rw[hl]
   have:sl=#[k0,k1,k2,k3,some (.builtin n),k5]:=by
    apply Array.toList_inj.mp;exact hs
   rw[this]
  ·cases h
 ·cases h
section
variable {X:Cx}
def zt1{x:Str}{C:Addr}{np cpos pos:Pos}{e:Expr}{es:List Expr}{ta:TA}{RX:Hp->Prop}(hc:X.calm=true)(hg:Gl X x)(hm:X.mg x=some (.ref C))(hx:W.excIn X.K C zq1 "ValueError.__new__" = true)(ha:PA X (e::es) ta)
  (xe:∀(pins:List (Addr × Obj)) (σ:St) (H:Hp) (s:Shared) (h':Heap) (a:Addr) (vs:List Value),Inv X pins σ H s->s.heap.MadeExcOf h' a (.ref C) vs->RX H->X.xe (.ref a) { s with heap:=h' })
  (hdb:(x == ("__debug__" : Str))=false:=by decide) (he:starEach (e::es) X.env=(false,eval e X.env)::starEach es X.env:=by rfl) (hpl:(backTo cpos (starEach (e::es) X.env)).any (·.1)=false:=by rfl)
  (hbk:∃y r,backTo cpos (starEach (e::es) X.env)=(false,y)::r:=by exact⟨_,_,rfl⟩) :
  PS X (.Raise (some (.Call (.Name x np) (e::es) [] cpos)) none pos) (λ_ σ H=>ta σ H λvs H1=>vs.length<=sizeLine/\RX H1):=by
 intro pins s σ H D I h;obtain⟨nm,q,N,bs,bm,hdct,sn,sub,ab,col,dd,k0,k1,k2,k3,k5,hl,ht,hn,hi⟩:=zN2 hx;have hT:∀{h:Heap},X.K.In h->OwnTail h zq1 bm:=λk=>W.tail_of_in k ht
 have hB:bm.contains (.type "BaseException")=true:=(hT I.kIn).hasType w9
 have hNs:X.base.Ns N (X.base.nsMap N):=.of_isNs (W.isNs_of_in I.ok.mod.kin hn);refine wpAny_Raise_call_subT (C:=C) (nm:=nm) (q:=q) (N:=N) (bs:=bs) (bm:=bm) (hdct:=hdct) (sn:=sn) (sub:=sub) (ab:=ab) (col:=col) (dd:=dd) (k0:=k0) (k1:=k1) (k2:=k2) (k3:=k3) (k5:=k5) (mN:=X.base.nsMap N) PySem.F.excBase_ValueError hB (I.ok.hd hc) hpl (W.nsMap_none_of_in I.ok.mod.kin hn hi) ?_;refine jS I hg hm ⟨rfl,?_⟩ hdb;obtain⟨y,r,ey⟩:=hbk;have hA:=ha cpos pins s σ H _ I h;rw[ey] at hA ⊢
 refine Calls.evalArgs_plain (thn hA λus s1 ⟨vs,H1,I1,rv,z,q1⟩=>⟨rfl,by rw[<- rv.length];exact z,I1.kIn _ _ hl,hNs.keeps I1.bk,hT I1.kIn,λh' a m=>xe pins σ H1 s1 h' a us I1 m q1⟩)
end
section
variable {X:Cx}{pins:List (Addr × Obj)}{σ:St}{H:Hp}{s:Shared}
def zF7{M:Model}{A:Around}{E:Value->Shared->Prop}{B:Heap}{l:List Env}{e T:Addr}{cls:Value}{Q:Unit->Shared->Prop}(ff:s.heap.FunFrames B l)(hfl:Fl s.heap e T cls)
  (q:∀(h':Heap) (T':Addr),Kp l [e,T] s.heap h'->Fl h' e T' cls->(s.heap.get? T'=none\/T'=T)->Q () { s with heap:=h' }):wpAny M A (setFlight (.ref e) none) Q E s:=by
 obtain⟨ne,oe,oT,vs,ts,a0,h1,⟨h2,h3⟩,h4,h5,h6,h7,h8⟩:=hfl;have ffb:=yG (b':=W.hideAll s.heap ([e,T]++frs l)) ff λx hx=>W.hideAll_none _ (zA _ hx)
 refine wpAny_setFlight_noneW (base:=W.hideAll s.heap ([e,T]++frs l)) (l:=l) (cls:=cls) (a0:=a0) kJ ffb ⟨oe,vs,T,oT,ts,h1,⟨h2,h3⟩,h4,h5,W.hideAll_none _ (by simp),ne,h6,h7,h8⟩ λh2' st2 ff2 tr2 up2=>?_
 obtain⟨T',fl,hT⟩:=Fl.of_traced ff2 tr2
 exact q h2' T' (Kp.of ff st2 λb o eb hd=>⟨o.slots,up2 b o eb hd⟩) fl (hT.imp_right λz=>by
  rcases zi.mp z with z |z
  ·exact absurd z fl.ne
  ·simpa using z)
abbrev Cx.suite(X:Cx)(ev:Value):Cx:={ X with A:=X.A.mark (some ev),calm:=false,xe:=λ_ _=>False }
def Cx.Ok.suite(ok:X.Ok)(ev:Value):(X.suite ev).Ok:=
 ⟨ok.mod,ok.kind,ok.glob,ok.blt,ok.above,ok.inj,ok.has,ok.cab,λz=>(nomatch z),ok.frames,ok.stk,ok.exf,ok.bs,ok.bsz,ok.noex,ok.exfs,ok.funs,ok.frf⟩
def Inv.suite(I:Inv X pins σ H s)(ev:Value):Inv (X.suite ev) pins σ H s:=⟨I.ok.suite ev,I.os,I.bare,I.base,I.loc,I.cell,I.free,I.freeC,I.pin,I.hok,I.len⟩
def Inv.unsuite{ev:Value}(I:Inv (X.suite ev) pins σ H s)(ok:X.Ok):Inv X pins σ H s:=⟨ok,I.os,I.bare,I.base,I.loc,I.cell,I.free,I.freeC,I.pin,I.hok,I.len⟩
def za0{M:Model}{A:Around}{E:Value->Shared->Prop}{i:Nat}{x:Str}{v:V}{Q:Unit->Shared->Prop}(I:Inv X pins σ H s)(hN:X.N.Nodup)(hi:X.N[i]?=some x)(hk:X.env.scope.names.lookup x=some .local)(hv:σ[i]?=some (some v))
  (h:∀s',Inv X pins (σ.set i none) H s'->Q () s'):wpAny M A (unbindName X.env x) Q E s:=by
 obtain⟨m,hn,hl⟩:=id I.loc
 have hcls:(X.env.scope.kind == .class||(X.env.scope.kind == .module&&X.env.locals != X.env.globals))=false:=by rw[I.ok.kind];rfl
 have hiσ:i<σ.length:=by rw[I.len];exact(zM.mp hi).1
 obtain⟨u,_,lk⟩:=hl i x v hi hv (.inl hk)
 have hmx:m x=some u:=by
  rcases lk with ⟨_,e⟩ |⟨z,_⟩
  ·exact e
  ·rcases z with z | z
   ·have z':X.env.scope.names.lookup x=some .cell:=z;rw[hk] at z';cases z'
   ·have z':X.env.scope.names.lookup x=some .free:=z;rw[hk] at z';cases z'
 refine wpAny_unbindName_local hk hn hmx hcls λh' u' hn' hs=>?_;obtain⟨oL,_,_,hoL,_⟩:=id hn
 have tracked:HOk X.prog X.w H h':=λb ob e=>by
  refine(I.hok b ob e).stay (λc w' hc q=>(hs.2 c ?_).trans q) (λ_ q=>q) λ_ _ q=>q;rintro rfl;have hfree:=I.free
  rcases hc with rfl |hc
  ·rw[hfree] at e;cases e
  ·rw[hfree] at hc;cases hc
 refine h _ ⟨I.ok,I.os,I.bare,⟨λb o e n hb hx=>?_,λb o e n hb hx=>?_,I.base.free,λb o e hx=>?_,I.base.tups,I.base.frzs,I.base.tbls⟩,⟨_,hn',λj y v' e1 e2 e3=>?_⟩,λy c e=>?_,I.free,I.freeC,λp hp=>?_,tracked,by simpa using I.len⟩
 ·exact(hs.2 b (zG (zD (zt e) I.ok.above))).trans (I.base.keep b o e n hb hx)
 ·obtain⟨sl,e1⟩:=I.base.slot b o e n hb hx;exact⟨sl,(hs.2 b (zG (zD (zt e) I.ok.above))).trans e1⟩
 ·obtain⟨o',e1⟩:=I.base.there b o e hx;exact⟨o',(hs.2 b (zG (zD (zt e) I.ok.above))).trans e1⟩
 ·by_cases hj : j = i
  ·subst hj;rw[zU hiσ] at e2;cases e2
  ·rw [zW (Ne.symm hj)] at e2;obtain⟨u',r',q⟩:=hl j y v' e1 e2 e3;refine⟨u',r',?_⟩
   rcases q with ⟨k,e⟩ |⟨k,c,e,z⟩
   ·refine .inl ⟨k,?_⟩;have:y≠x:=λe=>hj (Vs hN e1 (e ▸ hi));simp[this,e]
   ·exact .inr ⟨k,c,e,z.sameBut hs (I.cne y c e)⟩
 ·obtain⟨w',z⟩:=I.cell y c e;exact⟨w',z.sameBut hs (I.cne y c e)⟩
 ·obtain⟨e,n,ne,nf,d⟩:=I.pin p hp;exact⟨(hs.2 p.1 ne).trans e,n,ne,nf,d⟩
end
abbrev HO.exc(a C:Addr):HO:=.ext λh=>ExcAt h a C
def Fl.at{h:Heap}{a T C:Addr}(f:Fl h a T (.ref C)):ExcAt h a C:=by
 obtain⟨oe,oT,vs,ts,a0,h1,⟨h2,h3⟩,h4,_⟩:=f.ex;exact⟨oe,vs,h1,h2,h4⟩
def zZ0{P:Program}{w:World}{H:Hp}{h:Heap}{a C:Addr}(x:ExcAt h a C):ObjOk P w H h a (.exc a C):=by
 refine⟨x,?_,λh1 h2 ⟨ox,vs,e,r⟩ k=>⟨ox,vs,k _ e,r⟩⟩;obtain⟨ox,vs,e,_⟩:=x;exact⟨ox,e⟩
section
variable {X:Cx}{k i:Nat}{f C CB:Addr}{fd:FuncData}{ps:List Str}{sp:Sp}{x xB n:Str}{p pos apos np hpos tpos:Pos}{e:Expr}{es:List Expr}{ta:TA}{ts:TS}{b0:Stmt}{suite:List Stmt}
def zA2(C:Addr)(i:Nat)(ts:TS)(D:Ends)(σ:St):XK:=λcls _ H2=>cls=.ref C/\∀a,H2 a=none ->
 ts { nx:=λσ' H'=>(∃v,σ'[i]?=some (some v))/\D.nx (σ'.set i none) H',rt:=λ_ _=>False } (σ.set i (some (.ref a))) (upd H2 a (.exc a C))
def zl2{pins:List (Addr × Obj)}{σ:St}{H1:Hp}{s1 s2:Shared}{D:Ends}{ev:Value}(I1:Inv X pins σ H1 s1)(hq:CX1 X.prog X.w X.stack H1 s1 (zA2 C i ts D σ) ev s2)
  (hgB:Gl X xB) (hmB:X.mg xB=some (.ref CB)) (hex:W.exmOne X.K (.ref C) (.ref CB)=some true) (hN:X.N.Nodup) (hi:X.N[i]?=some n) (hl:X.env.scope.names.lookup n=some .local)
  (hst:X.stack=X.env::X.outer) (hfr:X.env.frame=some X.env.locals) (hs:∀ev,PSs (X.suite ev) (b0::suite) ts) (hdB:(xB == ("__debug__" : Str))=false) :
  wpAny (model X.prog X.w) X.A (noteFrame ev X.env) (λ_ s₂=>wpAny (model X.prog X.w) X.A (setFlight ev none) (λ_ s₃=>wpAny (model X.prog X.w) X.A (handleBy ev X.env [.ExceptHandler (some (.Name xB np)) (some n) (b0::suite) hpos]) (SP X pins D) X.xe s₃) X.xe s₂) X.xe s2:=by
 obtain⟨a,T,cls,H2,rfl,hos,hbare,un,hok,fl,a0,T0,aH,TH,rfl,hsu⟩:=hq
 have I2:Inv X pins σ H2 s2:=I1.call' hos un hok hbare (ch:=[]) λ_ z=>nomatch z
 have fr:∀b∈frs (X.env::X.outer),H2 b=none:=λb hb=>I2.stkFree b (by rw[hst];exact hb)
 have ffr:X.A.frames=some (X.env::X.outer):=by rw[<- hst];exact I1.ok.frames
 have ff2:s2.heap.FunFrames X.base (X.env::X.outer):=by rw[<- hst];exact I2.stack
 have mk:∀(h':Heap) (hid:List Addr),Kp (X.env::X.outer) hid s2.heap h'->(∀b∈hid,s1.heap.get? b=none/\H2 b=none)->Inv X pins σ H2 { s2 with heap:=h' }:=λh' hid kp hh=>
  I1.call' (s':={ s2 with heap:=h' }) (ch:=[]) hos (un.kp kp (λb hb=>.inl (by rw[hst];exact hb)) λb hb=>(hh b hb).1) (hok.kp kp fr λb hb=>(hh b hb).2) hbare λ_ z=>nomatch z
 have mkE:∀(h':Heap) (hid:List Addr),Kp (X.env::X.outer) hid s2.heap h'->(∀b∈hid,s1.heap.get? b=none/\H2 b=none)->ExcAt h' a C->Inv X pins σ (upd H2 a (.exc a C)) { s2 with heap:=h' }:=λh' hid kp hh hx=>
  I1.call' (s':={ s2 with heap:=h' }) (ch:=[]) hos ((un.kp kp (λb hb=>.inl (by rw[hst];exact hb)) λb hb=>(hh b hb).1).track aH a0) ((hok.kp kp fr λb hb=>(hh b hb).2).track aH (zZ0 hx)) hbare λ_ z=>nomatch z
 have nT:∀{h':Heap}{T':Addr}{hid:List Addr},Kp (X.env::X.outer) hid s2.heap h'->(h'.get? T'=none\/T'=T)->(∀b∈hid,s1.heap.get? b=none/\H2 b=none)->s1.heap.get? T'=none/\H2 T'=none:=λ{h' T' hid} kp hT hh=>by
  rcases hT with hT |rfl
  ·refine ⟨?_, (mk h' hid kp hh).hok.nil_at hT⟩
   cases z:s1.heap.get? T' with
   |none=>rfl
   |some o=>
    obtain⟨o',z'⟩:=(un.kp kp (λb hb=>.inl (by rw[hst];exact hb)) λb hb=>(hh b hb).1).there T' o z λz=>nomatch z
    rw[hT] at z';cases z'
  ·exact⟨T0,TH⟩
 have kp0:Kp (X.env::X.outer) [] s2.heap s2.heap:=⟨λ_ _ e _ _=>e,λ_ o e _=>⟨o.slots,e⟩⟩;refine zy7 (outer:=X.outer) (B:=X.base) ffr ff2 hfr fl λh3 T3 kp3 fl3 hT3=>?_
 have n3:=nT kp0 hT3 (λb hb=>nomatch hb)
 have hh3:∀b∈[a,T,T3],s1.heap.get? b=none/\H2 b=none:=λb hb=>by
  rcases zi.mp hb with rfl |hb
  ·exact⟨a0,aH⟩
  rcases zi.mp hb with rfl |hb
  ·exact⟨T0,TH⟩
  ·rw[xh.mp hb];exact n3
 have I3:=mk h3 _ kp3 hh3
 refine wpAny_handleBy_cons (codeAny_handlers_test ?_) (by intro z;cases z)
 refine jS (X:=X.suite (.ref a)) (I3.suite _) hgB hmB ?_ hdB;refine(W.exm_one (K:=X.K) (b:=true) I3.kIn fl3.at.type hex).here ?_;refine codeAny_handlers_suite_as ?_
 have ff3:h3.FunFrames X.base (X.env::X.outer):=by rw[<- hst];exact I3.stack
 refine zF7 (s:={ s2 with heap:=h3 }) (B:=X.base) (l:=X.env::X.outer) ff3 fl3 λh4 T4 kp4 fl4 hT4=>?_;have kp34:=kp3.trans kp4
 have hh4:∀b∈[a,T,T3]++[a,T3],s1.heap.get? b=none/\H2 b=none:=λb hb=>by
  rcases xU.mp hb with hb |hb
  ·exact hh3 b hb
  ·exact hh3 b (by rcases zi.mp hb with rfl |hb<;>simp_all)
 have I4:=mkE h4 _ kp34 hh4 fl4.at;refine vW I4 hN hi (.inl hl) (v:=.ref a) rfl (λs5 I5=>?_) (.inr hl);refine wa (hs (.ref a) pins s5 _ _ _ (I5.suite _) (hsu a aH)) (λfw s6 q6=>?_) λ_ _ z=>False.elim z
 cases fw with
 |ret u=>obtain⟨_,_,_,_,_,z⟩:=q6;exact False.elim z
 |brk=>obtain⟨_,_,_,z⟩:=q6;exact False.elim z
 |cont=>obtain⟨_,_,_,z⟩:=q6;exact False.elim z
 |next=>
  obtain⟨σ6,H6,I6',⟨v6,hv6⟩,q6⟩:=q6;have I6:Inv X pins σ6 H6 s6:=I6'.unsuite I1.ok;refine zc (yv (vW I6 hN hi (.inl hl) (v:=.non) rfl (λs7 I7=>?_) (.inr hl)));refine wpAny_onRaise (za0 I7 hN hi hl (v:=.non) ?_ λs8 I8=>?_)
  ·exact zU (zM.mp hv6).1
  ·rw[List.set_set] at I8;exact⟨_,H6,I8,q6⟩
def xd5(C:Addr)(j i:Nat)(sp:Sp)(ta:TA)(ts:TS):TS:=λD σ H=>ta σ H λvs H1=>sp vs H1 (λv H2=>D.nx (σ.set j (some v)) H2) (zA2 C i ts D σ)
end
section
variable (P:Program) (w:World)
end
section
variable {P:Program}{w:World}{H H':Hp}{h h':Heap}{a:Addr}{o:HO}
end
section
variable {P:Program}{w:World}{H:Hp}{h h':Heap}{x e:Addr}{o':HO}
end
section
variable {fs fs' ex ex':List Addr}{H H1 H2:Hp}{h h1 h2 h':Heap}{a x e:Addr}{o:HO}
end
section
variable {X:Cx}{pins:List (Addr × Obj)}{σ:List (Option V)}{H H':Hp}{s:Shared}{h':Heap}
end
section
variable {X:Cx}
variable {a b:Expr}{ta tb:TE}{pos:Pos}
variable {tA tB':TT}{rest:List Expr}
end
section
variable {X:Cx}{pins:List (Addr × Obj)}{σ:St}{H:Hp}{s:Shared}{a:Addr}{xs ys:List V}
end
section
variable {X:Cx}{pins:List (Addr × Obj)}{σ:St}{H:Hp}{s:Shared}{E:Value->Shared->Prop}
end
section
variable {X:Cx}{st:Stmt}{rest:List Stmt}{t u:TS}{e:Expr}{te:TE}{pos:Pos}
end
section
variable {X:Cx}{pos:Pos}
end
section
variable {X:Cx}{tg:Expr}
end
section
variable {X:Cx}{a b c:Expr}{ta tb tc:TE}{pos:Pos}
end
section
variable {prog:Program}{w:World}{A:Around}{E:Value->Shared->Prop}{s:Shared}{K:W.Frag}{x dx C f:Addr}{mA:Str->Option Value}{name:Str}{v:Value}
end
section
variable {P:Program}{w:World}{H H':Hp}{h h':Heap}{a C dx:Addr}{fs fs':List (Str × V)}
end
section
variable {X:Cx}{pins:List (Addr × Obj)}{σ:St}{H:Hp}{s:Shared}{a C dx:Addr}{fs:List (Str × V)}{f:Str}{v:V}{A:Around}{E:Value->Shared->Prop}
end
section
variable {X:Cx}{o e value:Expr}{f:Str}{pos pos' tpos:Pos}{ta tv:TE}
end
section
variable {X:Cx}{pins:List (Addr × Obj)}{σ:St}{H:Hp}{s:Shared}{A:Around}{E:Value->Shared->Prop}{Q:Value->Shared->Prop}{c:Value}{b:Bool}
end
section
variable {X:Cx}{e:Expr}{es:List Expr}{te:TE}{t:TA}{pos:Pos}
end
section
variable {X:Cx}{pins:List (Addr × Obj)}{σ:St}{H:Hp}{s s':Shared}
end
section
variable {X:Cx}{CX:CXT}{k:Nat}{f C:Addr}{fd:FuncData}{ps:List Str}{sp:Sp}{dvs:List V}{ds:List Value}{E:XK}{x m:Str}{p pos apos:Pos}{e o:Expr}{es:List Expr}{ta:TE}{t:TA}
end
section
variable {X:Cx}{CX:CXT}{k:Nat}{f C:Addr}{fd:FuncData}{ps ks:List Str}{sp:Sp}{E:XK}{x m:Str}{p pos apos kpos:Pos}{e o:Expr}{es:List Expr}{kws:List Keyword}{te ta:TE}{t tk:TA}{nm:Option Str}
variable {g:List Value->List Value->List Value}{gV:List V->List V->List V}
end
section
variable {X:Cx}{x:Str}{p pos:Pos}{e:Expr}{es:List Expr}{t:TA}{id T:String}{r:List V->Hp->VK->Prop}
end
section
variable {κ:Type} [DecidableEq κ]
def Kj(kvs:List (κ × V))(k:κ):Option V:=(kvs.find? λkv=>decide (kv.1=k)).map (·.2)
def zB6(kvs:List (κ × V))(k:κ)(v:V):List (κ × V):=
 if (kvs.any λkv=>decide (kv.1=k))=true then kvs.map (λkv=>if kv.1=k then(kv.1,v) else kv) else kvs++[(k,v)]
theorem WK{p:κ × V}{r:List (κ × V)}{k:κ}(e:p.1=k):Kj (p::r) k=some p.2:=by simp[Kj,yh,e]
theorem WL{p:κ × V}{r:List (κ × V)}{k:κ}(e:¬ p.1=k):Kj (p::r) k=Kj r k:=by simp[Kj,yh,e]
theorem Jb(kvs:List (κ × V))(k:κ)(v:V):(zB6 kvs k v).length<=kvs.length+1:=by
 unfold zB6
 split
 ·rw[zj];lia
 ·rw[zE,zr,yg];lia
theorem RelO.isSome_eq{o:Option V}{u:Option Value}(r:RelO o u):o.isSome=u.isSome:=by
 cases o with
 |none=>cases u with
  |none=>rfl
  |some _=>exact(show False from r).elim
 |some _=>cases u with
  |none=>exact(show False from r).elim
  |some _=>rfl
theorem KV.val{kvs:List (κ × V)}{vs:List (κ × Value)}(r:KV kvs vs)(k:κ):RelO (Kj kvs k) (valueAt vs k):=by
 unfold KV at r
 induction r with
 |nil=>exact True.intro
 | @cons p q ps qs h t ih =>
  obtain⟨h1,h2⟩:=h
  by_cases e:p.1=k
  ·have e' : q.1 = k := h1.symm.trans e
   have b:valueAt (q::qs) k=some q.2:=by simp[valueAt,yh,e']
   rw[WK e,b];exact h2
  ·have e' : ¬ q.1 = k := λz => e (h1.trans z)
   have b:valueAt (q::qs) k=valueAt qs k:=by simp[valueAt,yh,e']
   rw[WL e,b];exact ih
theorem KV.any{kvs:List (κ × V)}{vs:List (κ × Value)}(r:KV kvs vs)(k:κ):(kvs.any λkv=>decide (kv.1=k))=vs.any λkv=>decide (kv.1=k):=by
 unfold KV at r
 induction r with
 |nil=>rfl
 |cons h t ih=>rw[yl,yl,ih,h.1]
theorem KV.repl{kvs:List (κ × V)}{vs:List (κ × Value)}(r:KV kvs vs)(k:κ){y:V}{u:Value}(ry:RelV y u) :
  KV (kvs.map λkv=>if kv.1=k then(kv.1,y) else kv) (vs.map λkv=>if kv.1=k then(kv.1,u) else kv):=by
 unfold KV at r ⊢
 induction r with
 |nil=>exact .nil
 |@cons p q ps qs h t ih=>
  rw[zR,zR];refine .cons ?_ ih;obtain⟨h1,h2⟩:=h
  by_cases e:p.1=k
  ·rw[if_pos e,if_pos (h1.symm.trans e)];exact⟨h1,ry⟩
  ·rw[if_neg e,if_neg (λz=>e (h1.trans z))];exact⟨h1,h2⟩
theorem KV.put{kvs:List (κ × V)}{vs:List (κ × Value)}(r:KV kvs vs)(k:κ){y:V}{u:Value}(ry:RelV y u):KV (zB6 kvs k y) (stored vs k u):=by
 unfold zB6 stored;rw[r.any k]
 by_cases e:(vs.any λkv=>decide (kv.1=k))=true
 ·rw[if_pos e,if_pos e];exact r.repl k ry
 ·rw[if_neg e,if_neg e];exact Paired.snoc r ⟨rfl,ry⟩
end
def zj8{P:Program}{w:World}{k:Key}{u:Value}(r:RelV (kV k) u):(yS P w).is k u=true:=by
 cases k with
 |inl i=>obtain⟨t,e⟩:=(show ∃t,u=Value.int i t from r);subst e;exact Ja P w i t
 |inr x=>obtain⟨t,e⟩:=(show ∃t,u=Value.str x t from r);subst e;exact KZ P w x t
theorem UO{P:Program}{w:World}:∀{ks:List Key}{us:List Value},Vals (ks.map kV) us->ItemsAre (yS P w) ks us
 |[],_,r=>by rw[map_nil] at r;cases r;exact .nil
 |k::ks,_,r=>by
  rw[zR] at r
  cases r with
  |cons h t=>exact .cons (zj8 h) (UO t)
abbrev KT(H:Hp):List (List Key × V)->List (List Key × Addr × Value)->Prop:=Paired λp q=>p.1=q.1/\H q.2.1=some (.tup (p.1.map kV))/\RelV p.2 q.2.2
def KT.val{H:Hp}{kvs:List (List Key × V)}{xs:List (List Key × Addr × Value)}(r:KT H kvs xs)(k:List Key):RelO (Kj kvs k) ((atKey xs k).map (·.2)):=by
 induction r with
 |nil=>exact True.intro
 | @cons p q ps qs h t ih =>
  obtain⟨h1,_,h2⟩:=h
  by_cases e:p.1=k
  ·have e' : q.1 = k := h1.symm.trans e
   have b:atKey (q::qs) k=some q.2:=by simp[atKey,yh,e']
   rw[WK e,b];exact h2
  ·have e' : ¬ q.1 = k := λz => e (h1.trans z)
   have b:atKey (q::qs) k=atKey qs k:=by simp[atKey,yh,e']
   rw[WL e,b];exact ih
section
variable {P:Program}{w:World}{H:Hp}{h:Heap}{a:Addr}
def zR6{u:HO}(ok:HOk P w H h)(e:Rd H a u):ObjOk P w H h a u:=e.ok ok
def zy0{kvs:List (Key × V)}(ok:HOk P w H h)(e:Rd H a (.dK kvs)):kvs.length<=sizeLine/\(a == sysModules)=false/\∃vs,KV kvs vs/\h.DictOf (yS P w) a vs:=
 show ObjOk P w H h a (.dK kvs) from zR6 ok e
def xm8{kvs:List (Key × V)}(ok:HOk P w H h)(e:H a=some (.dK kvs)):kvs.length<=sizeLine/\(a == sysModules)=false/\∃vs,KV kvs vs/\h.DictOf (yS P w) a vs:=zy0 ok (.inl e)
def zj6{ks:List Key}(ok:HOk P w H h)(e:H a=some (.tup (ks.map kV))):(tupleKind (yS P w)).is h ks a:=by
 obtain⟨_,its,r,o,h1,h2,n,h3⟩:=(show ObjOk P w H h a (.tup (ks.map kV)) from ok a _ e)
 exact⟨o,its.toArray,n,h1,h2,h3,by simpa using UO r⟩
def zN5{kvs:List (List Key × V)}(ok:HOk P w H h)(e:Rd H a (.dT kvs)):kvs.length<=sizeLine/\(a == sysModules)=false /\
  ∃xs,KT H kvs xs/\h.DictOfH (tupleKind (yS P w)) a xs:=by
 obtain⟨z,y,xs,r,o,es,ep,h1,h2,h3,h4,h5⟩:=(show ObjOk P w H h a (.dT kvs) from zR6 ok e);refine⟨z,y,xs,r,o,es,ep,h1,h2,h3,h4,λx hx=>?_,h5⟩
 have all:∀{l:List (List Key × V)}{m:List (List Key × Addr × Value)},KT H l m->∀x∈m,(tupleKind (yS P w)).is h x.1 x.2.1:=by
  intro l m q
  induction q with
  |nil=>intro x hx;exact nomatch hx
  | @cons p q ps qs hq t ih =>
   intro x hx
   rcases zi.mp hx with e |hx
   ·subst e
    exact zj6 ok (by rw[<- hq.1];exact hq.2.1)
   ·exact ih x hx
 exact all r x hx
end
def DGet(H:Hp)(a:Addr)(y:V)(r:Option V):Prop:=
 (∃kvs k,Rd H a (.dK kvs)/\y=kV k/\r=Kj kvs k)\/∃kvs k b,Rd H a (.dT kvs)/\y=.ref b/\H b=some (.tup (k.map kV))/\r=Kj kvs k
def DGet.k{H:Hp}{a:Addr}{kvs:List (Key × V)}{k:Key}(e:H a=some (.dK kvs)):DGet H a (kV k) (Kj kvs k):=.inl ⟨kvs,k,.inl e,rfl,rfl⟩
section
variable {X:Cx}{pins:List (Addr × Obj)}{σ:St}{H:Hp}{s:Shared}{a:Addr}{y v:V}{u r:Value}{o:Option V}{A:Around}{E:Value->Shared->Prop}
def Inv.big(I:Inv X pins σ H s):sysModules<s.heap.objs.size:=by
 have h:mainGlobals<s.heap.objs.size:=(I.mod.glob.keeps I.bk).lt
 exact Nat.lt_trans w9 h
def zm8{Q:Value->Shared->Prop}(hu:A.units+1<cLine)(I:Inv X pins σ H s)(g:DGet H a y (some v))(ry:RelV y u)(h:∀w' s',Inv X pins σ H s'->RelV v w'->Q w' s') :
  wpAny (model X.prog X.w) A (getItem (.ref a) u) Q E s:=by
 rcases g with ⟨kvs,k,e,ey,l⟩ |⟨kvs,k,b,e,ey,eb,l⟩
 ·subst ey;obtain⟨z,hd,vs,rel,dd⟩:=zy0 I.hok e
  obtain⟨w',hw,rw'⟩:=RelO.some_of (v:=v) (o:=valueAt vs k) (by rw[l];exact rel.val k)
  exact wpAny_getItem_of (zj8 ry) dd.mapOf hw (h w' _ (I.tok _) rw')
 ·subst ey;cases(show u=Value.ref b from ry);obtain⟨z,hd,xs,rel,dd⟩:=zN5 I.hok e
  obtain⟨w',hw,rw'⟩:=RelO.some_of (v:=v) (o:=(atKey xs k).map (·.2)) (by rw[l];exact rel.val k)
  obtain⟨p,hp,hp2⟩:=zT.mp hw;refine wpAny_getItem_heap (tupleKind_room_in1 hu) (zj6 I.hok eb) dd hp ?_;rw[hp2];exact h w' _ (I.tok _) rw'
def zN9{Q:Value->Shared->Prop}(hu:A.units+1<cLine)(I:Inv X pins σ H s)(g:DGet H a y o)(ry:RelV y u)(h:∀s',Inv X pins σ H s'->Q (.bool (!o.isSome)) s') :
  wpAny (model X.prog X.w) A (compareOp .NotIn u (.ref a)) Q E s:=by
 rcases g with ⟨kvs,k,e,ey,l⟩ |⟨kvs,k,b,e,ey,eb,l⟩
 ·subst ey;obtain⟨z,hd,vs,rel,dd⟩:=zy0 I.hok e;refine wpAny_notIn_of (zj8 ry) hd dd.mapOf ?_;rw[<- (rel.val k).isSome_eq,<- l];exact h _ (I.tok _)
 ·subst ey;cases(show u=Value.ref b from ry);obtain⟨z,hd,xs,rel,dd⟩:=zN5 I.hok e;refine wpAny_notIn_heap (tupleKind_room_in1 hu) (zj6 I.hok eb) hd dd ?_;have q:=(rel.val k).isSome_eq;rw[Option.isSome_map] at q;rw[<- q,<- l];exact h _ (I.tok _)
def zN8{h':Heap}{t':Nat}{ob:HO}(I:Inv X pins σ H s)(mu:Mut (H a))(hs:Heap.SameBut a s.heap h')(he:∃q,h'.get? a=some q)(new:ObjOk X.prog X.w (upd H a ob) h' a ob) :
  Inv X pins σ (upd H a ob) { s with heap:=h',toks:=t' }:=
 I.write (x:=a) (e:=a) mu (.inl rfl) (λb q hb z=>(hs.2 b hb).trans z) he new
def zZ2{P:Program}{w:World}{H':Hp}{h':Heap}{kvs:List (Key × V)}{vs:List (Key × Value)}(z:kvs.length<=sizeLine)(hd:(a == sysModules)=false)(rel:KV kvs vs)(dd:h'.DictOf (yS P w) a vs) :
  ObjOk P w H' h' a (.dK kvs):=⟨z,hd,vs,rel,dd⟩
end
section
variable {X:Cx}{pins:List (Addr × Obj)}{σ:St}{H:Hp}{s:Shared}{a:Addr}{kvs:List (Key × V)}{k:Key}{u:Value}{A:Around}{E:Value->Shared->Prop}
end
def xd3(i:Expr):Prop:=∀ov iv,subscripted i false ov iv=operate [ov,iv] (getItem ov iv)
def za9{prog:Program}{w:World}{A:Around}{E:Value->Shared->Prop}{s:Shared}{env:Env}{value slice:Expr}{pos:Pos}{T id:String}{Q:Value->Shared->Prop}
  (hl:typeLookup (.type T) "__getitem__" = pure (some (.builtin id))) (hs:xd3 slice)
  (h:wpAny (model prog w) A (eval value env) (λo s₁=>wpAny (model prog w) A (eval slice env) (λi s₂=>s₂.TypeIs o T/\wpAny (model prog w) A (getItem o i) Q E s₂) E s₁) E s) :
  wpAny (model prog w) A (eval (.Subscript value slice pos) env) Q E s:=by
 refine Subscript_ (wa h (λo s₁ h₁=>wa h₁ (λi s₂ h₂=>?_) λ_ _ x=>x) λ_ _ x=>x);obtain⟨hT,h₂⟩:=h₂;unfold subscriptTail;refine zc ?_;rw[getitemInPython_of_ne hT.not_modules];refine zc (wpAny_specialOf hT hl ?_)
 have fin:wpAny (model prog w) A (subscripted slice false o i) (λr s₃=>wpAny (model prog w) A (letTemporaryGo value o r >>= λ_=>pure r) Q E s₃) E s₂:=by
  rw[hs o i];exact wpAny_operating (wa h₂ (λr s₃ h₃=>zc (wpAny_letTemporaryGo (zo h₃))) λ_ _ x=>x)
 first
  |exact zo (zc fin)
  |exact zc (zo (zc fin))
  |exact zc fin
def Jf{X:Cx}{pins:List (Addr × Obj)}{σ:St}{H:Hp}{s:Shared}{a:Addr}{y:V}{o:Option V}(I:Inv X pins σ H s)(g:DGet H a y o):s.TypeIs (.ref a) "dict" := by
 rcases g with ⟨kvs,k,e,_,_⟩ |⟨kvs,k,b,e,_,_,_⟩
 ·obtain⟨_,_,vs,_,dd⟩:=zy0 I.hok e;exact dd.typeIs
 ·obtain⟨_,_,xs,_,dd⟩:=zN5 I.hok e;exact dd.typeIs
def xe4(td ty:TE):TE:=λσ H Q=>td σ H λx H1=>ty σ H1 λy H2=>∃a v,x=.ref a/\DGet H2 a y (some v)/\Q v H2
section
variable {X:Cx}{o i e value:Expr}{pos pos' tpos:Pos}{td ty tv:TE}
def zI8(hu:X.A.units+1<cLine)(ho:PE X o td)(hi:PE X i ty)(hs:xd3 i):PE X (.Subscript o i pos) (xe4 td ty):=by
 intro pins s σ H Q I h;refine za9 PySem.F.slot_dict_getitem.lookup hs (thn (ho pins s σ H _ I h) λu s1 ⟨x,H1,I1,rx,q1⟩=>thn (hi pins s1 σ H1 _ I1 q1) λiv s2 ⟨y,H2,I2,ry,a,v,ex,g,q2⟩=>?_);subst ex;obtain rfl:u=Value.ref a:=rx;exact⟨Jf I2 g,zm8 hu I2 g ry λw' s3 I3 rw'=>⟨v,H2,I3,rw',q2⟩⟩
end
def zy1{P:Program}{w:World}{H:Hp}(h:Heap)(hb:sysModules<h.objs.size):ObjOk P w H (h.push { cls:=.type "dict",data:=.dict #[] }) h.objs.size (.dK []):=
 ⟨Nat.zero_le _,beq_eq_false_iff_ne.mpr (Ne.symm (zG hb)),[],.nil,Heap.DictOf.new h⟩
section
variable {X:Cx}{pos:Pos}
end
def Ju:List (TE × TE)->St->Hp->(List (V × V)->Hp->Prop)->Prop
 |[],_,H,Q=>Q [] H
 |(tk,tv)::r,σ,H,Q=>tk σ H λx H1=>tv σ H1 λy H2=>Ju r σ H2 λps H3=>Q ((x,y)::ps) H3
abbrev VV:List (V × V)->List (Value × Value)->Prop:=Paired λp q=>RelV p.1 q.1/\RelV p.2 q.2
def PPs(X:Cx)(pos:Pos)(keys:List (Option Expr))(values:List Expr)(trs:List (TE × TE)):Prop:=
 ∀(pins:List (Addr × Obj)) (s:Shared) (σ:St) (H:Hp) (Q:List (V × V)->Hp->Prop),Inv X pins σ H s->Ju trs σ H Q ->
  wpAny (model X.prog X.w) X.A (evalPairs (pairTrees keys values X.env pos)) (λvs s'=>∃ps H',Inv X pins σ H' s'/\VV ps vs/\Q ps H') X.xe s
def zH9{X:Cx}{pos:Pos}:PPs X pos [] [] []:=λpins s σ H Q I h=>pairTrees_nil_walk ⟨[],H,I,.nil,h⟩
def kU{X:Cx}{pos:Pos}{k v:Expr}{ks:List (Option Expr)}{vs:List Expr}{tk tv:TE}{trs:List (TE × TE)}(hk:PE X k tk)(hv:PE X v tv)(hr:PPs X pos ks vs trs) :
  PPs X pos (some k::ks) (v::vs) ((tk,tv)::trs):=λpins s σ H Q I h=>
 pairTrees_cons_walk (thn (hk pins s σ H _ I h) λu s1 ⟨x,H1,I1,rx,q1⟩=>thn (hv pins s1 σ H1 _ I1 q1) λw2 s2 ⟨y,H2,I2,ry,q2⟩=>
  thn (hr pins s2 σ H2 _ I2 q2) λws s3 ⟨ps,H3,I3,rel,q3⟩=>⟨(x,y)::ps,H3,I3,.cons ⟨rx,ry⟩ rel,q3⟩)
def Wy(kvs more:List (Key × V)):List (Key × V):=more.foldl (λacc kv=>zB6 acc kv.1 kv.2) kvs
def KV.merge:∀{more:List (Key × V)}{rs:List (Key × Value)}{kvs:List (Key × V)}{vs:List (Key × Value)},KV more rs->KV kvs vs->KV (Wy kvs more) (merged vs rs):=by
 intro more rs kvs vs r;unfold KV at r
 induction r generalizing kvs vs with
 |nil=>intro q;exact q
 | @cons p q ps qs h t ih =>
  intro r0
  have e:KV (zB6 kvs p.1 p.2) (stored vs q.1 q.2):=by
   have:=r0.put p.1 h.2;rw[<- h.1];exact this
  exact ih e
theorem Zq:∀(more kvs:List (Key × V)),(Wy kvs more).length<=kvs.length+more.length
 |[],kvs=>by show kvs.length<=kvs.length+0;lia
 |p::r,kvs=>by
  have h1:=Zq r (zB6 kvs p.1 p.2);have h2:=Jb kvs p.1 p.2;show(Wy (zB6 kvs p.1 p.2) r).length<=_;rw[zr];lia
theorem WI{P:Program}{w:World}:∀{kvs:List (Key × V)}{ws:List (Value × Value)},VV (kvs.map λkv=>(kV kv.1,kv.2)) ws->∃rs,Carries (yS P w) ws rs/\KV kvs rs
 |[],_,r=>by rw[map_nil] at r;cases r;exact⟨[],True.intro,.nil⟩
 | p :: kvs, _, r => by
  rw[zR] at r
  cases r with
  |@cons a b as bs h t=>
   obtain⟨rs,c,q⟩:=WI (P:=P) (w:=w) t;obtain⟨b1,b2⟩:=b;exact⟨(p.1,b2)::rs,⟨zj8 h.1,rfl,c⟩,.cons ⟨rfl,h.2⟩ q⟩
def xe3(trs:List (TE × TE)):TE:=λσ H Q=>∀p,H p=none->Ju trs σ (upd H p (.dK [])) λps H2=>H2 p=some (.dK [])/\∃kvs:List (Key × V),ps=kvs.map (λkv=>(kV kv.1,kv.2))/\kvs.length<=15/\Q (.ref p) (upd H2 p (.dK (Wy [] kvs)))
def zI7{X:Cx}{pos:Pos}{keys:List (Option Expr)}{values:List Expr}{trs:List (TE × TE)}(h:PPs X pos keys values trs)(hall:keys.all (·.isSome)=true)(hl:keys.length=values.length)(h0:keys≠[])
  (h15:keys.length<=15):PE X (.Dict keys values pos) (xe3 trs):=by
 intro pins s σ H Q I q;have hn:=I.hok.fresh (zk s.heap.objs.size);have I1:=I.laid (a:=s.heap.objs.size) (o:=.dK []) (h':=s.heap.push { cls:=.type "dict",data:=.dict #[] }) (t':=s.toks) (λ_ _ q=>zg _ q) (zk _) (zy1 s.heap I.big);refine wpAny_Dict_walk (knd:=yS X.prog X.w) hall hl h0 h15 (thn (h pins _ σ _ _ I1 (q _ hn)) λws s2 ⟨ps,H2,I2,rel,e,kvs,ep,lk,q2⟩=>?_);subst ep;obtain⟨rs,c,rk⟩:=WI (P:=X.prog) (w:=X.w) rel;obtain⟨z,hd,vs0,r0,dd⟩:=xm8 I2.hok e;cases r0;refine⟨rs,c,dd,λh' dd' hs=>⟨.ref s.heap.objs.size,_,?_,rfl,q2⟩⟩
 have hz:(Wy [] kvs).length<=sizeLine:=by
  have h1:=Zq kvs [];rw[yg] at h1;rw[sizeLine_eq];lia
 have he:∃q,h'.get? s.heap.objs.size=some q:=let ⟨q,_,_,hq,_⟩:=dd';⟨q,hq⟩
 exact zN8 I2 (by rw[e];exact True.intro) hs he (zZ2 hz hd (rk.merge .nil) dd')
section
variable {X:Cx}{pins:List (Addr × Obj)}{σ:St}{H:Hp}{s:Shared}{a:Addr}{y d:V}{u r:Value}{o:Option V}{A:Around}{E:Value->Shared->Prop}
end
section
variable {X:Cx}{o e f:Expr}{apos cpos:Pos}{td ty tx:TE}
end
section
variable {X:Cx}{pins:List (Addr × Obj)}{σ:St}{H:Hp}{s:Shared}{a:Addr}{kvs:List (Key × V)}{A:Around}{E:Value->Shared->Prop}
end
section
variable {X:Cx}{pins:List (Addr × Obj)}{σ:St}{H:Hp}{s:Shared}{a:Addr}{y:V}{u:Value}{A:Around}{E:Value->Shared->Prop}
end
end L2
namespace Att
open PySem PySem.W PySem.Calls PyProof.Rows
section
variable {prog:Program}{w:World}{A:Around}{E:Value->Shared->Prop}{s:Shared}{K:Frag}
end
end Att
namespace L2
section
variable {P:Program}{w:World}{K:W.Frag}{mg:Str->Option Value}{base:Heap}
end
section
variable {X:Cx}
end
section
variable {κ:Type} [DecidableEq κ]
end
section
variable {prog:Program}{w:World}{A:Around}{R:Result->Shared->Prop}{s:Shared}
end
section
variable {X:Cx}{scope:Scope}{own M:List Str}{pins:List (Addr × Obj)}{σ:St}{H2:Hp}{s2:Shared}{fp:List Addr}
end
section
variable {X:Cx}{scope:Scope}{own M:List Str}{pins:List (Addr × Obj)}{σ:St}{H2:Hp}{s2:Shared}{tg iter kx vx:Expr}{ifs:List Expr}{pos:Pos}{g:TG}{tt:TT}{tk tv:TE}
end
inductive D where
 |non |bl (b:Bool) |int (i:Int) |str (x:Str) |ty (n:String) |tup (ds:List D) |lst (ds:List D)
 /-- a list that is known and stays -/
 |fz (ds:List D)
 /-- the list that the drawing keeps -/
 |st
 /-- a list of the frame's own (in a slot alone) -/
 |own (ds:List D)
 /-- a dict, whatever it holds -/
 |dic
 /-- an exception that was caught, of the class at C -/
 |exc (C:Addr)
 /-- a dict, known, that stays -/
 |dct (ks:List Key) (ds:List D)
def QH(ks:List Key)(xs:List V):List (Key × V):=List.zipWith (λk x=>(k,x)) ks xs
abbrev zN0:Hp:=λ_=>none
def SqZ(K:W.Frag)(Z:Addr->Prop)(H:Hp)(b:Bool)(a:Addr)(xs:List V):Prop:=
 match b with
 |true=>¬ Z a/\H a=some (.lst xs)
 |false=>(¬ Z a/\Rd H a (.tup xs))\/SqT K zN0 a xs
def SqF(K:W.Frag)(Z:Addr->Prop)(H:Hp)(a:Addr)(xs:List V):Prop:=(¬ Z a/\∃o,H a=some (.frz o (.lst xs)))\/SqL K zN0 a xs
mutual
def Rep(K:W.Frag)(G:Option Addr)(Z:Addr->Prop)(H:Hp):D->V->Prop
 |.non,v=>v=.non
 |.bl b,v=>v=.bl b
 |.int i,v=>v=.int i
 |.str x,v=>v=.str x
 |.ty n,v=>v=.ty n
 |.tup ds,v=>∃a xs,v=.ref a/\SqZ K Z H false a xs/\Reps K G Z H ds xs
 |.lst ds,v=>∃a xs,v=.ref a/\SqZ K Z H true a xs/\Reps K G Z H ds xs
 |.fz ds,v=>∃a xs,v=.ref a/\SqF K Z H a xs/\Reps K G Z H ds xs
 |.st,v=>∃a,G=some a/\v=.ref a
 |.own _,_=>False
 |.dic,v=>∃a kvs,v=.ref a/\¬ Z a/\H a=some (.dK kvs)
 |.exc C,v=>∃a,v=.ref a/\¬ Z a/\H a=some (.exc a C)
 |.dct ks ds,v=>∃a xs,v=.ref a/\(¬ Z a/\H a=some (.dK (QH ks xs)))/\Reps K G Z H ds xs
def Reps(K:W.Frag)(G:Option Addr)(Z:Addr->Prop)(H:Hp):List D->List V->Prop
 |[],vs=>vs=[]
 |d::ds,vs=>∃v r,vs=v::r/\Rep K G Z H d v/\Reps K G Z H ds r
end
section
variable {K:W.Frag}{G:Option Addr}{Z Z':Addr->Prop}{H H':Hp}
def SqT.anyH{a:Addr}{xs:List V}(h:SqT K zN0 a xs):SqT K H a xs:=by
 rcases h with (h |⟨o,h⟩) |h
 ·cases h
 ·cases h
 ·exact .inr h
def SqZ.sq{b:Bool}{a:Addr}{xs:List V}(h:SqZ K Z H b a xs):SqB K b H a xs:=by
 cases b with
 |true=>exact SqL.of h.2
 |false=>
  rcases h with ⟨_,h⟩ |h
  ·exact .inl h
  ·exact SqT.anyH h
def SqZ.mono{b:Bool}{a:Addr}{xs:List V}(h:SqZ K Z H b a xs)(hz:∀a,H a≠none->Z' a->Z a)(hf:∀a o,¬ Z a->H a=some o->H' a=some o):SqZ K Z' H' b a xs:=by
 cases b with
 |true=>exact⟨λz=>h.1 (hz a (by rw[h.2];simp) z),hf a _ h.1 h.2⟩
 | false =>
  rcases h with ⟨n,h⟩ |h
  ·refine .inl ⟨λz => n (hz a ?_ z), ?_⟩
   ·rcases h with h |⟨o,h⟩<;>(rw[h];simp)
   ·rcases h with h | ⟨o, h⟩
    ·exact .inl (hf a _ n h)
    ·exact .inr ⟨o,hf a _ n h⟩
  ·exact .inr h
mutual
theorem Rep.mono(hz:∀a,H a≠none->Z' a->Z a)(hf:∀a o,¬ Z a->H a=some o->H' a=some o):∀(d:D) (v:V),Rep K G Z H d v->Rep K G Z' H' d v
 |.non,v,h=>by unfold Rep at h ⊢;exact h
 |.bl b,v,h=>by unfold Rep at h ⊢;exact h
 |.int b,v,h=>by unfold Rep at h ⊢;exact h
 |.str b,v,h=>by unfold Rep at h ⊢;exact h
 |.ty b,v,h=>by unfold Rep at h ⊢;exact h
 |.st,v,h=>by unfold Rep at h ⊢;exact h
 |.own _,v,h=>by unfold Rep at h;exact h.elim
 |.dic,v,h=>by
  unfold Rep at h ⊢;obtain⟨a,kvs,e,n,q⟩:=h
  exact⟨a,kvs,e,λz=>n (hz a (by rw[q];simp) z),hf a _ n q⟩
 |.exc C,v,h=>by
  unfold Rep at h ⊢;obtain⟨a,e,n,q⟩:=h
  exact⟨a,e,λz=>n (hz a (by rw[q];simp) z),hf a _ n q⟩
 |.dct ks ds,v,h=>by
  unfold Rep at h ⊢;obtain⟨a,xs,e,⟨n,q⟩,r⟩:=h
  exact⟨a,xs,e,⟨λz=>n (hz a (by rw[q];simp) z),hf a _ n q⟩,Reps.mono hz hf ds xs r⟩
 |.tup ds,v,h=>by
  unfold Rep at h ⊢;obtain⟨a,xs,e,q,r⟩:=h;exact⟨a,xs,e,q.mono hz hf,Reps.mono hz hf ds xs r⟩
 |.lst ds,v,h=>by
  unfold Rep at h ⊢;obtain⟨a,xs,e,q,r⟩:=h;exact⟨a,xs,e,q.mono hz hf,Reps.mono hz hf ds xs r⟩
 |.fz ds,v,h=>by
  unfold Rep at h ⊢;obtain⟨a,xs,e,q,r⟩:=h;refine⟨a,xs,e,?_,Reps.mono hz hf ds xs r⟩
  rcases q with ⟨n,o,q⟩ |q
  ·exact .inl ⟨λz=>n (hz a (by rw[q];simp) z),o,hf a _ n q⟩
  ·exact .inr q
theorem Reps.mono(hz:∀a,H a≠none->Z' a->Z a)(hf:∀a o,¬ Z a->H a=some o->H' a=some o):∀(ds:List D) (vs:List V),Reps K G Z H ds vs->Reps K G Z' H' ds vs
 |[],vs,h=>by unfold Reps at h ⊢;exact h
 |d::ds,vs,h=>by
  unfold Reps at h ⊢;obtain⟨v,r,e,q,t⟩:=h;exact⟨v,r,e,Rep.mono hz hf d v q,Reps.mono hz hf ds r t⟩
end
def Reps.nil:Reps K G Z H [] []:=by unfold Reps;rfl
def Reps.cons{d:D}{ds:List D}{v:V}{vs:List V}(h:Rep K G Z H d v)(t:Reps K G Z H ds vs):Reps K G Z H (d::ds) (v::vs):=by unfold Reps;exact⟨v,vs,rfl,h,t⟩
def Reps.inv{d:D}{ds:List D}{v:V}{vs:List V}(h:Reps K G Z H (d::ds) (v::vs)):Rep K G Z H d v/\Reps K G Z H ds vs:=by
 unfold Reps at h;obtain⟨v',r,e,q,t⟩:=h;cases e;exact⟨q,t⟩
def Reps.split{d:D}{ds:List D}{vs:List V}(h:Reps K G Z H (d::ds) vs):∃v r,vs=v::r/\Rep K G Z H d v/\Reps K G Z H ds r:=by unfold Reps at h;exact h
def Reps.nil_inv{vs:List V}(h:Reps K G Z H [] vs):vs=[]:=by unfold Reps at h;exact h
theorem Reps.length:∀{ds:List D}{vs:List V},Reps K G Z H ds vs->vs.length=ds.length
 |[],vs,h=>by rw[h.nil_inv];rfl
 |d::ds,vs,h=>by
  obtain⟨v,r,rfl,_,t⟩:=h.split;rw[zr,zr,Reps.length t]
theorem Reps.get:∀{ds:List D}{vs:List V}{i:Nat}{d:D},Reps K G Z H ds vs->ds[i]?=some d->∃v,vs[i]?=some v/\Rep K G Z H d v
 |[],vs,i,d,_,e=>by simp at e
 |c::ds,vs,0,d,h,e=>by
  obtain⟨v,r,rfl,q,t⟩:=h.split;simp at e;subst e;exact⟨v,rfl,q⟩
 |c::ds,vs,i+1,d,h,e=>by
  obtain⟨v,r,rfl,q,t⟩:=h.split
  obtain⟨u,e1,e2⟩:=Reps.get (i:=i) t (by simpa using e)
  exact⟨u,by simpa using e1,e2⟩
theorem Reps.append:∀{ds es:List D}{vs ws:List V},Reps K G Z H ds vs->Reps K G Z H es ws->Reps K G Z H (ds++es) (vs++ws)
 |[],es,vs,ws,h,h'=>by rw[h.nil_inv];exact h'
 |d::ds,es,vs,ws,h,h'=>by
  obtain⟨v,r,rfl,q,t⟩:=h.split;exact .cons q (Reps.append t h')
theorem Reps.drop:∀{ds:List D}{vs:List V} (n:Nat),Reps K G Z H ds vs->Reps K G Z H (ds.drop n) (vs.drop n)
 |ds,vs,0,h=>h
 |[],vs,n+1,h=>by rw[h.nil_inv];exact .nil
 |d::ds,vs,n+1,h=>by
  obtain⟨v,r,rfl,q,t⟩:=h.split;exact Reps.drop n t
theorem Reps.take:∀{ds:List D}{vs:List V} (n:Nat),Reps K G Z H ds vs->Reps K G Z H (ds.take n) (vs.take n)
 |ds,vs,0,h=>.nil
 |[],vs,n+1,h=>by rw[h.nil_inv];exact .nil
 |d::ds,vs,n+1,h=>by
  obtain⟨v,r,rfl,q,t⟩:=h.split;exact .cons q (Reps.take n t)
end
def kY:D->Bool
 |.non=>true |.bl _=>true |.int _=>true |.str _=>true |.ty _=>true |_=>false
def ofS:D->V
 |.bl b=>.bl b |.int i=>.int i |.str x=>.str x |.ty n=>.ty n |_=>.non
theorem Rep.ofS{K:W.Frag}{G:Option Addr}{Z:Addr->Prop}{H:Hp}:∀{d:D},kY d=true->Rep K G Z H d (ofS d)
 |.non,_=>by unfold Rep;rfl
 |.bl b,_=>by unfold Rep;rfl
 |.int b,_=>by unfold Rep;rfl
 |.str b,_=>by unfold Rep;rfl
 |.ty b,_=>by unfold Rep;rfl
 |.tup ds,h=>by simp[kY] at h
 |.lst ds,h=>by simp[kY] at h
 |.st,h=>by simp[kY] at h
 |.fz ds,h=>by simp[kY] at h
 |.own ds,h=>by simp[kY] at h
theorem Rep.toS{K:W.Frag}{G:Option Addr}{Z:Addr->Prop}{H:Hp}{v:V}:∀{d:D},kY d=true->Rep K G Z H d v->v=L2.ofS d
 |.non,_,h=>by unfold Rep at h;exact h
 |.bl b,_,h=>by unfold Rep at h;exact h
 |.int b,_,h=>by unfold Rep at h;exact h
 |.str b,_,h=>by unfold Rep at h;exact h
 |.ty b,_,h=>by unfold Rep at h;exact h
 |.tup ds,h,_=>by simp[kY] at h
 |.lst ds,h,_=>by simp[kY] at h
 |.st,h,_=>by simp[kY] at h
 |.fz ds,h,_=>by simp[kY] at h
 |.own ds,h,_=>by simp[kY] at h
def Rep.int_inv{K:W.Frag}{G:Option Addr}{Z:Addr->Prop}{H:Hp}{v:V}{i:Int}(h:Rep K G Z H (.int i) v):v=.int i:=by unfold Rep at h;exact h
def Rep.bl_inv{K:W.Frag}{G:Option Addr}{Z:Addr->Prop}{H:Hp}{v:V}{i:Bool}(h:Rep K G Z H (.bl i) v):v=.bl i:=by unfold Rep at h;exact h
def Rep.tup_inv{K:W.Frag}{G:Option Addr}{Z:Addr->Prop}{H:Hp}{v:V}{ds:List D}(h:Rep K G Z H (.tup ds) v):∃a xs,v=.ref a/\SqZ K Z H false a xs/\Reps K G Z H ds xs:=by unfold Rep at h;exact h
def Rep.lst_inv{K:W.Frag}{G:Option Addr}{Z:Addr->Prop}{H:Hp}{v:V}{ds:List D}(h:Rep K G Z H (.lst ds) v):∃a xs,v=.ref a/\SqZ K Z H true a xs/\Reps K G Z H ds xs:=by unfold Rep at h;exact h
def Rep.fz_inv{K:W.Frag}{G:Option Addr}{Z:Addr->Prop}{H:Hp}{v:V}{ds:List D}(h:Rep K G Z H (.fz ds) v):∃a xs,v=.ref a/\SqL K H a xs/\Reps K G Z H ds xs:=by
 unfold Rep at h;obtain⟨a,xs,e,q,r⟩:=h;refine⟨a,xs,e,?_,r⟩
 rcases q with ⟨_,o,q⟩ |q
 ·exact .inl (.inr ⟨o,q⟩)
 ·rcases q with (q | ⟨o, q⟩) | q
  ·cases q
  ·cases q
  ·exact .inr q
def Rep.tup_mk{K:W.Frag}{G:Option Addr}{Z:Addr->Prop}{H:Hp}{a:Addr}{xs:List V}{ds:List D}(q:SqZ K Z H false a xs)(r:Reps K G Z H ds xs):Rep K G Z H (.tup ds) (.ref a):=by unfold Rep;exact⟨a,xs,rfl,q,r⟩
def Rep.lst_mk{K:W.Frag}{G:Option Addr}{Z:Addr->Prop}{H:Hp}{a:Addr}{xs:List V}{ds:List D}(q:SqZ K Z H true a xs)(r:Reps K G Z H ds xs):Rep K G Z H (.lst ds) (.ref a):=by unfold Rep;exact⟨a,xs,rfl,q,r⟩
def zz4(G:Option Addr)(n:Nat)(H:Hp):Prop:=∀a,G=some a->∃(zs:List Int) (_ _:Nat),H a=some (.lst (zs.map V.int))/\zs.length=n/\(∀x∈zs,0<=x)/\∀x,zs[1]?=some x->x<2147483647
structure AC where
 K:W.Frag
 G:Option Addr
 Z0:Addr->Prop
 H0:Hp
abbrev Rho:=List (Option D)
def Zof(A:AC)(os:List (Nat × Addr)):Addr->Prop:=λa=>A.Z0 a\/∃p∈os,p.2=a
def SlotR(A:AC)(os:List (Nat × Addr))(H:Hp)(i:Nat):D->V->Prop
 |.own ds,v=>∃a xs,v=.ref a/\(i,a)∈os/\H a=some (.lst xs)/\Reps A.K A.G (Zof A os) H ds xs
 |d,v=>Rep A.K A.G (Zof A os) H d v
structure AmO(A:AC)(os:List (Nat × Addr))(n:Nat)(rho:Rho)(sg:St)(H:Hp)(ds:List D)(vs:List V):Prop where
 len:rho.length=sg.length
 slot:∀i d,rho[i]?=some (some d)->∃v,sg[i]?=some (some v)/\SlotR A os H i d v
 pend:Reps A.K A.G (Zof A os) H ds vs
 nd:os.Pairwise λp q=>p.1≠q.1/\p.2≠q.2
 fresh:∀p∈os,A.H0 p.2=none/\¬ A.Z0 p.2/\H p.2≠none
 st:zz4 A.G n H
 gz:∀a,A.G=some a->A.Z0 a
 fr:∀a o,A.G≠some a->A.H0 a=some o->H a=some o
 z0:∀a,A.Z0 a->A.H0 a≠none
def Am(A:AC)(n:Nat)(rho:Rho)(sg:St)(H:Hp)(ds:List D)(vs:List V):Prop:=∃os,AmO A os n rho sg H ds vs
section
variable {A:AC}{os:List (Nat × Addr)}{n:Nat}{rho:Rho}{sg:St}{H:Hp}{ds:List D}{vs:List V}{d:D}{v:V}
def AmO.zH(I:AmO A os n rho sg H ds vs):∀a,Zof A os a->H a≠none:=λa h=>by
 rcases h with h |⟨p,hp,rfl⟩
 ·by_cases e : A.G = some a
  ·obtain⟨x,y,z,q,_⟩:=I.st a e;rw[q];simp
  ·cases q : A.H0 a with
   |none=>exact absurd q (I.z0 a h)
   |some o=>rw[I.fr a o e q];simp
 ·exact(I.fresh p hp).2.2
def SlotR.mono{os':List (Nat × Addr)}{H':Hp}{i:Nat}(hz:∀a,H a≠none->Zof A os' a->Zof A os a)(hf:∀a o,¬ Zof A os a->H a=some o->H' a=some o)
  (ho:∀a xs,(i,a)∈os->H a=some (.lst xs)->(i,a)∈os'/\H' a=some (.lst xs)):∀(d:D) (v:V),SlotR A os H i d v->SlotR A os' H' i d v
 |.own ds,v,h=>by
  obtain⟨a,xs,e,m,q,r⟩:=h;obtain⟨m',q'⟩:=ho a xs m q;exact⟨a,xs,e,m',q',Reps.mono hz hf ds xs r⟩
 |.non,v,h=>Rep.mono hz hf _ _ h
 |.bl _,v,h=>Rep.mono hz hf _ _ h
 |.int _,v,h=>Rep.mono hz hf _ _ h
 |.str _,v,h=>Rep.mono hz hf _ _ h
 |.ty _,v,h=>Rep.mono hz hf _ _ h
 |.tup _,v,h=>Rep.mono hz hf _ _ h
 |.lst _,v,h=>Rep.mono hz hf _ _ h
 |.st,v,h=>Rep.mono hz hf _ _ h
 |.fz _,v,h=>Rep.mono hz hf _ _ h
 |.dic,v,h=>Rep.mono hz hf _ _ h
 |.exc _,v,h=>Rep.mono hz hf _ _ h
 |.dct _ _,v,h=>Rep.mono hz hf _ _ h
def xR:D->Bool
 |.own _=>false
 |_=>true
theorem SlotR.rep{i:Nat}:∀{d:D}{v:V},xR d=true->SlotR A os H i d v->Rep A.K A.G (Zof A os) H d v
 |.own _,_,h,_=>by simp[xR] at h
 |.non,_,_,h=>h
 |.bl _,_,_,h=>h
 |.int _,_,_,h=>h
 |.str _,_,_,h=>h
 |.ty _,_,_,h=>h
 |.tup _,_,_,h=>h
 |.lst _,_,_,h=>h
 |.st,_,_,h=>h
 |.fz _,_,_,h=>h
 |.dic,_,_,h=>h
 |.exc _,_,_,h=>h
 |.dct _ _,_,_,h=>h
theorem SlotR.of{i:Nat}:∀{d:D}{v:V},Rep A.K A.G (Zof A os) H d v->SlotR A os H i d v
 |.own _,_,h=>by unfold Rep at h;exact h.elim
 |.non,_,h=>h
 |.bl _,_,h=>h
 |.int _,_,h=>h
 |.str _,_,h=>h
 |.ty _,_,h=>h
 |.tup _,_,h=>h
 |.lst _,_,h=>h
 |.st,_,h=>h
 |.fz _,_,h=>h
 |.dic,_,h=>h
 |.exc _,_,h=>h
 |.dct _ _,_,h=>h
def AmO.push(I:AmO A os n rho sg H ds vs)(h:Rep A.K A.G (Zof A os) H d v):AmO A os n rho sg H (d::ds) (v::vs):=
 ⟨I.len,I.slot,.cons h I.pend,I.nd,I.fresh,I.st,I.gz,I.fr,I.z0⟩
def AmO.pends{es:List D}{ws:List V}(I:AmO A os n rho sg H ds vs)(h:Reps A.K A.G (Zof A os) H es ws):AmO A os n rho sg H es ws:=
 ⟨I.len,I.slot,h,I.nd,I.fresh,I.st,I.gz,I.fr,I.z0⟩
def AmO.pop(I:AmO A os n rho sg H (d::ds) (v::vs)):AmO A os n rho sg H ds vs/\Rep A.K A.G (Zof A os) H d v:=⟨I.pends I.pend.inv.2,I.pend.inv.1⟩
def AmO.grow{p:Addr}{o:HO}(I:AmO A os n rho sg H ds vs)(hp:H p=none):AmO A os n rho sg (upd H p o) ds vs:=by
 have hf:∀a u,H a=some u->upd H p o a=some u:=λa u e=>by rw[xW (wu e hp)];exact e
 refine⟨I.len,λi d e=>?_,Reps.mono (λ_ _ z=>z) (λa u _ e=>hf a u e) _ _ I.pend,I.nd,λq hq=>?_,λa e=>?_,I.gz,λa u h e=>hf a u (I.fr a u h e),I.z0⟩
 ·obtain⟨v,e1,e2⟩:=I.slot i d e;exact⟨v,e1,SlotR.mono (λ_ _ z=>z) (λa u _ e=>hf a u e) (λa xs m q=>⟨m,hf a _ q⟩) _ _ e2⟩
 ·obtain ⟨f1, f2, f3⟩ := I.fresh q hq;refine⟨f1,f2,?_⟩
  cases e:H q.2 with
  |none=>exact absurd e f3
  |some u=>rw[hf _ _ e];simp
 ·obtain⟨x,y,z,q,r⟩:=I.st a e;exact⟨x,y,z,hf _ _ q,r⟩
def AmO.newTup{p:Addr}{es:List D}{xs:List V}(I:AmO A os n rho sg H ds vs)(r:Reps A.K A.G (Zof A os) H es xs)(hp:H p=none):AmO A os n rho sg (upd H p (.tup xs)) (.tup es::ds) (.ref p::vs):=by
 have g:=I.grow (o:=.tup xs) hp;refine g.push (.tup_mk (.inl ⟨λz=>I.zH p z hp,.inl wZ⟩) ?_)
 exact Reps.mono (λ_ _ z=>z) (λa u _ e=>by rw[xW (wu e hp)];exact e) _ _ r
def AmO.newLst{p:Addr}{es:List D}{xs:List V}(I:AmO A os n rho sg H ds vs)(r:Reps A.K A.G (Zof A os) H es xs)(hp:H p=none):AmO A os n rho sg (upd H p (.lst xs)) (.lst es::ds) (.ref p::vs):=by
 have g:=I.grow (o:=.lst xs) hp;refine g.push (.lst_mk ⟨λz=>I.zH p z hp,wZ⟩ ?_)
 exact Reps.mono (λ_ _ z=>z) (λa u _ e=>by rw[xW (wu e hp)];exact e) _ _ r
def AmO.set{i:Nat}(I:AmO A os n rho sg H (d::ds) (v::vs))(hi:i<rho.length):AmO A (os.filter λp=>decide (p.1≠i)) n (rho.set i (some d)) (sg.set i (some v)) H ds vs:=by
 obtain⟨J,hr⟩:=I.pop
 have sub:∀a,H a≠none->Zof A (os.filter λp=>decide (p.1≠i)) a->Zof A os a:=λa _ z=>by
  rcases z with z |⟨p,hp,e⟩
  ·exact .inl z
  ·exact .inr ⟨p,(xf.mp hp).1,e⟩
 refine⟨by simp[I.len],λj c e=>?_,Reps.mono sub (λ_ _ _ e=>e) _ _ J.pend,I.nd.filter _,λp hp=>I.fresh p (xf.mp hp).1,I.st,I.gz,I.fr,I.z0⟩
 by_cases hj:j=i
 ·subst hj;rw[zU hi] at e;cases e
  exact⟨v,zU (by rw[<- I.len];exact hi),SlotR.of (Rep.mono sub (λ_ _ _ e=>e) _ _ hr)⟩
 ·rw [zW (Ne.symm hj)] at e;obtain⟨u,e1,e2⟩:=I.slot j c e
  exact⟨u,by rw[zW (Ne.symm hj)];exact e1,SlotR.mono sub (λ_ _ _ e=>e) (λa xs m q=>⟨xf.mpr ⟨m,by simpa using hj⟩,q⟩) _ _ e2⟩
end
abbrev TD:=Rho->Nat->(D->Nat->Prop)->Prop
abbrev TBD:=Rho->Nat->(Bool->Nat->Prop)->Prop
abbrev TAD:=Rho->Nat->(List D->Nat->Prop)->Prop
def tOf(A:AC)(t:TD):TE:=λsg H Q=>∃rho n P ds vs,Am A n rho sg H ds vs/\t rho n P/\∀v H' n' d,Am A n' rho sg H' (d::ds) (v::vs)->P d n'->Q v H'
def zp3(A:AC)(t:TBD):TT:=λsg H Q=>∃rho n P ds vs,Am A n rho sg H ds vs/\t rho n P/\∀b H' n',Am A n' rho sg H' ds vs->P b n'->Q b H'
def xn5(A:AC)(t:TAD):TA:=λsg H Q=>∃rho n P ds vs,Am A n rho sg H ds vs/\t rho n P/\∀ws H' n' es,Am A n' rho sg H' (es++ds) (ws++vs)->ws.length=es.length->P es n'->Q ws H'
@[irreducible] def PD(A:AC)(X:Cx)(e:Expr)(t:TD):Prop:=PE X e (tOf A t)
@[irreducible] def PTD(A:AC)(X:Cx)(e:Expr)(t:TBD):Prop:=PT X e (zp3 A t)
@[irreducible] def PWD(A:AC)(X:Cx)(e:Expr)(t:TBD):Prop:=PW X e (zp3 A t)
@[irreducible] def PAD(A:AC)(X:Cx)(es:List Expr)(t:TAD):Prop:=PA X es (xn5 A t)
def PE.imp{X:Cx}{e:Expr}{t t':TE}(h:PE X e t)(hi:∀sg H Q,t' sg H Q->t sg H Q):PE X e t':=λpins s sg H Q I q=>h pins s sg H Q I (hi _ _ _ q)
def PT.imp{X:Cx}{e:Expr}{t t':TT}(h:PT X e t)(hi:∀sg H Q,t' sg H Q->t sg H Q):PT X e t':=λpins s sg H Q I q=>h pins s sg H Q I (hi _ _ _ q)
def PW.imp{X:Cx}{e:Expr}{t t':TT}(h:PW X e t)(hi:∀sg H Q,t' sg H Q->t sg H Q):PW X e t':=λwh pins s sg H Q I q=>h wh pins s sg H Q I (hi _ _ _ q)
def PA.imp{X:Cx}{e:List Expr}{t t':TA}(h:PA X e t)(hi:∀sg H Q,t' sg H Q->t sg H Q):PA X e t':=λps pins s sg H Q I q=>h ps pins s sg H Q I (hi _ _ _ q)
def PS.imp{X:Cx}{e:Stmt}{t t':TS}(h:PS X e t)(hi:∀E sg H,t' E sg H->t E sg H):PS X e t':=λpins s sg H Q I q=>h pins s sg H Q I (hi _ _ _ q)
def PSs.imp{X:Cx}{e:List Stmt}{t t':TS}(h:PSs X e t)(hi:∀E sg H,t' E sg H->t E sg H):PSs X e t':=λpins s sg H Q I q=>h pins s sg H Q I (hi _ _ _ q)
section
variable {A:AC}{X:Cx}{a b c e:Expr}{es:List Expr}{ta tb tc:TD}{pos:Pos}
def atD(d:D)(k:D->Prop):Prop:=match d with
 |.own _=>False
 |.non=>k .non
 |.bl b=>k (.bl b)
 |.int b=>k (.int b)
 |.str b=>k (.str b)
 |.ty b=>k (.ty b)
 |.tup b=>k (.tup b)
 |.lst b=>k (.lst b)
 |.fz b=>k (.fz b)
 |.st=>k .st
 |.dic=>k .dic
 |.exc a=>k (.exc a)
 |.dct a b=>k (.dct a b)
def zo9{d:D}{k:D->Prop}(h:atD d k):xR d=true/\k d:=by
 cases d<;>first |exact⟨rfl,h⟩ |exact h.elim
def jd{d:D}{k:D->Prop}(h:xR d=true)(q:k d):atD d k:=by
 cases d<;>first |exact q |(simp[xR] at h;done)
def atV(o:Option (Option D))(k:D->Prop):Prop:=match o with |some (some d)=>atD d k |_=>False
def zO6{o:Option (Option D)}{k:D->Prop}(h:atV o k):∃d,o=some (some d)/\xR d=true/\k d:=by
 match o,h with
 |some (some d),h=>exact⟨d,rfl,zo9 h⟩
def xt5(i:Nat):TD:=λrho n P=>atV rho[i]? λd=>P d n
def dC(d:D):TD:=λ_ n P=>P d n
def ze(i:Nat){x:Str}(hN:X.N[i]?=some x:=by rfl)(hv:Vis X.env.scope x:=by first |exact Or.inl rfl |exact Or.inr (Or.inl rfl) |exact Or.inr (Or.inr rfl))(hd:(x == ("__debug__" : Str))=false:=by decide)
  (hcd:(x == ("__classdict__" : Str))=false:=by decide):PD A X (.Name x pos) (xt5 i):=by
 exists (Xl hN hv hd hcd).imp λsg H Q h=>by
   obtain⟨rho,n,P,ds,vs,⟨os,I⟩,hh,hQ⟩:=h;obtain⟨d,e,hd,q⟩:=zO6 hh;obtain⟨v,e1,e2⟩:=I.slot i d e;exact⟨v,e1,hQ v H n d ⟨os,I.push (e2.rep hd)⟩ q⟩
def zn2{d:D}(hs:kY d=true){t:TE}(ht:∀sg H Q,Q (ofS d) H->t sg H Q)(h:PE X e t):PD A X e (dC d):=by
 exists h.imp λsg H Q q=>by
   obtain⟨rho,n,P,ds,vs,⟨os,I⟩,q,hQ⟩:=q;exact ht _ _ _ (hQ _ H n d ⟨os,I.push (Rep.ofS hs)⟩ q)
def zK{i:Int}{j:Nat}:PD A X (.Constant (.int i) j pos) (dC (.int i)):=by exists zn2 rfl (λ_ _ _ q=>q) qV
def Zj{i:Bool}{j:Nat}:PD A X (.Constant (.bool i) j pos) (dC (.bl i)):=by exists zn2 rfl (λ_ _ _ q=>q) xl7
def wA{j:Nat}:PD A X (.Constant .none j pos) (dC .non):=by exists zn2 rfl (λ_ _ _ q=>q) zU5
def zJ{x:Str}{j:Nat}:PD A X (.Constant (.str x) j pos) (dC (.str x)):=by exists zn2 rfl (λ_ _ _ q=>q) jy
def qC{x:Str}{T:String}(hg:Gl X x:=by rfl)(hm:X.mg x=none)(hv:bootBuiltins x=some (.type T))(hn:x ≠ "__name__" := by decide)(hd:(x == ("__debug__" : Str))=false:=by decide):PD A X (.Name x pos) (dC (.ty T)):=by
 exists 
   zn2 rfl (λ_ _ _ q=>q) (zf2 hg hm hv (v:=.ty T) rfl hn hd)
abbrev RD2:=D->D->(D->Prop)->Prop
def kf(A:AC)(r:R2)(rd:RD2):Prop:=
 ∀os n rho sg H ds vs d1 d2 v1 v2 (k:D->Prop) (Q:VK),AmO A os n rho sg H (d2::d1::ds) (v2::v1::vs)->rd d1 d2 k->(∀v H' d,Am A n rho sg H' (d::ds) (v::vs)->k d->Q v H')->r v1 v2 H Q
def dOp(rd:RD2)(ta tb:TD):TD:=λrho n P=>ta rho n λd1 n1=>tb rho n1 λd2 n2=>rd d1 d2 λd=>P d n2
def zm9(t:TD):TBD:=λrho n P=>t rho n λd n'=>∃b,d=.bl b/\P b n'
def VU{r:R2}{rd:RD2}(hr:kf A r rd){sg:St}{H:Hp}{Q:VK}(h:tOf A (dOp rd ta tb) sg H Q):tOp r (tOf A ta) (tOf A tb) sg H Q:=by
 obtain⟨rho,n,P,ds,vs,I,ht,hQ⟩:=h;exact⟨rho,n,_,ds,vs,I,ht,λv1 H1 n1 d1 I1 h1=>⟨rho,n1,_,d1::ds,v1::vs,I1,h1,λv2 H2 n2 d2 ⟨os2,I2⟩ h2=>hr _ _ _ _ _ _ _ _ _ _ _ _ Q I2 h2 λv H' d J k=>hQ v H' n2 d J k⟩⟩
def WP{t:TE}{td:TD}(h:∀sg H Q,tOf A td sg H Q->t sg H Q){sg:St}{H:Hp}{Q:Bool->Hp->Prop}(q:zp3 A (zm9 td) sg H Q):zQ2 t sg H Q:=by
 obtain⟨rho,n,P,ds,vs,I,ht,hQ⟩:=q;refine h _ _ _ ⟨rho,n,_,ds,vs,I,ht,λv H' n' d ⟨os,J⟩ k=>?_⟩;obtain⟨b,rfl,k⟩:=k;obtain⟨J1,r⟩:=J.pop;exact⟨b,r.bl_inv,hQ b H' n' ⟨os,J1⟩ k⟩
def vA{op:Operator}{r:R2}{rd:RD2}(ho:OpR X (binaryOp op) r)(hr:kf A r rd)(ha:PD A X a ta)(hb:PD A X b tb):PD A X (.BinOp a op b pos) (dOp rd ta tb):=by exists (xl6 ho ha hb).imp λ_ _ _=>VU hr
def vJ{op:CmpOp}{r:R2}{rd:RD2}(ho:OpR X (compareOp op) r)(hr:kf A r rd)(ha:PD A X a ta)(hb:PD A X b tb)(hm:behindInMarks op b=false):PD A X (.Compare a [op] [b] pos) (dOp rd ta tb):=by exists (zJ0 ho ha hb hm).imp λ_ _ _=>VU hr
def xg{op:CmpOp}{r:R2}{rd:RD2}(ho:OpR X (compareOp op) r)(hr:kf A r rd)(ha:PD A X a ta)(hb:PD A X b tb)(hm:behindInMarks op b=false):PTD A X (.Compare a [op] [b] pos) (zm9 (dOp rd ta tb)):=by
 exists 
   (zd6 ho ha hb hm).imp λ_ _ _=>WP λ_ _ _=>VU hr
def yk{r:R2}{rd:RD2}(hi:IxR X r)(hr:kf A r rd)(ha:PD A X a ta)(hb:PD A X b tb)(hs:VG b):PD A X (.Subscript a b pos) (dOp rd ta tb):=by exists (zt6 hi ha hb hs).imp λ_ _ _=>VU hr
def wG(ha:PD A X a ta)(he:∀whole,isTrue a X.env whole=(do let v <- whole;standAt a.pos;holding [v] (truthy v)):=by intro _;rfl):PTD A X a (zm9 ta):=by exists (zT0 ha he).imp λ_ _ _=>WP λ_ _ _ q=>q
def rdI(C:Int->Int->Prop)(g:Int->Int->D):RD2:=λd1 d2 k=>match d1,d2 with |.int i,.int j=>C i j/\k (g i j) |_,_=>False
def zG4{C:Int->Int->Prop}{g:Int->Int->D}{d1 d2:D}{k:D->Prop}(h:rdI C g d1 d2 k):∃i j,d1=.int i/\d2=.int j/\C i j/\k (g i j):=by
 unfold rdI at h
 split at h
 ·exact⟨_,_,rfl,rfl,h⟩
 ·exact h.elim
def zs5(g:Int->Int->D):RD2:=λd1 d2 k=>match d1,d2 with |.int i,.int j=>k (g i j) |_,_=>False
def zs4{g:Int->Int->D}{d1 d2:D}{k:D->Prop}(h:zs5 g d1 d2 k):∃i j,d1=.int i/\d2=.int j/\k (g i j):=by
 unfold zs5 at h
 split at h
 ·exact⟨_,_,rfl,rfl,h⟩
 ·exact h.elim
def zr9{C:Int->Int->Prop}{g:Int->Int->V}{gd:Int->Int->D}(hs:∀i j,kY (gd i j)=true)(hg:∀i j,ofS (gd i j)=g i j):kf A (rI C g) (rdI C gd):=by
 rintro os n rho sg H ds vs d1 d2 v1 v2 k Q I hh hQ;obtain⟨i,j,rfl,rfl,hc,q⟩:=zG4 hh;obtain⟨I1,r2⟩:=I.pop;obtain⟨I2,r1⟩:=I1.pop
 exact⟨i,j,r1.int_inv,r2.int_inv,hc,hQ _ H _ ⟨os,I2.push (by rw[<- hg];exact Rep.ofS (hs i j))⟩ q⟩
def Ul{g:Int->Int->V}{gd:Int->Int->D}(hs:∀i j,kY (gd i j)=true)(hg:∀i j,ofS (gd i j)=g i j):kf A (rI0 g) (zs5 gd):=by
 rintro os n rho sg H ds vs d1 d2 v1 v2 k Q I hh hQ;obtain⟨i,j,rfl,rfl,q⟩:=zs4 hh;obtain⟨I1,r2⟩:=I.pop;obtain⟨I2,r1⟩:=I1.pop
 exact⟨i,j,r1.int_inv,r2.int_inv,hQ _ H _ ⟨os,I2.push (by rw[<- hg];exact Rep.ofS (hs i j))⟩ q⟩
abbrev xB6:TD->TD->TD:=dOp (zs5 λi j=>.int (i+j))
abbrev xB1:TD->TD->TD:=dOp (zs5 λi j=>.int (i-j))
abbrev xB3:TD->TD->TD:=dOp (rdI CMul λi j=>.int (i*j))
abbrev xB4:TD->TD->TD:=dOp (rdI (λ_ j=>0<j) λi j=>.int (i%j))
abbrev xB5:TD->TD->TD:=dOp (rdI xv2 λi j=>.int (i/j))
abbrev xB2:TD->TD->TD:=dOp (rdI xv1 λi j=>.int (i^j.toNat))
def qB(ha:PD A X a ta)(hb:PD A X b tb):PD A X (.BinOp a .Add b pos) (xB6 ta tb):=by exists vA zV7 (Ul (λ_ _=>rfl) λ_ _=>rfl) ha hb
def zf3(ha:PD A X a ta)(hb:PD A X b tb):PD A X (.BinOp a .Sub b pos) (xB1 ta tb):=by exists vA zV2 (Ul (λ_ _=>rfl) λ_ _=>rfl) ha hb
def Xo(ha:PD A X a ta)(hb:PD A X b tb):PD A X (.BinOp a .Mult b pos) (xB3 ta tb):=by exists vA zV4 (zr9 (λ_ _=>rfl) λ_ _=>rfl) ha hb
def Yt(ha:PD A X a ta)(hb:PD A X b tb):PD A X (.BinOp a .Mod b pos) (xB4 ta tb):=by exists vA zV5 (zr9 (λ_ _=>rfl) λ_ _=>rfl) ha hb
def zV0(ha:PD A X a ta)(hb:PD A X b tb):PD A X (.BinOp a .FloorDiv b pos) (xB5 ta tb):=by exists vA zK2 (zr9 (λ_ _=>rfl) λ_ _=>rfl) ha hb
def zB8(ha:PD A X a ta)(hb:PD A X b tb):PD A X (.BinOp a .Pow b pos) (xB2 ta tb):=by exists vA zV3 (zr9 (λ_ _=>rfl) λ_ _=>rfl) ha hb
abbrev xw3:RD2:=zs5 λi j=>.bl (decide (i<j))
abbrev xw4:RD2:=zs5 λi j=>.bl (decide (j<i))
abbrev xw5:RD2:=zs5 λi j=>.bl (decide (j<=i))
def zs2:kf A (rI0 λi j=>.bl (decide (i<j))) xw3:=Ul (g:=λi j=>.bl (decide (i<j))) (λ_ _=>rfl) λ_ _=>rfl
def zc5:kf A (rI0 λi j=>.bl (decide (j<i))) xw4:=Ul (g:=λi j=>.bl (decide (j<i))) (λ_ _=>rfl) λ_ _=>rfl
def zc6:kf A (rI0 λi j=>.bl (decide (j<=i))) xw5:=Ul (g:=λi j=>.bl (decide (j<=i))) (λ_ _=>rfl) λ_ _=>rfl
def zG5:RD2:=λd1 d2 k=>kY d1=true/\kY d2=true/\xa8 (ofS d1) (ofS d2)=true/\k (.bl (decide (ofS d1=ofS d2)))
def zG3:RD2:=λd1 d2 k=>kY d1=true/\kY d2=true/\xa8 (ofS d1) (ofS d2)=true/\k (.bl (!decide (ofS d1=ofS d2)))
def kj:kf A rEq zG5:=by
 rintro os n rho sg H ds vs d1 d2 v1 v2 k Q I ⟨h1,h2,h3,q⟩ hQ;obtain⟨I1,r2⟩:=I.pop;obtain⟨I2,r1⟩:=I1.pop;rw[r1.toS h1,r2.toS h2];exact⟨h3,hQ _ H _ ⟨os,I2.push (Rep.ofS rfl)⟩ q⟩
def Xj:kf A rNe zG3:=by
 rintro os n rho sg H ds vs d1 d2 v1 v2 k Q I ⟨h1,h2,h3,q⟩ hQ;obtain⟨I1,r2⟩:=I.pop;obtain⟨I2,r1⟩:=I1.pop;rw[r1.toS h1,r2.toS h2];exact⟨h3,hQ _ H _ ⟨os,I2.push (Rep.ofS rfl)⟩ q⟩
def yt:D->Bool
 |.non=>true
 |_=>false
theorem Rep.non_iff{K:W.Frag}{G:Option Addr}{Z:Addr->Prop}{H:Hp}{v:V}:∀{d:D},Rep K G Z H d v->decide (v=.non)=yt d
 |.non,h=>by unfold Rep at h;rw[h];rfl
 |.bl b,h=>by unfold Rep at h;rw[h];rfl
 |.int b,h=>by unfold Rep at h;rw[h];rfl
 |.str b,h=>by unfold Rep at h;rw[h];rfl
 |.ty b,h=>by unfold Rep at h;rw[h];rfl
 |.st,h=>by unfold Rep at h;obtain⟨a,_,h⟩:=h;rw[h];rfl
 |.tup ds,h=>by obtain⟨a,xs,h,_⟩:=h.tup_inv;rw[h];rfl
 |.lst ds,h=>by obtain⟨a,xs,h,_⟩:=h.lst_inv;rw[h];rfl
 |.own ds,h=>by unfold Rep at h;exact h.elim
 |.fz ds,h=>by obtain⟨a,xs,h,_⟩:=h.fz_inv;rw[h];rfl
 |.dic,h=>by unfold Rep at h;obtain⟨a,kvs,h,_⟩:=h;rw[h];rfl
 |.exc _,h=>by unfold Rep at h;obtain⟨a,h,_⟩:=h;rw[h];rfl
 |.dct _ _,h=>by unfold Rep at h;obtain⟨a,xs,h,_⟩:=h;rw[h];rfl
def zR8:RD2:=λd1 d2 k=>d2=.non/\k (.bl (yt d1))
def zB1:RD2:=λd1 d2 k=>d2=.non/\k (.bl (!yt d1))
def kH:kf A (λx y H Q=>y=.non/\Q (.bl (decide (x=.non))) H) zR8:=by
 rintro os n rho sg H ds vs d1 d2 v1 v2 k Q I ⟨rfl,q⟩ hQ;obtain⟨I1,r2⟩:=I.pop;obtain⟨I2,r1⟩:=I1.pop;have e:v2=.non:=r2.toS rfl
 exact⟨e,by rw[r1.non_iff];exact hQ _ H _ ⟨os,I2.push (Rep.ofS (d:=.bl (yt d1)) rfl)⟩ q⟩
def zc4:kf A (λx y H Q=>y=.non/\Q (.bl (!decide (x=.non))) H) zB1:=by
 rintro os n rho sg H ds vs d1 d2 v1 v2 k Q I ⟨rfl,q⟩ hQ;obtain⟨I1,r2⟩:=I.pop;obtain⟨I2,r1⟩:=I1.pop;have e:v2=.non:=r2.toS rfl
 exact⟨e,by rw[r1.non_iff];exact hQ _ H _ ⟨os,I2.push (Rep.ofS (d:=.bl (!yt d1)) rfl)⟩ q⟩
def Kk:RD2:=λd1 d2 k=>∃es i d,(d1=.lst es\/d1=.tup es\/d1=.fz es)/\d2=.int i/\atI es i=some d/\k d
def VD{K:W.Frag}{G:Option Addr}{Z:Addr->Prop}{H:Hp}{es:List D}{xs:List V}{i:Int}{d:D}(h:Reps K G Z H es xs)(e:atI es i=some d):∃v,atI xs i=some v/\Rep K G Z H d v:=by
 unfold atI at e ⊢;rw[h.length]
 cases q:ixN es.length i with
 |none=>rw[q] at e;cases e
 |some j=>
  rw[q] at e;exact h.get (i:=j) e
def yn:kf A (rIx A.K) Kk:=by
 rintro os n rho sg H ds vs d1 d2 v1 v2 k Q I ⟨es,i,d,h1,rfl,h2,q⟩ hQ;obtain⟨I1,r2⟩:=I.pop;obtain⟨I2,r1⟩:=I1.pop
 rcases h1 with rfl |rfl |rfl
 ·obtain⟨a,xs,e,sq,rs⟩:=r1.lst_inv;obtain⟨v,e1,rv⟩:=VD rs h2;exact .inl ⟨a,xs,i,v,e,r2.int_inv,sq.sq,e1,hQ v H d ⟨os,I2.push rv⟩ q⟩
 ·obtain⟨a,xs,e,sq,rs⟩:=r1.tup_inv;obtain⟨v,e1,rv⟩:=VD rs h2;exact .inr (.inl ⟨a,xs,i,v,e,r2.int_inv,sq.sq,e1,hQ v H d ⟨os,I2.push rv⟩ q⟩)
 ·obtain⟨a,xs,e,sq,rs⟩:=r1.fz_inv;obtain⟨v,e1,rv⟩:=VD rs h2;exact .inl ⟨a,xs,i,v,e,r2.int_inv,sq,e1,hQ v H d ⟨os,I2.push rv⟩ q⟩
def zS2:RD2:=λd1 d2 k=>∃es fs,d1=.lst es/\d2=.lst fs/\es.length+fs.length<=sizeLine/\k (.lst (es++fs))
def Um:kf A xp0 zS2:=by
 rintro os n rho sg H ds vs d1 d2 v1 v2 k Q I ⟨es,fs,rfl,rfl,hz,q⟩ hQ;obtain⟨I1,r2⟩:=I.pop;obtain⟨I2,r1⟩:=I1.pop;obtain⟨a,xs,e,sq,rs⟩:=r1.lst_inv;obtain⟨b,ys,e',sq',rs'⟩:=r2.lst_inv
 exact⟨a,b,xs,ys,e,e',sq.2,sq'.2,by rw[rs.length,rs'.length];exact hz,λp hp=>hQ _ _ _ ⟨os,I2.newLst (rs.append rs') hp⟩ q⟩
def Xn(ha:PD A X a ta):PD A X (.UnaryOp .USub a pos) (λrho n P=>ta rho n λd n'=>∃i,d=.int i/\P (.int (-i)) n'):=by
 exists (zU2 zz9 ha).imp λsg H Q h=>by
   obtain⟨rho,n,P,ds,vs,I,ht,hQ⟩:=h;refine⟨rho,n,_,ds,vs,I,ht,λv H' n' d ⟨os,J⟩ k=>?_⟩;obtain⟨i,rfl,k⟩:=k;obtain⟨J1,r⟩:=J.pop;exact⟨i,r.int_inv,hQ _ H' n' _ ⟨os,J1.push (Rep.ofS (d:=.int (-i)) rfl)⟩ k⟩
variable {t u:TBD}{rest:List Expr}
def xu6(t u:TBD):TBD:=λrho n P=>t rho n λc n1=>if c=true then u rho n1 P else P false n1
def bOr(t u:TBD):TBD:=λrho n P=>t rho n λc n1=>if c=true then P true n1 else u rho n1 P
def xu5(t:TBD):TBD:=λrho n P=>t rho n λc n1=>P (!c) n1
def kT(ha:PTD A X a t):PWD A X (.BoolOp .And [a] pos) t:=by exists zG9 ha
def vQ(ha:PTD A X a t):PWD A X (.BoolOp .Or [a] pos) t:=by exists zS8 ha
def qb(ha:PTD A X a t)(hb:PWD A X (.BoolOp .And (b::rest) pos) u):PWD A X (.BoolOp .And (a::b::rest) pos) (xu6 t u):=by
 exists (zS9 ha hb).imp λsg H Q h=>by
   obtain⟨rho,n,P,ds,vs,I,ht,hQ⟩:=h;refine⟨rho,n,_,ds,vs,I,ht,λc H' n' J k=>?_⟩
   cases c with
   |true=>exact⟨rho,n',P,ds,vs,J,k,hQ⟩
   |false=>exact hQ _ _ _ J k
def vZ(ha:PTD A X a t)(hb:PWD A X (.BoolOp .Or (b::rest) pos) u):PWD A X (.BoolOp .Or (a::b::rest) pos) (bOr t u):=by
 exists (xl4 ha hb).imp λsg H Q h=>by
   obtain⟨rho,n,P,ds,vs,I,ht,hQ⟩:=h;refine⟨rho,n,_,ds,vs,I,ht,λc H' n' J k=>?_⟩
   cases c with
   |false=>exact⟨rho,n',P,ds,vs,J,k,hQ⟩
   |true=>exact hQ _ _ _ J k
def PWD.pt(h:PWD A X e t):PTD A X e t:=by exists PW.pt h
def vq(ha:PTD A X a t):PTD A X (.UnaryOp .Not a pos) (xu5 t):=by
 exists (zT1 ha).imp λsg H Q h=>by
   obtain⟨rho,n,P,ds,vs,I,ht,hQ⟩:=h;exact⟨rho,n,_,ds,vs,I,ht,λc H' n' J k=>hQ _ _ _ J k⟩
def xu4(ta tb:TD):TD:=λrho n P=>ta rho n λd n1=>∃c,d=.bl c/\if c=true then tb rho n1 P else P (.bl false) n1
def xu1(ta:TD):TD:=λrho n P=>ta rho n λd n1=>∃c,d=.bl c/\P (.bl (!c)) n1
def qi{op:BoolOp}(h:PD A X a ta):PD A X (.BoolOp op [a] pos) ta:=by exists zU3 h
def vy(ha:PD A X a ta)(hb:PD A X (.BoolOp .And (b::rest) pos) tb):PD A X (.BoolOp .And (a::b::rest) pos) (xu4 ta tb):=by
 exists (zU7 ha hb).imp λsg H Q h=>by
   obtain⟨rho,n,P,ds,vs,I,ht,hQ⟩:=h;refine⟨rho,n,_,ds,vs,I,ht,λv H' n' d ⟨os,J⟩ k=>?_⟩;obtain⟨c,rfl,k⟩:=k;obtain⟨J1,r⟩:=J.pop;refine⟨c,r.bl_inv,?_⟩
   cases c with
   |true=>exact⟨rho,n',P,ds,vs,⟨os,J1⟩,k,hQ⟩
   |false=>exact hQ _ _ _ _ ⟨os,J1.push (Rep.ofS (d:=.bl false) rfl)⟩ k
def zU9(ha:PD A X a ta):PD A X (.UnaryOp .Not a pos) (xu1 ta):=by
 exists (zU4 ha).imp λsg H Q h=>by
   obtain⟨rho,n,P,ds,vs,I,ht,hQ⟩:=h;refine⟨rho,n,_,ds,vs,I,ht,λv H' n' d ⟨os,J⟩ k=>?_⟩;obtain⟨c,rfl,k⟩:=k;obtain⟨J1,r⟩:=J.pop;exact⟨c,r.bl_inv,hQ _ _ _ _ ⟨os,J1.push (Rep.ofS (d:=.bl (!c)) rfl)⟩ k⟩
def dIf(t:TBD)(ta tb:TD):TD:=λrho n P=>t rho n λc n1=>if c=true then ta rho n1 P else tb rho n1 P
def qW(hc:PTD A X c t)(ha:PD A X a ta)(hb:PD A X b tb):PD A X (.IfExp c a b pos) (dIf t ta tb):=by
 exists (zt7 hc ha hb).imp λsg H Q h=>by
   obtain⟨rho,n,P,ds,vs,I,ht,hQ⟩:=h;refine⟨rho,n,_,ds,vs,I,ht,λc H' n' J k=>?_⟩
   cases c with
   |true=>exact⟨rho,n',P,ds,vs,J,k,hQ⟩
   |false=>exact⟨rho,n',P,ds,vs,J,k,hQ⟩
variable {t1:TAD}
def xn2:TAD:=λ_ n P=>P [] n
def xa1(t:TD)(r:TAD):TAD:=λrho n P=>t rho n λd n1=>r rho n1 λds n2=>P (d::ds) n2
def zf:PAD A X [] xn2:=by
 exists Xr.imp λsg H Q h=>by
   obtain⟨rho,n,P,ds,vs,I,ht,hQ⟩:=h;exact hQ [] H n [] I rfl ht
def zr8{K:W.Frag}{G:Option Addr}{Z:Addr->Prop}{H:Hp}{es ds:List D}{ws vs:List V}{d:D}{v:V}(h:Reps K G Z H (es++d::ds) (ws++v::vs))(hl:ws.length=es.length):Reps K G Z H (d::es++ds) (v::ws++vs):=by
 have h1:=h.take es.length;have h2:=h.drop es.length;rw[take_left' rfl,take_left' hl] at h1;rw[yi rfl,yi hl] at h2;obtain⟨r,t⟩:=h2.inv;exact .cons r (h1.append t)
def yR:Expr->Bool
 |.Starred ..=>true
 |_=>false
def sE{e:Expr}{es:List Expr}{env:Env}(h:yR e=false):starEach (e::es) env=(false,eval e env)::starEach es env:=by
 cases e<;>first |(simp[starEach];done) |(simp[yR] at h;done)
def zb(ha:PD A X a ta)(hr:PAD A X es t1)(hs:yR a=false:=by rfl):PAD A X (a::es) (xa1 ta t1):=by
 exists (vt ha hr (sE hs)).imp λsg H Q h=>by
   obtain⟨rho,n,P,ds,vs,I,ht,hQ⟩:=h;refine⟨rho,n,_,ds,vs,I,ht,λv H' n' d J k=>⟨rho,n',_,d::ds,v::vs,J,k,λws H2 n2 es' ⟨os,J2⟩ hl k2=>?_⟩⟩
   exact hQ (v::ws) H2 n2 (d::es') ⟨os,J2.pends (zr8 J2.pend hl)⟩ (by rw[zr,zr,hl]) k2
def YM{K:W.Frag}{G:Option Addr}{Z:Addr->Prop}{H:Hp}{es ds:List D}{ws vs:List V}(h:Reps K G Z H (es++ds) (ws++vs))(hl:ws.length=es.length):Reps K G Z H es ws/\Reps K G Z H ds vs:=by
 have h1:=h.take es.length;have h2:=h.drop es.length;rw[take_left' rfl,take_left' hl] at h1;rw[yi rfl,yi hl] at h2;exact⟨h1,h2⟩
def xt6(t:TAD):TD:=λrho n P=>t rho n λds n1=>ds.length<=sizeLine/\P (.tup ds) n1
def xm9(t:TAD):TD:=λrho n P=>t rho n λds n1=>ds.length<=sizeLine/\P (.lst ds) n1
def yK{x1}(h:PAD A X es t1):PD A X (.Tuple es x1 pos) (xt6 t1):=by
 exists (zB7 h).imp λsg H Q h=>by
   obtain⟨rho,n,P,ds,vs,I,ht,hQ⟩:=h
   refine⟨rho,n,_,ds,vs,I,ht,λws H' n' es' ⟨os,J⟩ hl k=>⟨by rw[hl];exact k.1,λp hp=>?_⟩⟩
   obtain⟨q1,q2⟩:=YM J.pend hl;exact hQ _ _ n' _ ⟨os,(J.pends q2).newTup q1 hp⟩ k.2
def ka(h:PAD A X es t1):PD A X (.List es pos) (xm9 t1):=by
 exists (ze8 h).imp λsg H Q h=>by
   obtain⟨rho,n,P,ds,vs,I,ht,hQ⟩:=h
   refine⟨rho,n,_,ds,vs,I,ht,λws H' n' es' ⟨os,J⟩ hl k=>⟨by rw[hl];exact k.1,λp hp=>?_⟩⟩
   obtain⟨q1,q2⟩:=YM J.pend hl;exact hQ _ _ n' _ ⟨os,(J.pends q2).newLst q1 hp⟩ k.2
def vH(A:AC)(r:List V->Hp->VK->Prop)(rd:List D->(D->Prop)->Prop):Prop:=
 ∀os n rho sg H ds vs es ws (k:D->Prop) (Q:VK),AmO A os n rho sg H ds vs->Reps A.K A.G (Zof A os) H es ws->rd es k->(∀v H' d,Am A n rho sg H' (d::ds) (v::vs)->k d->Q v H')->r ws H Q
def zy4(rd:List D->(D->Prop)->Prop)(t:TAD):TD:=λrho n P=>t rho n λes n1=>rd es λd=>P d n1
def zA3{r:List V->Hp->VK->Prop}{rd:List D->(D->Prop)->Prop}(hr:vH A r rd){sg:St}{H:Hp}{Q:VK}(h:tOf A (zy4 rd t1) sg H Q):tCB r (xn5 A t1) sg H Q:=by
 obtain⟨rho,n,P,ds,vs,I,ht,hQ⟩:=h;refine⟨rho,n,_,ds,vs,I,ht,λws H' n' es' ⟨os,J⟩ hl k=>?_⟩;obtain⟨q1,q2⟩:=YM J.pend hl;exact hr _ _ _ _ _ _ _ _ _ _ Q (J.pends q2) q1 k λv H2 d J2 k2=>hQ v H2 n' d J2 k2
def xq{x:Str}{p:Pos}{id:String}{r:List V->Hp->VK->Prop}{rd:List D->(D->Prop)->Prop}(hc:jw X (.builtin id) r)(hr:vH A r rd)(hm:X.mg x=none)(hv:bootBuiltins x=some (.builtin id))(ha:PAD A X (e::es) t1)(hg:Gl X x:=by rfl)(hn:x ≠ "__name__" := by decide)(hdb:(x == ("__debug__" : Str))=false:=by decide)
  (he:starEach (e::es) X.env=(false,eval e X.env)::starEach es X.env:=by rfl) (hpl:(backTo pos (starEach es X.env)).any (·.1)=false:=by rfl):PD A X (.Call (.Name x p) (e::es) [] pos) (zy4 rd t1):=by
 exists 
   (YO hc hg hm hv ha hn hdb he hpl).imp λ_ _ _=>zA3 hr
def wO{x:Str}{p:Pos}{T:String}{r:List V->Hp->VK->Prop}{rd:List D->(D->Prop)->Prop}(hc:jw X (.type T) r)(hr:vH A r rd)(hm:X.mg x=none)(hv:bootBuiltins x=some (.type T))(ha:PAD A X (e::es) t1)(hg:Gl X x:=by rfl)(hn:x ≠ "__name__" := by decide)(hdb:(x == ("__debug__" : Str))=false:=by decide)
  (he:starEach (e::es) X.env=(false,eval e X.env)::starEach es X.env:=by rfl) (hpl:(backTo pos (starEach es X.env)).any (·.1)=false:=by rfl):PD A X (.Call (.Name x p) (e::es) [] pos) (zy4 rd t1):=by
 exists 
   (zf1 hc hg hm hv ha hn hdb he hpl).imp λ_ _ _=>zA3 hr
def Zg{K:W.Frag}{G:Option Addr}{Z:Addr->Prop}{H:Hp}{d:D}{ws:List V}(h:Reps K G Z H [d] ws):∃v,ws=[v]/\Rep K G Z H d v:=by
 obtain⟨v,r,rfl,q,t⟩:=h.split;rw[t.nil_inv];exact⟨v,rfl,q⟩
def KC{K:W.Frag}{G:Option Addr}{Z:Addr->Prop}{H:Hp}{d d':D}{ws:List V}(h:Reps K G Z H [d,d'] ws):∃v v',ws=[v,v']/\Rep K G Z H d v/\Rep K G Z H d' v':=by
 obtain⟨v,r,rfl,q,t⟩:=h.split;obtain⟨v',rfl,q'⟩:=Zg t;exact⟨v,v',rfl,q,q'⟩
def zC3:List D->(D->Prop)->Prop:=λes k=>∃fs,(es=[.lst fs]\/es=[.tup fs]\/es=[.fz fs])/\k (.int fs.length)
def xt4:List D->(D->Prop)->Prop:=λes k=>∃i,es=[.int i]/\k (.int (if i<0 then -i else i))
def zX5:List D->(D->Prop)->Prop:=λes k=>∃c,es=[.bl c]/\k (.int (if c then 1 else 0))
def xz9:List D->(D->Prop)->Prop:=λes k=>∃bs:List Bool,es=[.lst (bs.map D.bl)]/\k (.bl (bs.all id))
def zj9:List D->(D->Prop)->Prop:=λes k=>∃fs,(es=[.lst fs]\/es=[.tup fs])/\k (.tup fs)
def ko:vH A (λxs H Q=>∃p ys,xs=[.ref p]/\(SqL A.K H p ys\/SqT A.K H p ys)/\Q (.int ys.length) H) zC3:=by
 rintro os n rho sg H ds vs es ws k Q I rs ⟨fs,h,q⟩ hQ
 rcases h with rfl |rfl |rfl
 ·obtain ⟨v, rfl, r⟩ := Zg rs;obtain⟨a,xs,rfl,sq,rr⟩:=r.lst_inv
  exact⟨a,xs,rfl,.inl sq.sq,by rw[rr.length];exact hQ _ H _ ⟨os,I.push (Rep.ofS rfl)⟩ q⟩
 ·obtain ⟨v, rfl, r⟩ := Zg rs;obtain⟨a,xs,rfl,sq,rr⟩:=r.tup_inv
  exact⟨a,xs,rfl,.inr sq.sq,by rw[rr.length];exact hQ _ H _ ⟨os,I.push (Rep.ofS rfl)⟩ q⟩
 ·obtain ⟨v, rfl, r⟩ := Zg rs;obtain⟨a,xs,rfl,sq,rr⟩:=r.fz_inv
  exact⟨a,xs,rfl,.inl sq,by rw[rr.length];exact hQ _ H _ ⟨os,I.push (Rep.ofS rfl)⟩ q⟩
def zZ6:vH A (λxs H Q=>∃i,xs=[.int i]/\Q (.int (if i<0 then -i else i)) H) xt4:=by
 rintro os n rho sg H ds vs es ws k Q I rs ⟨i,rfl,q⟩ hQ;obtain⟨v,rfl,r⟩:=Zg rs
 exact⟨i,by rw[r.int_inv],hQ _ H _ ⟨os,I.push (Rep.ofS rfl)⟩ q⟩
def XJ:vH A (λxs H Q=>(∃i,xs=[.int i]/\Q (.int i) H)\/∃k,xs=[.bl k]/\Q (.int (if k then 1 else 0)) H) zX5:=by
 rintro os n rho sg H ds vs es ws k Q I rs ⟨i,rfl,q⟩ hQ;obtain⟨v,rfl,r⟩:=Zg rs
 exact .inr ⟨i,by rw[r.bl_inv],hQ _ H _ ⟨os,I.push (Rep.ofS rfl)⟩ q⟩
theorem Wp{K:W.Frag}{G:Option Addr}{Z:Addr->Prop}{H:Hp}:∀{bs:List Bool}{ws:List V},Reps K G Z H (bs.map D.bl) ws->ws=bs.map V.bl
 |[],ws,h=>h.nil_inv
 |b::bs,ws,h=>by
  obtain⟨v,r,rfl,q,t⟩:=h.split;rw[q.bl_inv,Wp t];rfl
def XM:vH A (λxs H Q=>∃(p:Addr) (bs:List Bool),xs=[.ref p]/\SqL A.K H p (bs.map V.bl)/\Q (.bl (bs.all id)) H) xz9:=by
 rintro os n rho sg H ds vs es ws k Q I rs ⟨bs,rfl,q⟩ hQ;obtain⟨v,rfl,r⟩:=Zg rs;obtain⟨a,xs,rfl,sq,rr⟩:=r.lst_inv;have e:=Wp rr;subst e;exact⟨a,bs,rfl,sq.sq,hQ _ H _ ⟨os,I.push (Rep.ofS rfl)⟩ q⟩
def qx:vH A (λxs H Q=>∃p ys,xs=[.ref p]/\((SqL A.K H p ys/\∀l,H l=none->Q (.ref l) (upd H l (.tup ys)))\/(SqT A.K H p ys/\Q (.ref p) H))) zj9:=by
 rintro os n rho sg H ds vs es ws k Q I rs ⟨fs,h,q⟩ hQ
 rcases h with rfl |rfl
 ·obtain⟨v,rfl,r⟩:=Zg rs;obtain⟨a,xs,rfl,sq,rr⟩:=r.lst_inv;exact⟨a,xs,rfl,.inl ⟨sq.sq,λl hl=>hQ _ _ _ ⟨os,I.newTup rr hl⟩ q⟩⟩
 ·obtain⟨v,rfl,r⟩:=Zg rs;have r':=r;obtain⟨a,xs,rfl,sq,rr⟩:=r.tup_inv;exact⟨a,xs,rfl,.inr ⟨sq.sq,hQ _ _ _ ⟨os,I.push r'⟩ q⟩⟩
def Yw(T:String):D->Bool
 |.bl _=>T == "bool" || T == "int"
 |.int _=>T == "int"
 |.str _=>T == "str"
 |.tup _=>T == "tuple"
 |.lst _=>T == "list"
 |_=>false
def vB:D->Bool
 |.non=>true |.bl _=>true |.int _=>true |.str _=>true |.tup _=>true |.lst _=>true |.dic=>true |_=>false
def zM5:List D->(D->Prop)->Prop:=λes k=>∃d T,es=[d,.ty T]/\(T = "bool" \/ T = "int" \/ T = "str" \/ T = "tuple" \/ T = "list")/\vB d=true/\k (.bl (Yw T d))
def vL:vH A (λxs H Q=>∃x T,xs=[x,.ty T]/\(T = "bool" \/ T = "int" \/ T = "str" \/ T = "tuple" \/ T = "list")/\xo7 A.K T x H Q) zM5:=by
 rintro os n rho sg H ds vs es ws k Q I rs ⟨d,T,rfl,hT,ho,q⟩ hQ;obtain⟨v,v',rfl,r,r'⟩:=KC rs;have e':v'=.ty T:=r'.toS rfl;subst e';refine⟨v,T,rfl,hT,?_⟩;have fin:Q (.bl (Yw T d)) H:=hQ _ H _ ⟨os,I.push (Rep.ofS rfl)⟩ q
 cases d with
 |non=>have e:=r.toS rfl;subst e;exact fin
 |bl b=>have e:=r.toS rfl;subst e;exact fin
 |int b=>have e:=r.toS rfl;subst e;exact fin
 |str b=>have e:=r.toS rfl;subst e;exact fin
 |tup fs=>obtain⟨a,xs,rfl,sq,rr⟩:=r.tup_inv;exact .inl ⟨xs,sq.sq,fin⟩
 |lst fs=>obtain⟨a,xs,rfl,sq,rr⟩:=r.lst_inv;exact .inr (.inl ⟨xs,sq.sq,fin⟩)
 |dic=>unfold Rep at r;obtain⟨a,kvs,rfl,_,e⟩:=r;exact .inr (.inr ⟨kvs,e,fin⟩)
 |ty _=>simp[vB] at ho
 |exc _=>simp[vB] at ho
 |dct _ _=>simp[vB] at ho
 |st=>simp[vB] at ho
 |own _=>simp[vB] at ho
 |fz _=>simp[vB] at ho
end
section
variable {A:AC}{os:List (Nat × Addr)}{n:Nat}{rho:Rho}{sg:St}{H:Hp}{ds es:List D}{vs ws:List V}{d:D}{v:V}
def AmO.split(I:AmO A os n rho sg H (es++ds) (ws++vs))(hl:ws.length=es.length):AmO A os n rho sg H ds vs/\Reps A.K A.G (Zof A os) H es ws:=
 let ⟨q1,q2⟩:=YM I.pend hl
 ⟨I.pends q2,q1⟩
def AmO.join(I:AmO A os n rho sg H ds vs)(h:Reps A.K A.G (Zof A os) H es ws):AmO A os n rho sg H (es++ds) (ws++vs):=I.pends (h.append I.pend)
def AmO.under(I:AmO A os n rho sg H (d::(es++ds)) (v::(ws++vs)))(hl:ws.length=es.length):AmO A os n rho sg H (d::ds) (v::vs):=by
 obtain⟨J,r⟩:=I.pop;exact(J.split hl).1.push r
def AmO.front(m:Nat)(I:AmO A os n rho sg H ds vs):AmO A (os.map λp=>(p.1+m,p.2)) n (replicate m none++rho) (replicate m none++sg) H ds vs:=by
 have zz:∀a,Zof A (os.map λp=>(p.1+m,p.2)) a->Zof A os a:=λa z=>by
  rcases z with z |⟨p,hp,e⟩
  ·exact .inl z
  ·obtain⟨q,hq,rfl⟩:=zN.mp hp;exact .inr ⟨q,hq,e⟩
 refine⟨by simp[I.len],λi c e=>?_,Reps.mono (λa _ z=>zz a z) (λ_ _ _ e=>e) _ _ I.pend,?_,λp hp=>?_,I.st,I.gz,I.fr,I.z0⟩
 ·have hi : m <= i := by
   apply Nat.le_of_not_lt;intro hlt
   rw[xu (by simpa using hlt),xr,if_pos hlt] at e
   cases e
  rw[xp (by simpa using hi),xJ] at e
  obtain⟨u,e1,e2⟩:=I.slot _ c e
  refine⟨u,by rw[xp (by simpa using hi),xJ];exact e1,?_⟩
  have key:∀j,j+m=i->SlotR A os H j c u->SlotR A (os.map λp=>(p.1+m,p.2)) H i c u:=λj hj h=>by
   subst hj
   cases c with
   |own fs=>
    obtain⟨a,xs,q1,q2,q3,q4⟩:=h;exact⟨a,xs,q1,zN.mpr ⟨_,q2,rfl⟩,q3,Reps.mono (λa _ z=>zz a z) (λ_ _ _ e=>e) _ _ q4⟩
   |non=>exact Rep.mono (λa _ z=>zz a z) (λ_ _ _ e=>e) _ _ h
   |bl _=>exact Rep.mono (λa _ z=>zz a z) (λ_ _ _ e=>e) _ _ h
   |int _=>exact Rep.mono (λa _ z=>zz a z) (λ_ _ _ e=>e) _ _ h
   |str _=>exact Rep.mono (λa _ z=>zz a z) (λ_ _ _ e=>e) _ _ h
   |ty _=>exact Rep.mono (λa _ z=>zz a z) (λ_ _ _ e=>e) _ _ h
   |tup _=>exact Rep.mono (λa _ z=>zz a z) (λ_ _ _ e=>e) _ _ h
   |lst _=>exact Rep.mono (λa _ z=>zz a z) (λ_ _ _ e=>e) _ _ h
   |st=>exact Rep.mono (λa _ z=>zz a z) (λ_ _ _ e=>e) _ _ h
   |fz _=>exact Rep.mono (λa _ z=>zz a z) (λ_ _ _ e=>e) _ _ h
   |dic=>exact Rep.mono (λa _ z=>zz a z) (λ_ _ _ e=>e) _ _ h
   |exc _=>exact Rep.mono (λa _ z=>zz a z) (λ_ _ _ e=>e) _ _ h
   |dct _ _=>exact Rep.mono (λa _ z=>zz a z) (λ_ _ _ e=>e) _ _ h
  exact key (i-m) w6 e2
 ·rw [List.pairwise_map]
  exact I.nd.imp λ{p q} h=>⟨λz=>h.1 (by simpa using z),h.2⟩
 ·obtain⟨q,hq,rfl⟩:=zN.mp hp;exact I.fresh q hq
def AmO.back{m:Nat}{rho':Rho}{sg':St}(I:AmO A os n rho' sg' H ds vs)(h1:rho'.drop m=rho)(h2:sg'.drop m=sg):∃os',AmO A os' n rho sg H ds vs:=by
 refine⟨(os.filter λp=>decide (m<=p.1)).map λp=>(p.1-m,p.2),?_⟩
 have zz:∀a,Zof A ((os.filter λp=>decide (m<=p.1)).map λp=>(p.1-m,p.2)) a->Zof A os a:=λa z=>by
  rcases z with z |⟨p,hp,e⟩
  ·exact .inl z
  ·obtain⟨q,hq,rfl⟩:=zN.mp hp;exact .inr ⟨q,(xf.mp hq).1,e⟩
 subst h1 h2
 refine⟨by simp[I.len],λi c e=>?_,Reps.mono (λa _ z=>zz a z) (λ_ _ _ e=>e) _ _ I.pend,?_,λp hp=>?_,I.st,I.gz,I.fr,I.z0⟩
 ·rw [List.getElem?_drop] at e;obtain⟨u,e1,e2⟩:=I.slot _ c e
  refine⟨u,by rw[getElem?_drop];exact e1,?_⟩
  cases c with
  |own fs=>
   obtain⟨a,xs,q1,q2,q3,q4⟩:=e2
   exact⟨a,xs,q1,zN.mpr ⟨_,xf.mpr ⟨q2,by simp⟩,by simp⟩,q3,Reps.mono (λa _ z=>zz a z) (λ_ _ _ e=>e) _ _ q4⟩
  |non=>exact Rep.mono (λa _ z=>zz a z) (λ_ _ _ e=>e) _ _ e2
  |bl _=>exact Rep.mono (λa _ z=>zz a z) (λ_ _ _ e=>e) _ _ e2
  |int _=>exact Rep.mono (λa _ z=>zz a z) (λ_ _ _ e=>e) _ _ e2
  |str _=>exact Rep.mono (λa _ z=>zz a z) (λ_ _ _ e=>e) _ _ e2
  |ty _=>exact Rep.mono (λa _ z=>zz a z) (λ_ _ _ e=>e) _ _ e2
  |tup _=>exact Rep.mono (λa _ z=>zz a z) (λ_ _ _ e=>e) _ _ e2
  |lst _=>exact Rep.mono (λa _ z=>zz a z) (λ_ _ _ e=>e) _ _ e2
  |st=>exact Rep.mono (λa _ z=>zz a z) (λ_ _ _ e=>e) _ _ e2
  |fz _=>exact Rep.mono (λa _ z=>zz a z) (λ_ _ _ e=>e) _ _ e2
  |dic=>exact Rep.mono (λa _ z=>zz a z) (λ_ _ _ e=>e) _ _ e2
  |exc _=>exact Rep.mono (λa _ z=>zz a z) (λ_ _ _ e=>e) _ _ e2
  |dct _ _=>exact Rep.mono (λa _ z=>zz a z) (λ_ _ _ e=>e) _ _ e2
 ·rw [List.pairwise_map, List.pairwise_filter];refine I.nd.imp λ{p q} h hp hq=>⟨λz=>h.1 ?_,h.2⟩
  have a1:m<=p.1:=by simpa using hp
  have a2:m<=q.1:=by simpa using hq
  have z':p.1-m=q.1-m:=z;lia
 ·obtain⟨q,hq,rfl⟩:=zN.mp hp;exact I.fresh q (xf.mp hq).1
end
abbrev TGD:=D->Rho->(Rho->Prop)->Prop
abbrev QP:=List D->Rho->(Rho->Prop)->Prop
def gOf(A:AC)(m:Nat)(g:TGD):TG:=λv sg H Q=>∃rho n P d ds vs,Am A n rho sg H (d::ds) (v::vs)/\g d rho P/\∀rho' sg',Am A n rho' sg' H ds vs->sg'.drop m=sg.drop m->P rho'->Q sg' H
def xA3(A:AC)(m:Nat)(g:QP):TGs:=λus sg H Q=>∃rho n P es ds vs,Am A n rho sg H (es++ds) (us++vs)/\us.length=es.length/\g es rho P/\∀rho' sg',Am A n rho' sg' H ds vs->sg'.drop m=sg.drop m->P rho'->Q sg' H
@[irreducible] def PGD(A:AC)(X:Cx)(m:Nat)(tg:Expr)(g:TGD):Prop:=PG X tg (gOf A m g)
@[irreducible] def zP6(A:AC)(X:Cx)(m:Nat)(tg:List Expr)(g:QP):Prop:=PGs X tg (xA3 A m g)
def PG.imp{X:Cx}{tg:Expr}{g g':TG}(h:PG X tg g)(hi:∀v sg H Q,g' v sg H Q->g v sg H Q):PG X tg g':=λpins s sg H v u Q I r q=>h pins s sg H v u Q I r (hi _ _ _ _ q)
def PGs.imp{X:Cx}{tg:List Expr}{g g':TGs}(h:PGs X tg g)(hi:∀v sg H Q,g' v sg H Q->g v sg H Q):PGs X tg g':=λpins s sg H v u Q I r q=>h pins s sg H v u Q I r (hi _ _ _ _ q)
section
variable {A:AC}{X:Cx}{m:Nat}{pos:Pos}
def zl3(i:Nat):TGD:=λd rho P=>i<rho.length/\P (rho.set i (some d))
def zV{i:Nat}{x:Str}(hN:X.N.Nodup)(hi:X.N[i]?=some x)(hx:Loc X.env.scope x)(hm:i<m)(hf:X.fn x=true\/X.env.scope.names.lookup x=some .local:=by first |exact .inl rfl |exact .inr rfl |assumption):PGD A X m (.Name x pos) (zl3 i):=by
 exists 
   (zI5 hN hi hx hf).imp λv sg H Q h => by
    obtain⟨rho,n,P,d,ds,vs,⟨os,I⟩,⟨hl,k⟩,hQ⟩:=h;refine hQ (rho.set i (some d)) (sg.set i (some v)) ⟨_,I.set hl⟩ ?_ k;rw[List.drop_set_of_lt hm]
def zY5:QP:=λes rho P=>es=[]/\P rho
def zC5(g:TGD)(gs:QP):QP:=λes rho P=>∃d r,es=d::r/\g d rho λrho'=>gs r rho' P
def yH:zP6 A X m [] zY5:=by
 exists zI2.imp λus sg H Q h=>by
   obtain⟨rho,n,P,es,ds,vs,I,hl,⟨rfl,k⟩,hQ⟩:=h;have e:us=[]:=xO.mp hl;subst e;exact⟨rfl,hQ rho sg I rfl k⟩
def xo{e:Expr}{es:List Expr}{g:TGD}{gs:QP}(h1:PGD A X m e g)(h2:zP6 A X m es gs)(hs:(assignEach (e::es) X.env).map (·.2)=assign e X.env::(assignEach es X.env).map (·.2):=by rfl):zP6 A X m (e::es) (zC5 g gs):=by
 exists 
   (zt4 h1 h2 hs).imp λus sg H Q h => by
    obtain⟨rho,n,P,es',ds,vs,I,hl,⟨d,r,rfl,k⟩,hQ⟩:=h
    cases us with
    |nil=>simp at hl
    |cons u us=>
     refine⟨u,us,rfl,⟨rho,n,_,d,r++ds,us++vs,I,k,λrho' sg' I' e1 k'=>⟨rho',n,P,r,ds,vs,I',by simpa using hl,k',λrho2 sg2 I2 e2 k2=>hQ rho2 sg2 I2 (e2.trans e1) k2⟩⟩⟩
def zY4(k:Nat)(gs:QP):TGD:=λd rho P=>∃es,d=.tup es/\es.length=k/\gs es rho P
def vE{es:List Expr}{k:Nat}{gs:QP}{kt:Nat}(hK:X.K=A.K)(hc:X.calm=true)(h:zP6 A X m es gs)(hn:(assignEach es X.env).length=k:=by rfl)(hst:(assignEach es X.env).findIdx? (·.1)=none:=by rfl):PGD A X m (.Tuple es kt pos) (zY4 k gs):=by
 exists 
   (zT9 (n := k) hc h hn hst).imp λv sg H Q h => by
    obtain⟨rho,n,P,d,ds,vs,⟨os,I⟩,⟨fs,rfl,hl,q⟩,hQ⟩:=h;obtain⟨J,r⟩:=I.pop;obtain⟨a,xs,rfl,sq,rs⟩:=r.tup_inv;have hx:=rs.length;rw[hK]
    exact⟨a,xs,rfl,sq.sq,by rw[hx];exact hl,rho,n,P,fs,ds,vs,⟨os,J.join rs⟩,hx,q,hQ⟩
end
abbrev TID:=Rho->Nat->(List D->Nat->Prop)->Prop
def JIs(A:AC)(J:It)(es:List D)(ws:List V)(items:List D):Prop:=∀n rho sg H ds vs i,Am A n rho sg H (es++ds) (ws++vs) ->
 (∀d,items[i]?=some d->J.go i H/\∀x H',J.yld i H x H'->Am A n rho sg H' (d::(es++ds)) (x::(ws++vs)))/\(items.length<=i->J.stop i H)
def iOf(A:AC)(it:TID):TI:=λsg H R=>∃rho n P ds vs,Am A n rho sg H ds vs/\it rho n P/\∀J H' n' items es ws,Am A n' rho sg H' (es++ds) (ws++vs)->ws.length=es.length->JIs A J es ws items->P items n'->R J H'
@[irreducible] def PID(A:AC)(X:Cx)(tg iter:Expr)(it:TID):Prop:=PI X tg iter (iOf A it)
def PI.imp{X:Cx}{tg e:Expr}{t t':TI}(h:PI X tg e t)(hi:∀sg H Q,t' sg H Q->t sg H Q):PI X tg e t':=λpins s sg H Q I q=>h pins s sg H Q I (hi _ _ _ q)
section
variable {A:AC}{X:Cx}{tg a b:Expr}{ta tb:TD}{pos p:Pos}{t1:TAD}
def zr6(lo:Int)(k:Nat):List D:=(List.range k).map fun(i:Nat)=>D.int (lo+(i:Int))
def zY3(t:TAD):TID:=λrho n P=>t rho n λes n1=>∃j:Int,es=[.int j]/\-(2^62)<=j/\j<2^62/\P (zr6 0 j.toNat) n1
def zM7{lo:Int}{k:Nat}:JIs A (Itr lo k) [] [] (zr6 lo k):=λn2 rho2 sg2 H2 ds2 vs2 i ⟨os2,I2⟩=>by
 refine⟨λd e=>?_,λhi=>?_⟩
 ·unfold zr6 at e;rw[xn] at e
  cases q:(List.range k)[i]? with
  |none=>rw[q] at e;cases e
  |some j=>
   rw[q] at e;cases e;have hj:=zM.mp q;obtain⟨hlt,ej⟩:=hj;rw[List.getElem_range] at ej;subst ej
   refine⟨(show i<k by simpa using hlt),λx H3 y=>?_⟩
   obtain⟨e3,e4⟩:=y;subst e3 e4;exact⟨os2,I2.push (Rep.ofS (d:=.int (lo+i)) rfl)⟩
 ·unfold zr6 at hi
  exact(show k<=i by simpa using hi)
def Xk(hm:X.mg "range" = none)(ha:PAD A X [a] t1)(hg:Gl X "range" := by rfl)(hs:starEach [a] X.env=[(false,eval a X.env)]:=by rfl):PID A X tg (.Call (.Name "range" p) [a] [] pos) (zY3 t1):=by
 exists 
   (ze7 hg hm ha hs).imp λsg H R h => by
    obtain⟨rho,n,P,ds,vs,I,ht,hQ⟩:=h;refine⟨rho,n,_,ds,vs,I,ht,λws H' n' es' ⟨os,J⟩ hl k=>?_⟩;obtain⟨j,rfl,h1,h2,k⟩:=k;obtain⟨J1,rs⟩:=J.split hl;obtain⟨v,rfl,r⟩:=Zg rs
    exact⟨j,by rw[r.int_inv],h1,h2,hQ _ H' n' _ [] [] ⟨os,J1⟩ rfl zM7 k⟩
def Xb:D->Option (Bool × List D)
 |.lst es=>some (true,es)
 |.tup es=>some (false,es)
 |_=>none
theorem Rep.seq{K:W.Frag}{G:Option Addr}{Z:Addr->Prop}{H:Hp}{v:V}{b:Bool}{es:List D}:∀{d:D},Xb d=some (b,es)->Rep K G Z H d v->∃a xs,v=.ref a/\SqZ K Z H b a xs/\Reps K G Z H es xs
 |.lst fs,h,r=>by cases h;exact r.lst_inv
 |.tup fs,h,r=>by cases h;exact r.tup_inv
 |.non,h,_=>by cases h
 |.bl _,h,_=>by cases h
 |.int _,h,_=>by cases h
 |.str _,h,_=>by cases h
 |.ty _,h,_=>by cases h
 |.st,h,_=>by cases h
 |.own _,h,_=>by cases h
 |.fz _,h,_=>by cases h
def VM(xs ys:List D):List D:=List.zipWith (λx y=>D.tup [x,y]) xs ys
def zY0(t:TAD):TID:=λrho n P=>t rho n λes n1=>∃d1 d2 b1 xs b2 ys,es=[d1,d2]/\Xb d1=some (b1,xs)/\Xb d2=some (b2,ys)/\P (VM xs ys) n1
def zM6{d1 d2:D}{l1 l2:Addr}{b1 b2:Bool}{xs ys:List D}(h1:Xb d1=some (b1,xs))(h2:Xb d2=some (b2,ys)):JIs A (Itz A.K b1 b2 l1 l2) [d1,d2] [.ref l1,.ref l2] (VM xs ys):=λn rho sg H ds vs i ⟨os,I⟩=>by
 obtain⟨I1,r1⟩:=AmO.pop (d:=d1) (v:=.ref l1) (ds:=d2::ds) (vs:=.ref l2::vs) I;obtain⟨I2,r2⟩:=I1.pop;obtain⟨a1,us,e1,sq1,rs1⟩:=r1.seq h1;obtain⟨a2,ws,e2,sq2,rs2⟩:=r2.seq h2;cases e1;cases e2;refine⟨λd e=>?_,λhi=>⟨us,ws,sq1.sq,sq2.sq,?_⟩⟩
 ·unfold VM at e;rw[List.getElem?_zipWith] at e
  cases q1:xs[i]? with
  |none=>rw[q1] at e;cases e
  | some x =>
   cases q2:ys[i]? with
   |none=>rw[q1,q2] at e;cases e
   |some y=>
    rw[q1,q2] at e;cases e;obtain⟨u,eu,ru⟩:=rs1.get q1;obtain⟨w,ew,rw'⟩:=rs2.get q2;refine⟨⟨us,ws,u,w,sq1.sq,sq2.sq,eu,ew⟩,λv H3 yy=>?_⟩;obtain⟨T,hT,rfl,k⟩:=yy;obtain⟨u',w',eu',ew',rfl⟩:=k us ws sq1.sq sq2.sq;rw[eu] at eu';cases eu';rw[ew] at ew';cases ew';exact⟨os,I.newTup (.cons ru (.cons rw' .nil)) hT⟩
 ·rw[rs1.length,rs2.length];unfold VM at hi;rw[List.length_zipWith] at hi;lia
def Vg{es:List Expr}{kk:Nat}{ps:Pos}(hK:X.K=A.K)(hm:X.mg "zip" = none)(ha:PAD A X [a,b] t1)(hg:Gl X "zip" := by rfl)(hs:starEach [a,b] X.env=[(false,eval a X.env),(false,eval b X.env)]:=by rfl)(hs2:starEach [b] X.env=[(false,eval b X.env)]:=by rfl) :
  PID A X (.Tuple es kk ps) (.Call (.Name "zip" p) [a,b] [] pos) (zY0 t1):=by
 exists (zT7 hg hm ha hs hs2).imp λsg H R h=>by
   obtain⟨rho,n,P,ds,vs,I,ht,hQ⟩:=h;refine⟨rho,n,_,ds,vs,I,ht,λws H' n' es' ⟨os,J⟩ hl k=>?_⟩;obtain⟨d1,d2,b1,xs,b2,ys,rfl,h1,h2,k⟩:=k;obtain⟨J1,rs⟩:=J.split hl;obtain⟨v1,v2,rfl,r1,r2⟩:=KC rs;obtain⟨a1,us,rfl,sq1,rs1⟩:=r1.seq h1;obtain⟨a2,ws',rfl,sq2,rs2⟩:=r2.seq h2;rw[hK];exact⟨b1,b2,a1,a2,us,ws',rfl,sq1.sq,sq2.sq,hQ _ H' n' _ [d1,d2] [.ref a1,.ref a2] ⟨os,J⟩ rfl (zM6 h1 h2) k⟩
end
section
variable {A:AC}{X:Cx}{tg iter elt:Expr}{ifs:List Expr}{scope:Scope}{own M:List Str}{pos:Pos}{it:TID}{g:TGD}{tt:TBD}{te:TD}
def UX(it:TID)(own:Nat)(g:TGD)(tt:TBD)(te:TD):TD:=λrho n P=>it rho n λitems n1=>items.length<=sizeLine/\∃J:Nat->List D->Nat->Prop,J 0 [] n1 /\
 (∀i d acc n,items[i]?=some d->J i acc n->g d (replicate own none++rho) λrho'=>rho'.drop own=rho/\tt rho' n λc n2=>if c=true then te rho' n2 λe n3=>J (i+1) (acc++[e]) n3 else J (i+1) acc n2) /\
 ∀acc n,J items.length acc n->P (.lst acc) n
def zP5:TBD:=λ_ n P=>P true n
def PTs.imp{X:Cx}{e:List Expr}{t t':TT}(h:PTs X e t)(hi:∀sg H Q,t' sg H Q->t sg H Q):PTs X e t':=by exists λpins s sg H Q I q=>h pins s sg H Q I (hi _ _ _ q)
def wS{X:Cx}:PTs X [] (zp3 A zP5):=by
 exists zH0.imp λsg H Q h=>by
   obtain⟨rho,n,P,ds,vs,I,ht,hQ⟩:=h;exact hQ true H n I ht
def za8{sg:St}{H:Hp}{Q:VK}{m:Nat}{rho:Rho}{n:Nat}{P:D->Nat->Prop}{ds:List D}{vs:List V}(I:Am A n rho sg H ds vs)(ht:UX it m g tt te rho n P)
  (hQ:∀os n' H' fs xs p,AmO A os n' rho sg H' ds vs->Reps A.K A.G (Zof A os) H' fs xs->H' p=none->P (.lst fs) n'->Q (.ref p) (upd H' p (.lst xs))):Qo (iOf A it) m (gOf A m g) (zp3 A tt) (tOf A te) sg H Q:=by
 refine⟨rho,n,_,ds,vs,I,ht,λJ H' n' items es ws I1 hl hJ k=>?_⟩;obtain⟨hsz,W,w0,turn,fin⟩:=k
 refine⟨λi mm acc H=>mm=items.length-i/\i<=items.length/\acc.length<=i/\∃accD n,acc.length=accD.length/\Am A n rho sg H (es++(accD++ds)) (ws++(acc++vs))/\W i accD n,
  ⟨items.length,rfl,Nat.zero_le _,zk _,[],n',rfl,I1,w0⟩,?_⟩
 rintro i mm acc H3 ⟨rfl,hi,hai,accD,n3,hal,⟨os,I3⟩,w3⟩;obtain⟨j1,j2⟩:=hJ n3 rho sg H3 (accD++ds) (acc++vs) i ⟨os,I3⟩
 by_cases hlt:i<items.length
 ·refine .inr ⟨(j1 items[i] (by simp [hlt])).1, by lia, λx H4 y => ?_⟩
  obtain⟨os4,I4⟩:=(j1 items[i] (by simp[hlt])).2 x H4 y
  refine⟨replicate m none++rho,n3,_,items[i],es++(accD++ds),ws++(acc++vs),⟨_,I4.front m⟩,turn i items[i] accD n3 (by simp[hlt]) w3,λrho' sg' ⟨os5,I5⟩ e5 k5=>?_⟩
  obtain⟨k5,k6⟩:=k5
  have e6:sg'.drop m=sg:=by rw[e5,yi (by simp)]
  refine⟨e6,rho',n3,_,es++(accD++ds),ws++(acc++vs),⟨os5,I5⟩,k6,λc H6 n6 ⟨os6,I6⟩ k7=>?_⟩
  cases c with
  |false=>
   obtain⟨os7,I7⟩:=I6.back k5 e6
   exact⟨items.length-(i+1),w6,rfl,hlt,w6,accD,n6,hal,⟨os7,I7⟩,k7⟩
  |true=>
   rw[if_pos rfl] at k7 ⊢;refine⟨rho',n6,_,es++(accD++ds),ws++(acc++vs),⟨os6,I6⟩,k7,λv H8 n8 d ⟨os8,I8⟩ k8=>?_⟩;obtain⟨os9,I9⟩:=I8.back k5 e6;obtain⟨I10,rv⟩:=I9.pop;obtain⟨I11,r1⟩:=I10.split hl;obtain⟨I12,r2⟩:=I11.split hal
   refine⟨items.length-(i+1),w6,rfl,hlt,by rw[zE,xE];lia,accD++[d],n8,by simp[hal],⟨os9,(I12.join (r2.append (.cons rv .nil))).join r1⟩,k8⟩
 ·have e : i = items.length := by lia
  subst e;refine .inl ⟨j2 (zk _),zm hai hsz,λD hD=>?_⟩;obtain⟨I4,r1⟩:=I3.split hl;obtain⟨I5,r2⟩:=I4.split hal;exact hQ os n3 _ accD acc D I5 r2 hD (fin accD n3 w3)
def YK{sg:St}{H:Hp}{Q:VK}{m:Nat}(h:tOf A (UX it m g tt te) sg H Q):Qo (iOf A it) m (gOf A m g) (zp3 A tt) (tOf A te) sg H Q:=by
 obtain⟨rho,n,P,ds,vs,I,ht,hQ⟩:=h;exact za8 I ht λos n' H' fs xs p J r hp k=>hQ _ _ n' _ ⟨os,J.newLst r hp⟩ k
def vF(ok:CompOk X scope M)(hc:X.calm=true)(hi:PID A X tg iter it)(hg:∀C s2 H2 fp,PGD A (yq X scope own M C s2 H2 fp) own.length tg g)(ht:∀C s2 H2 fp,PTs (yq X scope own M C s2 H2 fp) ifs (zp3 A tt))
  (he:∀C s2 H2 fp,PD A (yq X scope own M C s2 H2 fp) elt te) (hs:∀x,foldedSetIterable iter X.env x=pure x:=by intro _;rfl):PD A X (.ListComp elt [⟨tg,iter,ifs,0⟩] scope pos) (UX it own.length g tt te):=by
 exists 
   (zI9 ok hc hi hg ht he hs).imp λ_ _ _=>YK
end
structure EndsD where
 nx:Rho->Nat->Prop
 rt:D->Nat->Prop
 bk:Rho->Nat->Prop:=λ_ _=>False
 ct:Rho->Nat->Prop:=λ_ _=>False
abbrev TSD:=EndsD->Rho->Nat->Prop
structure EOk(A:AC)(E:Ends)(F:EndsD)(ds:List D)(vs:List V):Prop where
 nx:∀rho n sg H,Am A n rho sg H ds vs->F.nx rho n->E.nx sg H
 rt:∀d n v rho sg H,Am A n rho sg H (d::ds) (v::vs)->F.rt d n->E.rt v H
 bk:∀rho n sg H,Am A n rho sg H ds vs->F.bk rho n->E.bk sg H
 ct:∀rho n sg H,Am A n rho sg H ds vs->F.ct rho n->E.ct sg H
def sOf(A:AC)(t:TSD):TS:=λE sg H=>∃rho n F ds vs,Am A n rho sg H ds vs/\t F rho n/\EOk A E F ds vs
@[irreducible] def PSD(A:AC)(X:Cx)(s:Stmt)(t:TSD):Prop:=PS X s (sOf A t)
@[irreducible] def Qg(A:AC)(X:Cx)(s:List Stmt)(t:TSD):Prop:=PSs X s (sOf A t)
section
variable {A:AC}{X:Cx}{st:Stmt}{rest:List Stmt}{t u:TSD}{e a b:Expr}{te:TD}{tc:TBD}{pos:Pos}
def zR1:TSD:=λF rho n=>F.nx rho n
def zp4(t u:TSD):TSD:=λF rho n=>t { F with nx:=u F } rho n
def xt:Qg A X [] zR1:=by
 exists zH3.imp λE sg H h=>by
   obtain⟨rho,n,F,ds,vs,I,ht,ok⟩:=h;exact ok.nx _ _ _ _ I ht
def zq(h1:PSD A X st t)(h2:Qg A X rest u):Qg A X (st::rest) (zp4 t u):=by
 exists (JC h1 h2).imp λE sg H h=>by
   obtain⟨rho,n,F,ds,vs,I,ht,ok⟩:=h;exact⟨rho,n,{ F with nx:=u F },ds,vs,I,ht,⟨λrho' n' sg' H' I' k=>⟨rho',n',F,ds,vs,I',k,ok⟩,ok.rt,ok.bk,ok.ct⟩⟩
def zu(h1:PSD A X st t):Qg A X [st] t:=by exists zH2 h1
def xn9(te:TD):TSD:=λF rho n=>te rho n F.rt
def zP(he:PD A X e te):PSD A X (.Return (some e) pos) (xn9 te):=by
 exists (zT3 he).imp λE sg H h=>by
   obtain⟨rho,n,F,ds,vs,I,ht,ok⟩:=h;exact⟨rho,n,_,ds,vs,I,ht,λv H' n' d I' k=>ok.rt _ _ _ _ _ _ I' k⟩
def sIf(c:TBD)(t u:TSD):TSD:=λF rho n=>c rho n λb n1=>if b=true then t F rho n1 else u F rho n1
def wt{c:Expr}{sa sb:List Stmt}(hc:PTD A X c tc)(ha:Qg A X sa t)(hb:Qg A X sb u):PSD A X (.If c sa sb pos) (sIf tc t u):=by
 exists (xl5 hc ha hb).imp λE sg H h=>by
   obtain⟨rho,n,F,ds,vs,I,ht,ok⟩:=h;refine⟨rho,n,_,ds,vs,I,ht,λc H' n' J k=>?_⟩
   cases c with
   |true=>exact⟨rho,n',F,ds,vs,J,k,ok⟩
   |false=>exact⟨rho,n',F,ds,vs,J,k,ok⟩
def zQ9(i:Nat)(te:TD):TSD:=λF rho n=>i<rho.length/\te rho n λd n1=>F.nx (rho.set i (some d)) n1
def xZ{i:Nat}{x:Str}{pos':Pos}(hN:X.N.Nodup)(hi:X.N[i]?=some x)(hx:Loc X.env.scope x)(he:PD A X e te)(hs:swapsWith e (some (.Name x pos')) pos.line X.env=pure false:=by rfl)(hf:X.fn x=true\/X.env.scope.names.lookup x=some .local:=by first |exact .inl rfl |exact .inr rfl |assumption) :
  PSD A X (.Assign [.Name x pos'] e pos) (zQ9 i te):=by
 exists (ze1 hN hi hx he hs hf).imp λE sg H h=>by
   obtain⟨rho,n,F,ds,vs,I,⟨hl,ht⟩,ok⟩:=h;exact⟨rho,n,_,ds,vs,I,ht,λv H' n' d ⟨os,J⟩ k=>ok.nx _ _ _ _ ⟨_,J.set hl⟩ k⟩
def jQ{i:Nat}{x:Str}{pos' spos:Pos}{tg iter elt:Expr}{ifs:List Expr}{scope:Scope}{own M:List Str}{it:TID}{g:TGD}{tt:TBD}(hN:X.N.Nodup)(hix:X.N[i]?=some x)(hx:Loc X.env.scope x)(ok:CompOk X scope M)(hc:X.calm=true)(hi:PID A X tg iter it)
  (hg:∀C s2 H2 fp,PGD A (yq X scope own M C s2 H2 fp) own.length tg g) (ht:∀C s2 H2 fp,PTs (yq X scope own M C s2 H2 fp) ifs (zp3 A tt)) (he:∀C s2 H2 fp,PD A (yq X scope own M C s2 H2 fp) elt te)
  (hsw:swapsWith (.ListComp elt [⟨tg,iter,ifs,0⟩] scope pos) (some (.Name x pos')) spos.line X.env=pure true:=by rfl) (hf:X.fn x=true\/X.env.scope.names.lookup x=some .local:=by first |exact .inl rfl |exact .inr rfl |assumption)
  (hs:∀x,foldedSetIterable iter X.env x=pure x:=by intro _;rfl):PSD A X (.Assign [.Name x pos'] (.ListComp elt [⟨tg,iter,ifs,0⟩] scope pos) spos) (zQ9 i (UX it own.length g tt te)):=by
 exists 
   (Qu hN hix hx ok hc hi hg ht he hsw hf hs).imp λE sg H h => by
    obtain⟨rho,n,F,ds,vs,I,⟨hl,ht⟩,ok⟩:=h;exact YK (A:=A) ⟨rho,n,_,ds,vs,I,ht,λv H' n' d ⟨os,J⟩ k=>ok.nx _ _ _ _ ⟨_,J.set hl⟩ k⟩
def xe8(te:TD)(g:TGD):TSD:=λF rho n=>te rho n λd n1=>g d rho λrho'=>F.nx rho' n1
def qr{tg:Expr}{g:TGD}{m:Nat}(he:PD A X e te)(hg:PGD A X m tg g)(hs:swapsWithSole [tg] e pos.line X.env=pure false:=by rfl)(hw:swappedStores [tg] e X.env=pure none:=by rfl)
  (h1:(assignEach [tg] X.env).map (·.2)=[assign tg X.env]:=by rfl):PSD A X (.Assign [tg] e pos) (xe8 te g):=by
 exists (ze2 he hg hs hw h1).imp λE sg H h=>by
   obtain⟨rho,n,F,ds,vs,I,ht,ok⟩:=h;exact⟨rho,n,_,ds,vs,I,ht,λv H' n' d J k=>⟨rho,n',_,d,ds,vs,J,k,λrho' sg' J' _ k'=>ok.nx _ _ _ _ J' k'⟩⟩
def xe9(i j:Nat)(t:TAD):TSD:=λF rho n=>i<rho.length/\j<rho.length/\t rho n λes n1=>∃d d',es=[d,d']/\F.nx ((rho.set i (some d)).set j (some d')) n1
def zH4{i j:Nat}{x y:Str}{ta:TAD}{px py pt:Pos}{kt k2 pt2}(hc:X.calm=true)(hN:X.N.Nodup)(hi:X.N[i]?=some x)(hj:X.N[j]?=some y)(hij:i≠j)
  (hx:X.env.scope.names.lookup x=some .local) (hy:X.env.scope.names.lookup y=some .local) (ha:PAD A X [a,b] ta)
  (hw:swappedStores [.Tuple [.Name x px,.Name y py] kt pt] (.Tuple [a,b] k2 pt2) X.env=pure (some [x,y]):=by rfl)
  (hs:swapsWithSole [.Tuple [.Name x px,.Name y py] kt pt] (.Tuple [a,b] k2 pt2) pos.line X.env=pure false:=by rfl) :
  PSD A X (.Assign [.Tuple [.Name x px,.Name y py] kt pt] (.Tuple [a,b] k2 pt2) pos) (xe9 i j ta):=by
 exists (zT4 hc hN hi hj hij hx hy ha hw hs).imp λE sg H h=>by
   obtain⟨rho,n,F,ds,vs,I,⟨hl,hl2,ht⟩,ok⟩:=h;refine⟨rho,n,_,ds,vs,I,ht,λws H' n' es ⟨os,J⟩ hlen k=>?_⟩;obtain⟨d,d',rfl,k⟩:=k;obtain⟨J1,rs⟩:=J.split hlen;obtain⟨v,v',rfl,r,r'⟩:=KC rs;refine⟨v,v',rfl,ok.nx _ _ _ _ ?_ k⟩;have J2:AmO A os n' rho sg H' (d::d'::ds) (v::v'::vs):=(J1.push r').push r
   exact⟨_,(J2.set hl).set (by simpa using hl2)⟩
def xo3(it:TID)(g:TGD)(tb:TSD):TSD:=λF rho n=>it rho n λitems n1=>∃J:Nat->Rho->Nat->Prop,J 0 rho n1 /\
 (∀i d rho n,items[i]?=some d->J i rho n->g d rho λrho'=>tb { F with nx:=J (i+1),ct:=J (i+1),bk:=F.nx } rho' n)/\∀rho n,J items.length rho n->F.nx rho n
def ZT{tg iter:Expr}{body:List Stmt}{it:TID}{g:TGD}{tb:TSD}{m:Nat}(hp:PassesOwn (model X.prog X.w) X.A X.env X.xe)(hc:X.calm=true)(hi:PID A X tg iter it)(hg:PGD A X m tg g)(hb:Qg A X body tb)
  (hs:∀x,foldedSetIterable iter X.env x=pure x:=by intro _;rfl):PSD A X (.For tg iter body [] pos) (xo3 it g tb):=by
 exists (zT5 hp hc hi hg hb hs).imp λE sg H h=>by
   obtain⟨rho,n,F,ds,vs,I,ht,ok⟩:=h;refine⟨rho,n,_,ds,vs,I,ht,λJ H' n' items es ws I1 hl hJ k=>?_⟩;obtain⟨W,w0,turn,fin⟩:=k;refine⟨λi mm sg H=>mm=items.length-i/\i<=items.length/\∃rho n,Am A n rho sg H (es++ds) (ws++vs)/\W i rho n,⟨items.length,rfl,Nat.zero_le _,rho,n',I1,w0⟩,?_⟩;rintro i mm sg3 H3 ⟨rfl,hi,rho3,n3,I3,w3⟩;obtain⟨j1,j2⟩:=hJ n3 rho3 sg3 H3 ds vs i I3
   by_cases hlt:i<items.length
   ·refine .inr ⟨(j1 items[i] (by simp [hlt])).1, λsg' H' => ∃ rho n, Am A n rho sg' H' (es ++ ds) (ws ++ vs) /\ W (i + 1) rho n, λsg' H' ⟨rho', n', I', w'⟩ => ⟨items.length - (i + 1), by lia, rfl, hlt, rho', n', I', w'⟩, λx H4 y => ?_⟩
    have I4:=(j1 items[i] (by simp[hlt])).2 x H4 y
    refine⟨rho3,n3,_,items[i],es++ds,ws++vs,I4,turn i items[i] rho3 n3 (by simp[hlt]) w3,λrho' sg' I5 _ k5=>⟨rho',n3,{ F with nx:=W (i+1),ct:=W (i+1),bk:=F.nx },es++ds,ws++vs,I5,k5,?_⟩⟩
    refine⟨λrho6 n6 sg6 H6 I6 k6=>⟨rho6,n6,I6,k6⟩,λd n6 v rho6 sg6 H6 ⟨os6,I6⟩ k6=>ok.rt _ _ _ _ _ _ ⟨os6,I6.under hl⟩ k6,λrho6 n6 sg6 H6 ⟨os6,I6⟩ k6=>ok.nx _ _ _ _ ⟨os6,(I6.split hl).1⟩ k6,λrho6 n6 sg6 H6 I6 k6=>⟨rho6,n6,I6,k6⟩⟩
   ·have e : i = items.length := by lia
    subst e;obtain⟨os,I3⟩:=I3;exact .inl ⟨j2 (zk _),ok.nx _ _ _ _ ⟨os,(I3.split hl).1⟩ (fin rho3 n3 w3)⟩
def AmO.setOwn{os:List (Nat × Addr)}{n:Nat}{rho:Rho}{sg:St}{H:Hp}{ds es:List D}{vs xs:List V}{i:Nat}{p:Addr}(I:AmO A os n rho sg H ds vs)(hi:i<rho.length)(hp:H p=none)(r:Reps A.K A.G (Zof A os) H es xs) :
  ∃os',AmO A os' n (rho.set i (some (.own es))) (sg.set i (some (.ref p))) (upd H p (.lst xs)) ds vs:=by
 have hf:∀a u,H a=some u->upd H p (.lst xs) a=some u:=λa u e=>by rw[xW (wu e hp)];exact e
 refine⟨(i,p)::os.filter λq=>decide (q.1≠i),?_⟩
 have zz:∀a,H a≠none->Zof A ((i,p)::os.filter λq=>decide (q.1≠i)) a->Zof A os a:=λa ha z=>by
  rcases z with z |⟨q,hq,e⟩
  ·exact .inl z
  ·rcases zi.mp hq with rfl | hq
   ·exact absurd (by rw[<- e];exact hp) ha
   ·exact .inr ⟨q,(xf.mp hq).1,e⟩
 have h0:A.H0 p=none:=by
  cases q:A.H0 p with
  |none=>rfl
  |some o=>
   by_cases e:A.G=some p
   ·obtain⟨x,y,z,w,_⟩:=I.st p e;rw[w] at hp;cases hp
   ·have:=I.fr p o e q;rw[this] at hp;cases hp
 refine⟨by simp[I.len],λj c e=>?_,Reps.mono zz (λa u _ e=>hf a u e) _ _ I.pend,?_,λq hq=>?_,λa e=>?_,I.gz,λa u h e=>hf a u (I.fr a u h e),I.z0⟩
 ·by_cases hj : j = i
  ·subst hj;rw[zU hi] at e;cases e
   exact⟨.ref p,zU (by rw[<- I.len];exact hi),p,xs,rfl,xi,wZ,Reps.mono zz (λa u _ e=>hf a u e) _ _ r⟩
  ·rw [zW (Ne.symm hj)] at e;obtain⟨u,e1,e2⟩:=I.slot j c e
   exact⟨u,by rw[zW (Ne.symm hj)];exact e1,SlotR.mono zz (λa u _ e=>hf a u e) (λa ys m q=>⟨zh _ (xf.mpr ⟨m,by simpa using hj⟩),hf a _ q⟩) _ _ e2⟩
 ·refine List.pairwise_cons.mpr ⟨λq hq => ?_, I.nd.filter _⟩;obtain⟨m1,m2⟩:=xf.mp hq
  refine⟨λz=>by simp[<- z] at m2,λz=>(I.fresh q m1).2.2 ?_⟩
  have z':p=q.2:=z;rw[<- z'];exact hp
 ·rcases zi.mp hq with rfl | hq
  ·exact⟨h0,λz=>I.z0 p z h0,by show upd H p _ p≠none;rw[wZ];simp⟩
  ·obtain ⟨f1, f2, f3⟩ := I.fresh q (xf.mp hq).1;refine⟨f1,f2,?_⟩
   cases w:H q.2 with
   |none=>exact absurd w f3
   |some u=>rw[hf _ _ w];simp
 ·obtain⟨x,y,z,q,rr⟩:=I.st a e;exact⟨x,y,z,hf _ _ q,rr⟩
def xf0(i:Nat)(t:TAD):TSD:=λF rho n=>i<rho.length/\t rho n λes n1=>es.length<=sizeLine/\F.nx (rho.set i (some (.own es))) n1
def Ve{i:Nat}{x:Str}{pos' pos2:Pos}{els:List Expr}{ta:TAD}(hN:X.N.Nodup)(hi:X.N[i]?=some x)(hx:Loc X.env.scope x)(ha:PAD A X els ta)(hf:X.fn x=true\/X.env.scope.names.lookup x=some .local:=by first |exact .inl rfl |exact .inr rfl |assumption)
  (hs:swapsWith (.List els pos2) (some (.Name x pos')) pos.line X.env=pure false:=by rfl):PSD A X (.Assign [.Name x pos'] (.List els pos2) pos) (xf0 i ta):=by
 exists (ze1 hN hi hx (ze8 ha) hs hf).imp λE sg H h=>by
   obtain⟨rho,n,F,ds,vs,I,⟨hl,ht⟩,ok⟩:=h
   refine⟨rho,n,_,ds,vs,I,ht,λws H' n' es ⟨os,J⟩ hlen k=>⟨by rw[hlen];exact k.1,λp hp=>?_⟩⟩
   obtain⟨J1,rs⟩:=J.split hlen;exact ok.nx _ _ _ _ (J1.setOwn hl hp rs) k.2
def AmO.own{os:List (Nat × Addr)}{n:Nat}{rho:Rho}{sg:St}{H:Hp}{ds es es':List D}{vs xs':List V}{i:Nat}(I:AmO A os n rho sg H ds vs)(hi:rho[i]?=some (some (.own es))) :
  ∃a xs,sg[i]?=some (some (.ref a))/\H a=some (.lst xs)/\Reps A.K A.G (Zof A os) H es xs/\∀es' xs',Reps A.K A.G (Zof A os) H es' xs'->AmO A os n (rho.set i (some (.own es'))) sg (upd H a (.lst xs')) ds vs:=by
 obtain⟨v,e1,a,xs,rfl,hm,hH,rs⟩:=I.slot i _ hi;have hil:i<rho.length:=(zM.mp hi).1;have za:Zof A os a:=.inr ⟨_,hm,rfl⟩
 have hf:∀(xs':List V) b u,¬ Zof A os b->H b=some u->upd H a (.lst xs') b=some u:=λxs' b u nz e=>by
  rw[xW λz=>nz (by rw[z];exact za)];exact e
 have uniq:∀j,(j,a)∈os->j=i:=λj hj=>by
  by_cases hji:j=i
  ·exact hji
  ·have key : ∀ (l : List (Nat × Addr)), l.Pairwise (λp q => p.1 ≠ q.1 /\ p.2 ≠ q.2) -> (j, a) ∈ l -> (i, a) ∈ l -> False := by
    intro l
    induction l with
    |nil=>intro _ h;simp at h
    |cons c l ih=>
     intro hp h1 h2;obtain⟨p1,p2⟩:=List.pairwise_cons.mp hp
     rcases zi.mp h1 with e1 |h1<;>rcases zi.mp h2 with e2 |h2
     ·rw[<- e2] at e1;exact hji (Prod.mk.inj e1).1
     ·exact(p1 _ h2).2 (by rw[<- e1])
     ·exact(p1 _ h1).2 (by rw[<- e2])
     ·exact ih p2 h1 h2
   exact(key os I.nd hj hm).elim
 obtain⟨fa1,fa2,fa3⟩:=I.fresh _ hm
 refine⟨a,xs,e1,hH,rs,λes' xs' r=>⟨by simp[I.len],λj c e=>?_,Reps.mono (λ_ _ z=>z) (hf xs') _ _ I.pend,I.nd,λq hq=>?_,λb e=>?_,I.gz,λb u h e=>?_,I.z0⟩⟩
 ·by_cases hj : j = i
  ·subst hj;rw[zU hil] at e;cases e;exact⟨.ref a,e1,a,xs',rfl,hm,wZ,Reps.mono (λ_ _ z=>z) (hf xs') _ _ r⟩
  ·rw [zW (Ne.symm hj)] at e;obtain⟨u,e2,e3⟩:=I.slot j c e
   exact⟨u,e2,SlotR.mono (λ_ _ z=>z) (hf xs') (λb ys m q=>⟨m,by rw[xW λz=>hj (uniq j (by rw[<- z];exact m))];exact q⟩) _ _ e3⟩
 ·obtain ⟨f1, f2, f3⟩ := I.fresh q hq;refine⟨f1,f2,?_⟩
  by_cases e:q.2=a
  ·rw[e,wZ];simp
  ·rw[xW e];exact f3
 ·obtain ⟨x, y, z, q, rr⟩ := I.st b e
  exact⟨x,y,z,by rw[xW λw=>fa2 (by rw[<- w];exact I.gz b e)];exact q,rr⟩
 ·rw [xW λw => by rw [w, fa1] at e; cases e]
  exact I.fr b u h e
def AmO.freeze{os:List (Nat × Addr)}{n:Nat}{rho:Rho}{sg:St}{H:Hp}{ds es:List D}{vs:List V}{i:Nat}(I:AmO A os n rho sg H ds vs)(hi:rho[i]?=some (some (.own es))):∃os',AmO A os' n (rho.set i (some (.lst es))) sg H ds vs:=by
 obtain⟨v,e1,a,xs,rfl,hm,hH,rs⟩:=I.slot i _ hi;have hil:i<rho.length:=(zM.mp hi).1;refine⟨os.filter λq=>decide (q.1≠i),?_⟩
 have sub:∀b,H b≠none->Zof A (os.filter λp=>decide (p.1≠i)) b->Zof A os b:=λb _ z=>by
  rcases z with z |⟨p,hp,e⟩
  ·exact .inl z
  ·exact .inr ⟨p,(xf.mp hp).1,e⟩
 have key:∀(l:List (Nat × Addr)),l.Pairwise (λp q=>p.1≠q.1/\p.2≠q.2)->(i,a)∈l->∀q∈l,q.2=a->q.1=i:=by
  intro l
  induction l with
  |nil=>intro _ h;simp at h
  |cons c l ih=>
   intro hp h1 q hq hqa;obtain⟨p1,p2⟩:=List.pairwise_cons.mp hp
   rcases zi.mp h1 with e1 |h1<;>rcases zi.mp hq with e2 |h2
   ·rw[e2,<- e1]
   ·exact absurd (by rw[<- e1,hqa]) (p1 _ h2).2
   ·exact absurd (by rw[<- e2,hqa]) (p1 _ h1).2
   ·exact ih p2 h1 q h2 hqa
 refine⟨by simp[I.len],λj c e=>?_,Reps.mono sub (λ_ _ _ e=>e) _ _ I.pend,I.nd.filter _,λp hp=>I.fresh p (xf.mp hp).1,I.st,I.gz,I.fr,I.z0⟩
 by_cases hj:j=i
 ·subst hj;rw[zU hil] at e;cases e;refine⟨.ref a,e1,Rep.lst_mk ⟨λz=>?_,hH⟩ (Reps.mono sub (λ_ _ _ e=>e) _ _ rs)⟩
  rcases z with z |⟨p,hp,e⟩
  ·exact(I.fresh _ hm).2.1 z
  ·obtain⟨m1,m2⟩:=xf.mp hp;have:=key os I.nd hm p m1 e;simp[this] at m2
 ·rw [zW (Ne.symm hj)] at e;obtain⟨u,e2,e3⟩:=I.slot j c e
  exact⟨u,e2,SlotR.mono sub (λ_ _ _ e=>e) (λb ys m q=>⟨xf.mpr ⟨m,by simpa using hj⟩,q⟩) _ _ e3⟩
def xo2(i:Nat)(t:TSD):TSD:=λF rho n=>∃es,rho[i]?=some (some (.own es))/\t F (rho.set i (some (.lst es))) n
def Vf(i:Nat)(h:PSD A X st t):PSD A X st (xo2 i t):=by
 exists PS.imp h λE sg H q=>by
   obtain⟨rho,n,F,ds,vs,⟨os,I⟩,⟨es,hi,ht⟩,ok⟩:=q;exact⟨_,n,F,ds,vs,I.freeze hi,ht,ok⟩
end
section
variable {A:AC}{X:Cx}{e a b:Expr}{es:List Expr}{te ta tb:TD}{t1:TAD}{pos:Pos}
def zc2(i:Nat)(t:TAD):TSD:=λF rho n=>∃es,rho[i]?=some (some (.own es))/\es.length<sizeLine/\t rho n λds n1=>∃d,ds=[d]/\F.nx (rho.set i (some (.own (es++[d])))) n1
def jm{i:Nat}{x:Str}{px apos cpos:Pos}(ha:PAD A X [e] t1)(hK:X.K=A.K)(hN:X.N[i]?=some x:=by rfl)(hv:Vis X.env.scope x:=by first |exact Or.inl rfl |exact Or.inr (Or.inl rfl) |exact Or.inr (Or.inr rfl))(hd:(x == ("__debug__" : Str))=false:=by decide)
  (hcd:(x == ("__classdict__" : Str))=false:=by decide) (hbase:attributeBase (.Name x px) "append" X.env (eval (.Name x px) X.env)=eval (.Name x px) X.env:=by rfl)
  (hfew : ((backTo cpos (starEach [e] X.env)).all (λx => !x.1) && (backToKw cpos (keywordEach [] X.env)).all (λx => x.1.isSome)
   && decide ([e].length+([]:List Keyword).length+(if ([]:List Keyword).isEmpty then 0 else 1)<30))=true:=by rfl)
  (hline:(apos.endLine == cpos.line)=true:=by rfl) (hs:starEach [e] X.env=(false,eval e X.env)::starEach [] X.env:=by rfl) (hplain:(backTo cpos (starEach [] X.env)).any (·.1)=false:=by rfl)
  (hsw:swapsWith (.Call (.Attribute (.Name x px) "append" apos) [e] [] cpos) none pos.line X.env=pure false:=by rfl) :
  PSD A X (.Expr (.Call (.Attribute (.Name x px) "append" apos) [e] [] cpos) pos) (zc2 i t1):=by
 exists 
   (zH7 (zU6 PySem.F.plainAttrs_list PySem.F.slot_list_append PySem.F.type_list_append zi9 (Xl hN hv hd hcd) ha hbase hfew hline hs hplain) hsw).imp λE sg H h => by
    obtain⟨rho,n,F,ds,vs,⟨os,I⟩,⟨es,hi,hz,ht⟩,ok⟩:=h;obtain⟨a,xs,e1,hH,rs,_⟩:=I.own (es':=es) (xs':=[]) hi;refine⟨.ref a,e1,.inl ⟨rfl,xs,SqL.of hH⟩,rho,n,_,ds,vs,⟨os,I⟩,ht,λws H' n' fs ⟨os',J⟩ hl k=>?_⟩;obtain⟨d,rfl,k⟩:=k;obtain⟨J1,rs1⟩:=J.split hl;obtain⟨v,rfl,r⟩:=Zg rs1;obtain⟨a',xs',e2,hH',rs',up⟩:=J1.own (es':=es) (xs':=[]) hi;rw[e1] at e2;cases e2
    exact⟨a,xs',v,rfl,rfl,hH',by rw[rs'.length];exact hz,ok.nx _ _ _ _ ⟨os',up _ _ (rs'.append (.cons r .nil))⟩ k⟩
def zK0(o:Option (Option D))(p:List D->Prop):Prop:=∃es,o=some (some (.own es))/\p es
def zD3(i:Nat)(tb:TD):TD:=λrho n P=>zK0 rho[i]? λes=>tb rho n λd n1=>∃j c,d=.int j/\atI es j=some c/\P c n1
def zu2{i:Nat}{x:Str}{px:Pos}(hb:PD A X b tb)(hpl:VG b)(hN:X.N[i]?=some x:=by rfl)(hv:Vis X.env.scope x:=by first |exact Or.inl rfl |exact Or.inr (Or.inl rfl) |exact Or.inr (Or.inr rfl))(hd:(x == ("__debug__" : Str))=false:=by decide)
  (hcd:(x == ("__classdict__" : Str))=false:=by decide):PD A X (.Subscript (.Name x px) b pos) (zD3 i tb):=by
 exists 
   (zt6 Vz (Xl hN hv hd hcd) hb hpl).imp λsg H Q h => by
    obtain⟨rho,n,P,ds,vs,⟨os,I⟩,⟨es,hi,ht⟩,hQ⟩:=h;obtain⟨a,xs,e1,hH,rs,_⟩:=I.own (es':=es) (xs':=[]) hi;refine⟨.ref a,e1,rho,n,_,ds,vs,⟨os,I⟩,ht,λv H' n' d ⟨os',J⟩ k=>?_⟩;obtain⟨j,c,rfl,hc,k⟩:=k;obtain⟨J1,r⟩:=J.pop;obtain⟨a',xs',e2,hH',rs',_⟩:=J1.own (es':=es) (xs':=[]) hi;rw[e1] at e2;cases e2;obtain⟨w,e3,rw'⟩:=VD rs' hc;exact⟨a,xs',j,w,rfl,r.int_inv,SqL.of hH',e3,hQ w H' n' c ⟨os',J1.push rw'⟩ k⟩
def zZ3(i:Nat)(tb:TD):TD:=λrho n P=>rho[i]?=some (some .st)/\tb rho n λd n1=>∃j:Int,d=.int j/\0<=j/\j<n1/\∀z:Int,0<=z->(j=1->z<2147483647)->P (.int z) n1
def zC4{n:Nat}{i:Int}(h0:0<=i)(h1:i<n):ixN n i=some i.toNat:=by unfold ixN;rw[if_pos h0,if_pos h1]
def ZV{i:Nat}{x:Str}{px:Pos}(hb:PD A X b tb)(hpl:VG b)(hN:X.N[i]?=some x:=by rfl)(hv:Vis X.env.scope x:=by first |exact Or.inl rfl |exact Or.inr (Or.inl rfl) |exact Or.inr (Or.inr rfl))(hd:(x == ("__debug__" : Str))=false:=by decide)
  (hcd:(x == ("__classdict__" : Str))=false:=by decide):PD A X (.Subscript (.Name x px) b pos) (zZ3 i tb):=by
 exists 
   (zt6 Vz (Xl hN hv hd hcd) hb hpl).imp λsg H Q h => by
    obtain⟨rho,n,P,ds,vs,⟨os,I⟩,⟨hi,ht⟩,hQ⟩:=h;obtain⟨v,e1,e2⟩:=I.slot i _ hi
    obtain⟨a,ha,rfl⟩:∃a,A.G=some a/\v=.ref a:=by
     have e3:=SlotR.rep (d:=.st) rfl e2;unfold Rep at e3;exact e3
    refine⟨.ref a,e1,rho,n,_,ds,vs,⟨os,I⟩,ht,λw H' n' d ⟨os',J⟩ k=>?_⟩;obtain⟨j,rfl,h0,h3,k⟩:=k;obtain⟨J1,r⟩:=J.pop;obtain⟨zs,_,_,hH,p1,p2,p3⟩:=J1.st a ha;obtain⟨jn,rfl⟩:=xF h0
    have hjl:jn<zs.length:=w6
    have ej:zs[jn]?=some zs[jn]:=xD hjl
    refine⟨a,_,(jn:Int),.int zs[jn],rfl,r.int_inv,SqL.of hH,?_,hQ _ H' n' _ ⟨os',J1.push (Rep.ofS (d:=.int zs[jn]) rfl)⟩ (k zs[jn] (p2 _ (getElem_mem hjl)) λe=>p3 _ (by rw[<- ej];congr 1;lia))⟩
    unfold atI
    rw[zC4 w6 (by rw[zj];lia)]
    simp[hjl]
def zw7(zs:List Int)(j:Nat)(z:Int):(zs.map V.int).set j (.int z)=(zs.set j z).map V.int:=by rw[List.map_set]
def AmO.setSt{os:List (Nat × Addr)}{n:Nat}{rho:Rho}{sg:St}{H:Hp}{ds:List D}{vs:List V}{a:Addr}{zs:List Int}(I:AmO A os n rho sg H ds vs)(ha:A.G=some a)(h:zs.length=n/\(∀x∈zs,0<=x)/\∀x,zs[1]?=some x->x<2147483647) :
  AmO A os n rho sg (upd H a (.lst (zs.map V.int))) ds vs:=by
 have za:Zof A os a:=.inl (I.gz a ha)
 have hf:∀b u,¬ Zof A os b->H b=some u->upd H a (.lst (zs.map V.int)) b=some u:=λb u nz e=>by
  rw[xW λw=>nz (by rw[w];exact za)];exact e
 have no:∀p∈os,p.2≠a:=λp hp e=>(I.fresh p hp).2.1 (by rw[e];exact I.gz a ha)
 refine⟨I.len,λj c e=>?_,Reps.mono (λ_ _ w=>w) hf _ _ I.pend,I.nd,λq hq=>?_,λb e=>?_,I.gz,λb u h e=>?_,I.z0⟩
 ·obtain ⟨u, e1, e2⟩ := I.slot j c e
  exact⟨u,e1,SlotR.mono (λ_ _ w=>w) hf (λb ys m q=>⟨m,by rw[xW (no _ m)];exact q⟩) _ _ e2⟩
 ·obtain ⟨f1, f2, f3⟩ := I.fresh q hq
  exact⟨f1,f2,by rw[xW (no q hq)];exact f3⟩
 ·rw[ha] at e;cases e;exact⟨zs,0,0,wZ,h⟩
 ·rw [xW λw => h (by rw [w]; exact ha)]
  exact I.fr b u h e
def zA5(i:Nat)(te tb:TD):TSD:=λF rho n=>rho[i]?=some (some .st)/\te rho n λd n1=>tb rho n1 λd2 n2=>∃j z:Int,d=.int z/\d2=.int j/\0<=j/\j<n2/\0<=z/\(j=1->z<2147483647)/\F.nx rho n2
def Uq{i:Nat}{x:Str}{px ps:Pos}(he:PD A X e te)(hb:PD A X b tb)(hN:X.N[i]?=some x:=by rfl)(hv:Vis X.env.scope x:=by first |exact Or.inl rfl |exact Or.inr (Or.inl rfl) |exact Or.inr (Or.inr rfl))(hd:(x == ("__debug__" : Str))=false:=by decide)
  (hcd : (x == ("__classdict__" : Str)) = false := by decide) (ha : ∀ v, assign (.Subscript (.Name x px) b ps) X.env v = (do
   let ov <- holding [v] (eval (.Name x px) X.env)
   let iv <- holding [v,ov] (eval b X.env)
   standAt ps
   holding [v,ov,iv] (setItem ov iv v)
   release [v,ov,iv] []):=by intro _;rfl) (hs:swapsWithSole [.Subscript (.Name x px) b ps] e pos.line X.env=pure false:=by rfl) (hw:swappedStores [.Subscript (.Name x px) b ps] e X.env=pure none:=by rfl)
  (h1:(assignEach [.Subscript (.Name x px) b ps] X.env).map (·.2)=[assign (.Subscript (.Name x px) b ps) X.env]:=by rfl) :
  PSD A X (.Assign [.Subscript (.Name x px) b ps] e pos) (zA5 i te tb):=by
 exists 
   (ze2 he (zU0 (Xl hN hv hd hcd) hb zr1 ha) hs hw h1).imp λE sg H h => by
    obtain⟨rho,n,F,ds,vs,⟨os,I⟩,⟨hi,ht⟩,ok⟩:=h;obtain⟨v,e1,e2⟩:=I.slot i _ hi
    obtain⟨a,hG,rfl⟩:∃a,A.G=some a/\v=.ref a:=by
     have e3:=SlotR.rep (d:=.st) rfl e2;unfold Rep at e3;exact e3
    refine⟨rho,n,_,ds,vs,⟨os,I⟩,ht,λv H' n' d J k=>⟨.ref a,e1,rho,n',_,d::ds,v::vs,J,k,λw H2 n2 d2 ⟨os2,J2⟩ k2=>?_⟩⟩;obtain⟨j,z,rfl,rfl,h0,h3,hz,h2,k2⟩:=k2;obtain⟨J3,r2⟩:=J2.pop;obtain⟨J4,r1⟩:=J3.pop;obtain⟨zs,_,_,hH,p1,p2,p3⟩:=J4.st a hG;rw[r1.int_inv,r2.int_inv];obtain⟨jn,rfl⟩:=xF h0
    have hjl:jn<zs.length:=w6
    refine⟨a,_,(jn:Int),jn,rfl,rfl,hH,by rw[zC4 w6 (by rw[zj];lia)];simp,?_⟩
    rw[zw7]
    refine ok.nx _ _ _ _ ⟨os2,J4.setSt hG ⟨by rw[List.length_set];exact p1,λx hx=>?_,λx hx=>?_⟩⟩ k2
    ·rcases List.mem_or_eq_of_mem_set hx with hx | rfl
     ·exact p2 x hx
     ·exact hz
    ·by_cases e : jn = 1
     ·subst e;rw[zU hjl] at hx;cases hx;exact h2 rfl
     ·rw[zW e] at hx;exact p3 x hx
def Yx(es:List D)(lo hi:Option Int):List D:=(es.drop (HT.sIx es.length 0 lo)).take (HT.sIx es.length es.length hi-HT.sIx es.length 0 lo)
def xa5(o:Option Int):TO:=λ_ H Q=>Q o H
def zI0:PO X none (xa5 none):=ze5
def zT6{i:Int}{j:Nat}{p:Pos}:PO X (some (.Constant (.int i) j p)) (xa5 (some i)):=λpins s sg H Q I h=>ze4 qV pins s sg H Q I ⟨i,rfl,h⟩
def Zf{K:W.Frag}{G:Option Addr}{Z:Addr->Prop}{H:Hp}{fs:List D}{xs:List V}(h:Reps K G Z H fs xs)(lo hi:Option Int):Reps K G Z H (Yx fs lo hi) (zy5 xs lo hi):=by
 unfold Yx zy5;rw[h.length];exact(h.drop _).take _
def xu0(lo hi:Option Int)(ta:TD):TD:=λrho n P=>ta rho n λd n1=>∃fs,(d=.lst fs\/d=.fz fs)/\P (.lst (Yx fs lo hi)) n1
def zU8{le he:Option Expr}{lo hi:Option Int}{p2:Pos}(hK:X.K=A.K)(ha:PD A X a ta)(hl:PO X le (xa5 lo))(hh:PO X he (xa5 hi)):PD A X (.Subscript a (.Slice le he none p2) pos) (xu0 lo hi ta):=by
 exists (YN zb3 ha hl hh).imp λsg H Q h=>by
   obtain⟨rho,n,P,ds,vs,I,ht,hQ⟩:=h;refine⟨rho,n,_,ds,vs,I,ht,λv H' n' d ⟨os,J⟩ k=>?_⟩;obtain⟨fs,hd,k⟩:=k;obtain⟨J1,r⟩:=J.pop;rw[hK]
   rcases hd with rfl |rfl
   ·obtain⟨l,xs,rfl,sq,rs⟩:=r.lst_inv;exact⟨l,xs,rfl,sq.sq,λp hp=>hQ _ _ n' _ ⟨os,J1.newLst (Zf rs lo hi) hp⟩ k⟩
   ·obtain⟨l,xs,rfl,sq,rs⟩:=r.fz_inv;exact⟨l,xs,rfl,sq,λp hp=>hQ _ _ n' _ ⟨os,J1.newLst (Zf rs lo hi) hp⟩ k⟩
end
abbrev TF:=List D->Nat->(D->Nat->Prop)->Prop
def spD(K:W.Frag)(k:Nat)(t:TF):Sp:=λvs H Q _=>∃(G:Option Addr) (Z:Addr->Prop) (n:Nat) (P:D->Nat->Prop) (ds:List D),ds.length=k/\Reps K G Z H ds vs/\zz4 G n H/\(∀a,G=some a->Z a)/\(∀a,Z a->H a≠none)/\t ds n P /\
 ∀v H' n' d,(∀a o,G≠some a->H a=some o->H' a=some o)->zz4 G n' H'->Rep K G Z H' d v->P d n'->Q v H'
def xj(N:List Str)(ds:List D):Rho:=ds.map some++replicate (N.length-ds.length) none
def XU{K:W.Frag}{G:Option Addr}{Z:Addr->Prop}{H:Hp}{N:List Str}{ds:List D}{vs:List V}{n:Nat}(rs:Reps K G Z H ds vs)(st:zz4 G n H)(gz:∀a,G=some a->Z a)(z0:∀a,Z a->H a≠none) :
  AmO ⟨K,G,Z,H⟩ [] n (xj N ds) (YZ N vs) H [] []:=by
 have hl:=rs.length
 have zz:∀a,Zof ⟨K,G,Z,H⟩ [] a->Z a:=λa z=>by
  rcases z with z |⟨p,hp,_⟩
  ·exact z
  ·simp at hp
 have rs':Reps K G (Zof ⟨K,G,Z,H⟩ []) H ds vs:=Reps.mono (λa _ z=>zz a z) (λ_ _ _ e=>e) _ _ rs
 refine⟨by simp[xj,YZ,hl],λi d e=>?_,.nil,.nil,λp hp=>by simp at hp,st,gz,λa o _ e=>e,z0⟩
 unfold xj at e
 by_cases hi:i<ds.length
 ·rw [xu (by simpa using hi), xn] at e
  cases q:ds[i]? with
  |none=>rw[q] at e;cases e
  |some c=>
   rw[q] at e;cases e;obtain⟨v,e1,r⟩:=rs'.get q;refine⟨v,?_,SlotR.of r⟩;unfold YZ
   rw[xu (by rw[zj,hl];exact hi),xn,e1]
   rfl
 ·rw [xp (by simpa using hi), xr] at e
  split at e<;>cases e
section
variable {P:Program}{w:World}{K:W.Frag}{mg:Str->Option Value}{base:Heap}
def Fun.okD{x qual:Str}{st:Stmt}{f:Addr}{fd:FuncData}{N ps:List Str}{k:Nat}{t:TF}{tb:TSD}(F:Fun K x qual st f fd)(S:FnScope N ps (zL st))
  (body : ∀ (cdv : Value) (A0 : Around) (outer : List Env) (s : Shared) (H : Hp) (E : XK) (G : Option Addr) (Z : Addr -> Prop), Room k (A0.deeper (envOfC qual (zL st) s.heap.objs.size f cdv)) ->
   Qg ⟨K,G,Z,H⟩ (Jh CX0 P w K mg base N qual (zL st) f cdv A0 outer s H E).nox (vT st) tb)
  (spec:∀ds n Q,ds.length=ps.length->t ds n Q->tb { nx:=λ_ n=>Q .non n,rt:=Q } (xj N ds) n):FnOk P w K mg base CX0 (k+1) f fd ps (spD K ps.length t):=by
 exists (by
   refine F.ok S (λvs H Q E h=>?_) (λcdv A0 outer s H vs Q E hr h=>?_)
   ·obtain⟨G,Z,n,R,ds,hl,rs,_⟩:=h;rw[rs.length];exact hl
   ·obtain ⟨G, Z, n, R, ds, hl, rs, hst, gz, z0, ht, hQ⟩ := h;refine⟨_,body cdv A0 outer s H E G Z hr,xj N ds,n,_,[],[],⟨[],XU rs hst gz z0⟩,spec ds n R hl ht,?_⟩;have zz:∀ (os:List (Nat × Addr)) a,Z a->Zof ⟨K,G,Z,H⟩ os a:=λos a z=>.inl z;refine⟨λrho' n' sg' H' ⟨os,I⟩ q=>?_,λd n' v rho' sg' H' ⟨os,I⟩ q=>?_,λ_ _ _ _ _ q=>q.elim,λ_ _ _ _ _ q=>q.elim⟩
    ·exact hQ .non H' n' .non I.fr I.st (Rep.ofS rfl) q
    ·exact hQ v H' n' d I.fr I.st (Rep.mono (λa _ z=>zz os a z) (λ_ _ _ e=>e) _ _ I.pop.2) q)
end
section
variable {A:AC}{X:Cx}{e:Expr}{es:List Expr}{t1:TAD}{pos p:Pos}
def dFn(k:Nat)(t:TF)(t1:TAD):TD:=λrho n P=>t1 rho n λes n1=>es.length=k/\t es n1 P
def AmO.called{os:List (Nat × Addr)}{n n':Nat}{rho:Rho}{sg:St}{H H':Hp}{ds:List D}{vs:List V}(I:AmO A os n rho sg H ds vs)(fr:∀a o,A.G≠some a->H a=some o->H' a=some o)(st:zz4 A.G n' H'):AmO A os n' rho sg H' ds vs:=by
 have hf:∀b u,¬ Zof A os b->H b=some u->H' b=some u:=λb u nz e=>fr b u (λz=>nz (.inl (I.gz b z))) e;have no:∀p∈os,A.G≠some p.2:=λp hp e=>(I.fresh p hp).2.1 (I.gz _ e);refine⟨I.len,λj c e=>?_,Reps.mono (λ_ _ w=>w) hf _ _ I.pend,I.nd,λq hq=>?_,st,I.gz,λb u h e=>fr b u h (I.fr b u h e),I.z0⟩
 ·obtain⟨u,e1,e2⟩:=I.slot j c e;exact⟨u,e1,SlotR.mono (λ_ _ w=>w) hf (λb ys m q=>⟨m,fr _ _ (no _ m) q⟩) _ _ e2⟩
 ·obtain ⟨f1, f2, f3⟩ := I.fresh q hq;refine⟨f1,f2,?_⟩
  cases z:H q.2 with
  |none=>exact absurd z f3
  |some u=>rw[fr _ _ (no q hq) z];simp
def zJ7{x:Str}{f:Addr}{fd:FuncData}{ps:List Str}{t:TF}{kk k:Nat}(F:FnOk X.prog X.w X.K X.mg X.base CX0 kk f fd ps (spD X.K k t))(hr:Room kk X.A)(hm:X.mg x=some (.ref f))(hk:W.keepIn X.K (.ref f)=true)(hb:Binds X.K fd ps [])(hK:X.K=A.K)
  (ha:PAD A X (e::es) t1) (hg:Gl X x:=by rfl) (hdb:(x == ("__debug__" : Str))=false:=by decide) (he:starEach (e::es) X.env=(false,eval e X.env)::starEach es X.env:=by rfl) (hpl:(backTo pos (starEach es X.env)).any (·.1)=false:=by rfl) :
  PD A X (.Call (.Name x p) (e::es) [] pos) (dFn k t t1):=by
 exists (KG F hr hg hm hk hb .nil zg0 ha hdb he hpl).imp λsg H Q h=>by
   obtain⟨rho,n,R,ds,vs,I,ht,hQ⟩:=h;refine⟨rho,n,_,ds,vs,I,ht,λws H' n' es' ⟨os,J⟩ hl k=>?_⟩;obtain⟨J1,rs⟩:=J.split hl;rw[xv,hK];refine⟨A.G,Zof A os,n',R,es',k.1,rs,J1.st,λa z=>.inl (J1.gz a z),J1.zH,k.2,λv H2 n2 d fr st r q=>hQ v H2 n2 d ⟨os,(J1.called fr st).push r⟩ q⟩
end
section
variable {A:AC}{X:Cx}{tg a:Expr}{ta:TD}{pos p:Pos}
def xm3(K:W.Frag)(tl:TE):TI:=λsg H R=>tl sg H λx H1=>∃l,x=.ref l/\(((∃xs,SqL K H1 l xs)/\R (Itl K l) H1)\/((∃xs,SqT K H1 l xs)/\R (Itt K l) H1))
def zI1{l:Expr}{tl:TE}(hl:PE X l tl):PI X tg l (xm3 X.K tl):=by
 intro pins s sg H R I h;refine thn (hl pins s sg H _ I h) λv s1 ⟨x,H1,I1,r1,q1⟩=>?_;obtain⟨c,e,q1⟩:=q1;subst e;cases r1
 have new:∀b∈[s1.heap.objs.size],Km X pins H1 b:=λb hb=>by
  obtain rfl:b=s1.heap.objs.size:=by simpa using hb
  exact I1.fpOk (zk _) (I1.hok.fresh (zk _))
 rcases q1 with ⟨⟨xs,hq⟩,q⟩ |⟨⟨xs,hq⟩,q⟩
 ·obtain⟨its,rv,pl,hz⟩:=I1.list hq;exact wpAny_pyIter_list pl.isList ⟨s1.heap.objs.size,[s1.heap.objs.size],_,_,H1,rfl,I1.kept (t':=s1.toks) λb o e=>zg _ e,za1 c _,⟨_,zw _ rfl,rfl,rfl⟩,new,q⟩
 ·obtain⟨its,rv,pl,hz⟩:=I1.tuple hq;exact wpAny_pyIter_tuple (show s1.heap.IsTuple c its.toArray from pl) ⟨s1.heap.objs.size,[s1.heap.objs.size],_,_,H1,rfl,I1.kept (t':=s1.toks) λb o e=>zg _ e,Qj c _,⟨_,zw _ rfl,rfl,rfl⟩,new,q⟩
def zY2(ta:TD):TID:=λrho n P=>ta rho n λd n1=>∃es,(d=.lst es\/d=.tup es)/\P es n1
def vc(hK:X.K=A.K)(ha:PD A X a ta):PID A X tg a (zY2 ta):=by
 exists (zI1 ha).imp λsg H R h=>by
   obtain⟨rho,n,P,ds,vs,I,ht,hQ⟩:=h;refine⟨rho,n,_,ds,vs,I,ht,λv H' n' d ⟨os,J⟩ k=>?_⟩;obtain⟨es,hd,k⟩:=k;have r:=J.pop.2;rw[hK]
   rcases hd with rfl |rfl
   ·obtain ⟨l, xs, rfl, sq, rs⟩ := r.lst_inv;refine⟨l,rfl,.inl ⟨⟨xs,sq.sq⟩,hQ _ H' n' es [.lst es] [.ref l] ⟨os,J⟩ rfl (λn2 rho2 sg2 H2 ds2 vs2 i ⟨os2,I2⟩=>?_) k⟩⟩;obtain⟨I3,r2⟩:=AmO.pop (d:=.lst es) (v:=.ref l) (ds:=ds2) (vs:=vs2) I2;obtain⟨l',xs2,e,sq2,rs2⟩:=r2.lst_inv;cases e
    refine⟨λd e=>?_,λhi=>⟨xs2,sq2.sq,by rw[rs2.length];exact hi⟩⟩
    obtain⟨v,e1,rv⟩:=rs2.get e;refine⟨⟨xs2,v,sq2.sq,e1⟩,λx H3 y=>?_⟩;obtain⟨e3,y⟩:=y;subst e3;have e4:=y xs2 sq2.sq;rw[e1] at e4;cases e4;exact⟨os2,I2.push rv⟩
   ·obtain ⟨l, xs, rfl, sq, rs⟩ := r.tup_inv;refine⟨l,rfl,.inr ⟨⟨xs,sq.sq⟩,hQ _ H' n' es [.tup es] [.ref l] ⟨os,J⟩ rfl (λn2 rho2 sg2 H2 ds2 vs2 i ⟨os2,I2⟩=>?_) k⟩⟩;obtain⟨I3,r2⟩:=AmO.pop (d:=.tup es) (v:=.ref l) (ds:=ds2) (vs:=vs2) I2;obtain⟨l',xs2,e,sq2,rs2⟩:=r2.tup_inv;cases e
    refine⟨λd e=>?_,λhi=>⟨xs2,sq2.sq,by rw[rs2.length];exact hi⟩⟩
    obtain⟨v,e1,rv⟩:=rs2.get e;refine⟨⟨xs2,v,sq2.sq,e1⟩,λx H3 y=>?_⟩;obtain⟨e3,y⟩:=y;subst e3;have e4:=y xs2 sq2.sq;rw[e1] at e4;cases e4;exact⟨os2,I2.push rv⟩
end
structure Fn(P:Program)(w:World)(K:W.Frag)(mg:Str->Option Value)(base:Heap)(x:Str)(kk k:Nat)(t:TF):Prop where
 ex:∃(f:Addr) (fd:FuncData) (ps:List Str),FnOk P w K mg base CX0 kk f fd ps (spD K k t)/\mg x=some (.ref f)/\W.keepIn K (.ref f)=true/\Binds K fd ps []
def xX{A:AC}{X:Cx}{e:Expr}{es:List Expr}{t1:TAD}{pos p:Pos}{x:Str}{t:TF}{kk k:Nat}(F:Fn X.prog X.w X.K X.mg X.base x kk k t)(hr:Room kk X.A)(hK:X.K=A.K)
  (ha:PAD A X (e::es) t1) (hg:Gl X x:=by rfl) (hdb:(x == ("__debug__" : Str))=false:=by decide) (he:starEach (e::es) X.env=(false,eval e X.env)::starEach es X.env:=by rfl) (hpl:(backTo pos (starEach es X.env)).any (·.1)=false:=by rfl) :
  PD A X (.Call (.Name x p) (e::es) [] pos) (dFn k t t1):=by
 exists (by
   obtain⟨f,fd,ps,h1,h2,h3,h4⟩:=F.ex
   exact zJ7 h1 hr h2 h3 h4 hK ha hg hdb he hpl)
structure Blt(mg:Str->Option Value):Prop where
 len:mg "len" = none
 abs:mg "abs" = none
 all:mg "all" = none
 any:mg "any" = none
 isi:mg "isinstance" = none
 int:mg "int" = none
 bool:mg "bool" = none
 str:mg "str" = none
 tuple:mg "tuple" = none
 list:mg "list" = none
 range:mg "range" = none
 zip:mg "zip" = none
 enum:mg "enumerate" = none
 max:mg "max" = none
 min:mg "min" = none
 sorted:mg "sorted" = none
def kr:bootBuiltins "len" = some (.builtin "len"):=x5
def zZ8:bootBuiltins "abs" = some (.builtin "abs"):=x5
def XS:bootBuiltins "all" = some (.builtin "all"):=x5
def vj:bootBuiltins "isinstance" = some (.builtin "isinstance"):=x5
def jC:bootBuiltins "int" = some (.type "int"):=x5
def Yg:bootBuiltins "bool" = some (.type "bool"):=x5
def XR:bootBuiltins "str" = some (.type "str"):=x5
def va:bootBuiltins "tuple" = some (.type "tuple"):=x5
def isB(d:D)(p:Bool->Prop):Prop:=∃c,d=.bl c/\p c
@[simp] theorem xy2{b:Bool}{p:Bool->Prop}:isB (.bl b) p↔p b:=⟨fun⟨_,e,h⟩=>by cases e;exact h,λh=>⟨_,rfl,h⟩⟩
@[simp] theorem xg8{F rho n}:zR1 F rho n=F.nx rho n:=rfl
@[simp] theorem xp3{t u F rho n}:zp4 t u F rho n=t { F with nx:=u F } rho n:=rfl
@[simp] theorem xp4{te F rho n}:xn9 te F rho n=te rho n F.rt:=rfl
@[simp] theorem xx0{c t u F rho n}:sIf c t u F rho n=c rho n λb n1=>if b=true then t F rho n1 else u F rho n1:=rfl
@[simp] theorem xp2{i te F rho n}:zQ9 i te F rho n=(i<rho.length/\te rho n λd n1=>F.nx (rho.set i (some d)) n1):=rfl
@[simp] theorem xp1{te g F rho n}:xe8 te g F rho n=te rho n λd n1=>g d rho λrho'=>F.nx rho' n1:=rfl
@[simp] theorem xp6{i t F rho n}:xf0 i t F rho n=(i<rho.length/\t rho n λes n1=>es.length<=sizeLine/\F.nx (rho.set i (some (.own es))) n1):=rfl
@[simp] theorem xp7{i t F rho n}:xo2 i t F rho n=∃es,rho[i]?=some (some (.own es))/\t F (rho.set i (some (.lst es))) n:=rfl
@[simp] theorem zS4{i t F rho n}:zc2 i t F rho n=∃es,rho[i]?=some (some (.own es))/\es.length<sizeLine/\t rho n λds n1=>∃d,ds=[d]/\F.nx (rho.set i (some (.own (es++[d])))) n1:=rfl
@[simp] theorem xc3{i d rho P}:zl3 i d rho P=(i<rho.length/\P (rho.set i (some d))):=rfl
@[simp] theorem xq5{i rho n P}:xt5 i rho n P=atV rho[i]? λd=>P d n:=rfl
@[simp] theorem xz4{d k}:atV (some (some d)) k=atD d k:=rfl
@[simp] theorem xs9{k}:atD .non k=k .non:=rfl
@[simp] theorem xs8{k b}:atD (.bl b) k=k (.bl b):=rfl
@[simp] theorem xs7{k b}:atD (.int b) k=k (.int b):=rfl
@[simp] theorem xs6{k b}:atD (.str b) k=k (.str b):=rfl
@[simp] theorem xs5{k b}:atD (.tup b) k=k (.tup b):=rfl
@[simp] theorem xs4{k b}:atD (.lst b) k=k (.lst b):=rfl
@[simp] theorem xs3{k b}:atD (.fz b) k=k (.fz b):=rfl
@[simp] theorem xs1{k}:atD .st k=k .st:=rfl
@[simp] theorem xr9{k a b}:atD (.dct a b) k=k (.dct a b):=rfl
@[simp] theorem xz5{d k}(h:xR d=true):atD d k=k d:=propext ⟨λz=>(zo9 z).2,jd h⟩
@[simp] theorem xC0{d rho n P}:dC d rho n P=P d n:=rfl
@[simp] theorem xy9{rd ta tb rho n P}:dOp rd ta tb rho n P=ta rho n λd1 n1=>tb rho n1 λd2 n2=>rd d1 d2 λd=>P d n2:=rfl
@[simp] theorem xk6{t rho n P}:zm9 t rho n P=t rho n λd n'=>isB d λb=>P b n':=rfl
@[simp] theorem xh7{d1 d2 k}:zR8 d1 d2 k=(d2=.non/\k (.bl (yt d1))):=rfl
@[simp] theorem xb2{d1 d2 k}:zB1 d1 d2 k=(d2=.non/\k (.bl (!yt d1))):=rfl
@[simp] theorem xr8{t u rho n P}:xu6 t u rho n P=t rho n λc n1=>if c=true then u rho n1 P else P false n1:=rfl
@[simp] theorem xz3{t u rho n P}:bOr t u rho n P=t rho n λc n1=>if c=true then P true n1 else u rho n1 P:=rfl
@[simp] theorem xr7{t rho n P}:xu5 t rho n P=t rho n λc n1=>P (!c) n1:=rfl
@[simp] theorem xr6{rho n P}:zP5 rho n P=P true n:=rfl
@[simp] theorem xr5{ta tb rho n P}:xu4 ta tb rho n P=ta rho n λd n1=>isB d λc=>if c=true then tb rho n1 P else P (.bl false) n1:=rfl
@[simp] theorem xr1{ta rho n P}:xu1 ta rho n P=ta rho n λd n1=>isB d λc=>P (.bl (!c)) n1:=rfl
@[simp] theorem xz1{t ta tb rho n P}:dIf t ta tb rho n P=t rho n λc n1=>if c=true then ta rho n1 P else tb rho n1 P:=rfl
@[simp] theorem xt0{rho n P}:xn2 rho n P=P [] n:=rfl
@[simp] theorem xl1{t r rho n P}:xa1 t r rho n P=t rho n λd n1=>r rho n1 λds n2=>P (d::ds) n2:=rfl
@[simp] theorem xq6{t rho n P}:xt6 t rho n P=t rho n λds n1=>ds.length<=sizeLine/\P (.tup ds) n1:=rfl
@[simp] theorem xr2{t rho n P}:xm9 t rho n P=t rho n λds n1=>ds.length<=sizeLine/\P (.lst ds) n1:=rfl
@[simp] theorem xl0{rd t rho n P}:zy4 rd t rho n P=t rho n λes n1=>rd es λd=>P d n1:=rfl
@[simp] theorem xz2{k t t1 rho n P}:dFn k t t1 rho n P=t1 rho n λes n1=>es.length=k/\t es n1 P:=rfl
@[simp] theorem xk1{ta rho n P}:zY2 ta rho n P=ta rho n λd n1=>∃es,(d=.lst es\/d=.tup es)/\P es n1:=rfl
@[simp] theorem xk2{t rho n P}:zY3 t rho n P=t rho n λes n1=>∃j:Int,es=[.int j]/\-(2^62)<=j/\j<2^62/\P (zr6 0 j.toNat) n1:=rfl
@[simp] theorem xr0{lo hi ta rho n P}:xu0 lo hi ta rho n P=ta rho n λd n1=>∃fs,(d=.lst fs\/d=.fz fs)/\P (.lst (Yx fs lo hi)) n1:=rfl
@[simp] theorem xk4{rho P}:zY5 [] rho P↔P rho:=⟨λh=>h.2,λh=>⟨rfl,h⟩⟩
@[simp] theorem xc4{g gs d r rho P}:zC5 g gs (d::r) rho P↔g d rho λrho'=>gs r rho' P:=⟨fun⟨_,_,e,h⟩=>by cases e;exact h,λh=>⟨_,_,rfl,h⟩⟩
@[simp] theorem xk3{k gs es rho P}:zY4 k gs (.tup es) rho P↔(es.length=k/\gs es rho P):=⟨fun⟨_,e,h⟩=>by cases e;exact h,λh=>⟨_,rfl,h⟩⟩
@[simp] theorem xx1{C g i j k}:rdI C g (.int i) (.int j) k=(C i j/\k (g i j)):=rfl
@[simp] theorem xp9{g i j k}:zs5 g (.int i) (.int j) k=k (g i j):=rfl
@[simp] theorem xh5{es i k}:Kk (.lst es) (.int i) k↔∃d,atI es i=some d/\k d:=⟨fun⟨_,_,d,e,e',h⟩=>by cases e' ;rcases e with e |e |e<;>cases e;exact⟨d,h⟩,fun⟨d,h⟩=>⟨_,_,d,.inl rfl,rfl,h⟩⟩
@[simp] theorem xh3{es i k}:Kk (.tup es) (.int i) k↔∃d,atI es i=some d/\k d:=⟨fun⟨_,_,d,e,e',h⟩=>by cases e' ;rcases e with e |e |e<;>cases e;exact⟨d,h⟩,fun⟨d,h⟩=>⟨_,_,d,.inr (.inl rfl),rfl,h⟩⟩
@[simp] theorem xh6{es i k}:Kk (.fz es) (.int i) k↔∃d,atI es i=some d/\k d:=⟨fun⟨_,_,d,e,e',h⟩=>by cases e' ;rcases e with e |e |e<;>cases e;exact⟨d,h⟩,fun⟨d,h⟩=>⟨_,_,d,.inr (.inr rfl),rfl,h⟩⟩
@[simp] theorem xi6{es fs k}:zS2 (.lst es) (.lst fs) k↔(es.length+fs.length<=sizeLine/\k (.lst (es++fs))):=⟨fun⟨_,_,e,e',h⟩=>by cases e;cases e';exact h,λh=>⟨_,_,rfl,rfl,h⟩⟩
def zV1(es:List D)(p:D->D->Prop):Prop:=∃d d',es=[d,d']/\p d d'
@[simp] theorem xi7{a b p}:zV1 [a,b] p↔p a b:=⟨fun⟨_,_,e,h⟩=>by cases e;exact h,λh=>⟨_,_,rfl,h⟩⟩
@[simp] theorem xp5{i j t F rho n}:xe9 i j t F rho n=(i<rho.length/\j<rho.length/\t rho n λes n1=>zV1 es λd d'=>F.nx ((rho.set i (some d)).set j (some d')) n1):=rfl
@[simp] theorem xi0{i j:Int}{k}:zG5 (.int i) (.int j) k↔k (.bl (decide (i=j))):=by
 have e:decide (ofS (.int i)=ofS (.int j))=decide (i=j):=by simp[ofS]
 unfold zG5;rw[e];exact⟨λh=>h.2.2.2,λh=>⟨rfl,rfl,rfl,h⟩⟩
@[simp] theorem xi1{i j:Bool}{k}:zG5 (.bl i) (.bl j) k↔k (.bl (decide (i=j))):=by
 have e:decide (ofS (.bl i)=ofS (.bl j))=decide (i=j):=by simp[ofS]
 unfold zG5;rw[e];exact⟨λh=>h.2.2.2,λh=>⟨rfl,rfl,rfl,h⟩⟩
@[simp] theorem xh1{i j:Int}{k}:zG3 (.int i) (.int j) k↔k (.bl (!decide (i=j))):=by
 have e:decide (ofS (.int i)=ofS (.int j))=decide (i=j):=by simp[ofS]
 unfold zG3;rw[e];exact⟨λh=>h.2.2.2,λh=>⟨rfl,rfl,rfl,h⟩⟩
@[simp] theorem xh2{i j:Bool}{k}:zG3 (.bl i) (.bl j) k↔k (.bl (!decide (i=j))):=by
 have e:decide (ofS (.bl i)=ofS (.bl j))=decide (i=j):=by simp[ofS]
 unfold zG3;rw[e];exact⟨λh=>h.2.2.2,λh=>⟨rfl,rfl,rfl,h⟩⟩
@[simp] theorem zd3{fs k}:zC3 [.lst fs] k↔k (.int fs.length):=⟨fun⟨_,e,h⟩=>by rcases e with e |e |e<;>cases e;exact h,λh=>⟨_,.inl rfl,h⟩⟩
@[simp] theorem zd2{fs k}:zC3 [.tup fs] k↔k (.int fs.length):=⟨fun⟨_,e,h⟩=>by rcases e with e |e |e<;>cases e;exact h,λh=>⟨_,.inr (.inl rfl),h⟩⟩
@[simp] theorem xj6{fs k}:zC3 [.fz fs] k↔k (.int fs.length):=⟨fun⟨_,e,h⟩=>by rcases e with e |e |e<;>cases e;exact h,λh=>⟨_,.inr (.inr rfl),h⟩⟩
@[simp] theorem xq1{i k}:xt4 [.int i] k↔k (.int (if i<0 then -i else i)):=⟨fun⟨_,e,h⟩=>by cases e;exact h,λh=>⟨_,rfl,h⟩⟩
@[simp] theorem xj7{i k}:zX5 [.bl i] k↔k (.int (if i then 1 else 0)):=⟨fun⟨_,e,h⟩=>by cases e;exact h,λh=>⟨_,rfl,h⟩⟩
@[simp] theorem Zh{fs k}:zj9 [.lst fs] k↔k (.tup fs):=⟨fun⟨_,e,h⟩=>by rcases e with e |e<;>cases e;exact h,λh=>⟨_,.inl rfl,h⟩⟩
@[simp] theorem zS5{fs k}:zj9 [.tup fs] k↔k (.tup fs):=⟨fun⟨_,e,h⟩=>by rcases e with e |e<;>cases e;exact h,λh=>⟨_,.inr rfl,h⟩⟩
@[simp] theorem xk7{i tb rho n P}:zZ3 i tb rho n P=(rho[i]?=some (some .st)/\tb rho n λd n1=>∃j:Int,d=.int j/\0<=j/\j<n1/\∀z:Int,0<=z->(j=1->z<2147483647)->P (.int z) n1):=rfl
@[simp] theorem xb1{i te tb F rho n}:zA5 i te tb F rho n=(rho[i]?=some (some .st)/\te rho n λd n1=>tb rho n1 λd2 n2=>∃j z:Int,d=.int z/\d2=.int j/\0<=j/\j<n2/\0<=z/\(j=1->z<2147483647)/\F.nx rho n2):=rfl
@[simp] theorem xy1:xR .non=true:=rfl
@[simp] theorem xx9{b}:xR (.bl b)=true:=rfl
@[simp] theorem xx8{b}:xR (.int b)=true:=rfl
@[simp] theorem xx7{b}:xR (.str b)=true:=rfl
@[simp] theorem xx6{b}:xR (.tup b)=true:=rfl
@[simp] theorem xx5{b}:xR (.lst b)=true:=rfl
@[simp] theorem xx4:xR .st=true:=rfl
@[simp] theorem xx3{b}:xR (.fz b)=true:=rfl
@[simp] theorem xy8:yt .non=true:=rfl
@[simp] theorem xy7{b}:yt (.bl b)=false:=rfl
@[simp] theorem xy6{b}:yt (.int b)=false:=rfl
@[simp] theorem xy5{b}:yt (.str b)=false:=rfl
@[simp] theorem xy4{b}:yt (.tup b)=false:=rfl
@[simp] theorem xy3{b}:yt (.lst b)=false:=rfl
@[simp] theorem xw9{b}:Xb (.lst b)=some (true,b):=rfl
@[simp] theorem xw8{b}:Xb (.tup b)=some (false,b):=rfl
@[simp] theorem xg5:(0<=sizeLine)=True:=by simp
@[simp] theorem xg4:(1<=sizeLine)=True:=by simp[sizeLine]
@[simp] theorem xg3:(2<=sizeLine)=True:=by simp[sizeLine]
@[simp] theorem xg2:(3<=sizeLine)=True:=by simp[sizeLine]
@[simp] theorem xg1:(4<=sizeLine)=True:=by simp[sizeLine]
@[simp] theorem xg0:(5<=sizeLine)=True:=by simp[sizeLine]
@[simp] theorem xf9:(6<=sizeLine)=True:=by simp[sizeLine]
@[simp] theorem xf8:(7<=sizeLine)=True:=by simp[sizeLine]
def yA{k:Nat}(h:k<=1000:=by decide):k<=sizeLine:=zm h w9
def lt_size{k:Nat}(h:k<=1000:=by decide):k<sizeLine:=wY h w9
def JZ(own:Nat)(g:TGD)(tt:TBD)(te:TD)(rho:Rho)(P:D->Nat->Prop)(items:List D)(n1:Nat):Prop:=items.length<=sizeLine/\∃J:Nat->List D->Nat->Prop,J 0 [] n1 /\
 (∀i d acc n,items[i]?=some d->J i acc n->g d (replicate own none++rho) λrho'=>rho'.drop own=rho/\tt rho' n λc n2=>if c=true then te rho' n2 λe n3=>J (i+1) (acc++[e]) n3 else J (i+1) acc n2) /\
 ∀acc n,J items.length acc n->P (.lst acc) n
@[simp] theorem xk9{it own g tt te rho n P}:UX it own g tt te rho n P=it rho n (JZ own g tt te rho P):=rfl
def zC2(g:TGD)(tb:TSD)(F:EndsD)(rho:Rho)(items:List D)(n1:Nat):Prop:=∃J:Nat->Rho->Nat->Prop,J 0 rho n1 /\
 (∀i d rho n,items[i]?=some d->J i rho n->g d rho λrho'=>tb { F with nx:=J (i+1),ct:=J (i+1),bk:=F.nx } rho' n)/\∀rho n,J items.length rho n->F.nx rho n
@[simp] theorem xp8{it g tb F rho n}:xo3 it g tb F rho n=it rho n (zC2 g tb F rho):=rfl
def zy6{it:TID}{own:Nat}{g:TGD}{te:TD}{rho:Rho}{n:Nat}{P:D->Nat->Prop}{α:Type}(enc:α->D)(f:α->D)(xs:List α)
  (hi:∀R,R (xs.map enc) n->it rho n R) (hz:xs.length<=sizeLine) (he:∀x∈xs,∀Q,Q (f x) n->g (enc x) (replicate own none++rho) λrho'=>rho'.drop own=rho/\te rho' n Q) (hP:P (.lst (xs.map f)) n):UX it own g zP5 te rho n P:=by
 refine hi _ ⟨by simpa using hz,λi acc n'=>n'=n/\acc=(xs.take i).map f,⟨rfl,rfl⟩,?_,?_⟩
 ·rintro i d acc n' e ⟨rfl, rfl⟩;rw[xn] at e
  cases q:xs[i]? with
  |none=>rw[q] at e;cases e
  |some x=>
   rw[q] at e;cases e;have hm:x∈xs:=xb q;refine he x hm (λe n3=>n3=n'/\(xs.take i).map f++[e]=(xs.take (i+1)).map f) ⟨rfl,?_⟩;rw[xN,q];simp
 ·rintro acc n' ⟨rfl,rfl⟩;rw[zj,wn];exact hP
def zZ9{α:Type}{xs:List α}{i:Int}(h0:0<=i)(h1:i<xs.length):∃d,atI xs i=some d/\d∈xs:=by
 obtain⟨k,rfl⟩:=xF h0
 have hk:k<xs.length:=w6
 exact⟨xs[k],VF (by simp[hk]),getElem_mem hk⟩
@[simp] theorem xz8{α:Type}{a:α}{l:List α}:atI (a::l) 0=some a:=VF (j:=0) rfl
@[simp] theorem xz7{α:Type}{a b:α}{l:List α}:atI (a::b::l) 1=some b:=VF (j:=1) rfl
@[simp] theorem xz6{α:Type}{a b c:α}{l:List α}:atI (a::b::c::l) 2=some c:=VF (j:=2) rfl
@[simp] theorem xi8{es p}:zK0 (some (some (.own es))) p↔p es:=⟨fun⟨_,e,h⟩=>by cases e;exact h,λh=>⟨_,rfl,h⟩⟩
@[simp] theorem xc7{i tb rho n P}:zD3 i tb rho n P=zK0 rho[i]? λes=>tb rho n λd n1=>∃j c,d=.int j/\atI es j=some c/\P c n1:=rfl
@[simp] theorem xq4:ixN 3 0=some 0:=rfl
@[simp] theorem xq3:ixN 3 1=some 1:=rfl
@[simp] theorem xq2:ixN 3 2=some 2:=rfl
def Ua(K:W.Frag):Sp:=λvs H Q _=>∃(a:Addr) (ns:List Int),vs=[.ref a]/\xd2 H/\SqL K H a (ns.map V.int)/\ns.length<=63/\∀H',Q (.bl true) H'
def wm(ns:List Int):D:=.fz (ns.map D.int)
def vG(ns:List Int)(N:Nat):Rho:=some (wm ns)::replicate (N-1) none
def Wx(ns:List Int)(i N:Nat):Rho:=(vG ns N).set i (some .st)
theorem Ze{K:W.Frag}{G:Option Addr}{Z:Addr->Prop}{H:Hp}:∀{ns:List Int},Reps K G Z H (ns.map D.int) (ns.map V.int)
 |[]=>.nil
 |n::ns=>.cons (Rep.ofS (d:=.int n) rfl) Ze
theorem qq{K:W.Frag}{G:Option Addr}{Z:Addr->Prop}{H:Hp}:∀{ns:List Int}{xs:List V},Reps K G Z H (ns.map D.int) xs->xs=ns.map V.int
 |[],xs,h=>by unfold Reps at h;exact h
 |n::ns,xs,h=>by
  obtain⟨v,r,rfl,h1,h2⟩:=Reps.split h;rw[h1.int_inv,qq h2];rfl
section
variable {P:Program}{w:World}{K:W.Frag}{mg:Str->Option Value}{base:Heap}
def Fun.okLaw{x qual:Str}{st:Stmt}{f:Addr}{fd:FuncData}{N:List Str}{p:Str}{k:Nat}{t:TSD}(F:Fun K x qual st f fd)(S:FnScope N [p] (zL st))(n0:Nat)
  (body : ∀ (cdv : Value) (A0 : Around) (outer : List Env) (s : Shared) (H : Hp) (E : XK), Room k (A0.deeper (envOfC qual (zL st) s.heap.objs.size f cdv)) ->
   Qg ⟨K,none,λ_=>False,H⟩ (Jh CX0 P w K mg base N qual (zL st) f cdv A0 outer s H E).nox (vT st) t)
  (h1:∀(ns:List Int),ns.length<=63->t { nx:=λ_ _=>False,rt:=λd _=>d=.bl true } (xj N [wm ns]) n0):FnOk P w K mg base CX0 (k+1) f fd [p] (Ua K):=by
 exists (by
   refine F.ok S (λvs H Q E h=>?_) (λcdv A0 outer s H vs Q E hr h=>?_)
   ·obtain⟨a,ns,rfl,_⟩:=h;rfl
   ·obtain ⟨a, ns, rfl, hO, hS, hl, k⟩ := h;refine⟨_,body cdv A0 outer s H E hr,?_⟩
    have rs:Reps K none (λ_=>False) H [wm ns] [.ref a]:=by
     refine .cons ?_ .nil;unfold wm Rep;refine⟨a,ns.map V.int,rfl,?_,Ze⟩
     rcases hS with (q |⟨o,q⟩) |q
     ·rcases hO a with z | ⟨o, xs, z⟩
      ·rw[z] at q;cases q
      ·rw[z] at q;cases q
     ·exact .inl ⟨λz=>z,o,q⟩
     ·exact .inr (.inr q)
    refine⟨xj N [wm ns],n0,_,[],[],⟨[],XU rs (λb e=>by cases e) (λb e=>by cases e) (λb e=>e.elim)⟩,h1 ns hl,?_⟩
    refine⟨λ_ _ _ _ _ q=>q.elim,λd n v rho2 sg2 H2 ⟨os2,I2⟩ q=>?_,λ_ _ _ _ _ q=>q.elim,λ_ _ _ _ _ q=>q.elim⟩;subst q;rw[I2.pop.2.bl_inv]
    exact k H2)
end
def xo1(i:Nat)(t:TF)(t1:TAD)(t2:TSD):TSD:=λF rho n=>∃ns:List Int,i<rho.length/\i≠0/\rho[0]?=some (some (wm ns))/\t1 rho n λes n1=>∃j:Int,es=[wm ns,.int j]/\n1=n/\t es n λd n2=>∃zs:List Int,d=.lst (zs.map D.int)/\zs.length=n/\(∀x∈zs,0<=x)/\(∀x,zs[1]?=some x->x<2147483647) /\
 t2 { nx:=λrho' n'=>n'=n/\rho'.length=rho.length/\rho'[0]?=some (some (wm ns))/\F.nx (vG ns rho.length) n,rt:=λd n'=>n'=n/\kY d=true/\F.rt d n,bk:=λrho' n'=>n'=n/\rho'.length=rho.length/\rho'[0]?=some (some (wm ns))/\F.bk (vG ns rho.length) n,ct:=λrho' n'=>n'=n/\rho'.length=rho.length/\rho'[0]?=some (some (wm ns))/\F.ct (vG ns rho.length) n } (Wx ns i rho.length) n
@[simp] theorem zO9{ns:List Int}:xR (wm ns)=true:=rfl
@[simp] theorem zG8{ns:List Int}{k:D->Prop}:zC3 [wm ns] k↔k (.int ns.length):=by unfold wm;simp
def zi7{i:Nat}{t:TF}{t1:TAD}{t2:TSD}{F:EndsD}{rho:Rho}{n:Nat}(ns:List Int)(hi:i<rho.length)(h0:i≠0)(hr:rho[0]?=some (some (wm ns)))(j:Int)(ht:t1 rho n λes n1=>es=[wm ns,.int j]/\n1=n)
  (ht1:∀(P P':List D->Nat->Prop),(∀es n1,P es n1->P' es n1)->t1 rho n P->t1 rho n P')
  (h : t [wm ns, .int j] n λd n2 => ∃ zs : List Int, d = .lst (zs.map D.int) /\ zs.length = n /\ (∀ x ∈ zs, 0 <= x) /\ (∀ x, zs[1]? = some x -> x < 2147483647) /\
   t2 { nx:=λrho' n'=>n'=n/\rho'.length=rho.length/\rho'[0]?=some (some (wm ns))/\F.nx (vG ns rho.length) n,rt:=λd n'=>n'=n/\kY d=true/\F.rt d n,bk:=λrho' n'=>n'=n/\rho'.length=rho.length/\rho'[0]?=some (some (wm ns))/\F.bk (vG ns rho.length) n,ct:=λrho' n'=>n'=n/\rho'.length=rho.length/\rho'[0]?=some (some (wm ns))/\F.ct (vG ns rho.length) n } (Wx ns i rho.length) n):xo1 i t t1 t2 F rho n:=
 ⟨ns,hi,h0,hr,ht1 _ _ (λes n1 ⟨e1,e2⟩=>⟨j,e1,e2,by rw[e1];exact h⟩) ht⟩
section
variable {A:AC}{X:Cx}{e:Expr}{es:List Expr}{t1:TAD}{t2:TSD}{pos p:Pos}
def ZR{K:W.Frag}{G G':Option Addr}{Z Z':Addr->Prop}{H H':Hp}{ns:List Int}{v:V}(h:Rep K G Z H (wm ns) v)(hz:∀a o u,¬ Z a->H a=some (.frz o u)->¬ Z' a/\H' a=some (.frz o u)):Rep K G' Z' H' (wm ns) v:=by
 unfold wm Rep at h ⊢;obtain⟨a,xs,rfl,sq,rs⟩:=h
 refine⟨a,xs,rfl,?_,by rw[qq rs];exact Ze⟩
 rcases sq with ⟨nz,o,e⟩ |sq
 ·obtain⟨z1,z2⟩:=hz a o _ nz e;exact .inl ⟨z1,o,z2⟩
 ·exact .inr sq
def zs7{x g:Str}{i:Nat}{t:TF}{kk:Nat}{pos' spos:Pos}{rest:List Stmt}(hG:A.G=none)(hN:X.N.Nodup)(hi:X.N[i]?=some x)(hx:Loc X.env.scope x)(F:Fn X.prog X.w X.K X.mg X.base g kk 2 t)(hr:Room kk X.A)(hK:X.K=A.K)
  (ha:PAD A X (e::es) t1) (h2:∀(c:Addr) (Z:Addr->Prop) (H0:Hp),Qg ⟨A.K,some c,Z,H0⟩ X rest t2) (hg:Gl X g:=by rfl) (hdb:(g == ("__debug__" : Str))=false:=by decide) (he:starEach (e::es) X.env=(false,eval e X.env)::starEach es X.env:=by rfl) (hpl:(backTo pos (starEach es X.env)).any (·.1)=false:=by rfl)
  (hs:swapsWith (.Call (.Name g p) (e::es) [] pos) (some (.Name x pos')) spos.line X.env=pure false:=by rfl) (hf:X.fn x=true\/X.env.scope.names.lookup x=some .local:=by first |exact .inl rfl |exact .inr rfl |assumption) :
  Qg A X (.Assign [.Name x pos'] (.Call (.Name g p) (e::es) [] pos) spos::rest) (xo1 i t t1 t2):=by
 exists (by
   obtain⟨f,fd,ps,f1,f2,f3,f4⟩:=F.ex;have c1:=ze1 (pos:=spos) hN hi hx (KG (p:=p) f1 hr hg f2 f3 f4 .nil zg0 ha hdb he hpl) hs hf
   have c2:PSs X rest (λE' sg' H'=>∃c Z H0,sOf ⟨A.K,some c,Z,H0⟩ t2 E' sg' H'):=λpins s' sg' H' D I q=>by
    obtain⟨c,Z,H0,q⟩:=q;exact h2 c Z H0 pins s' sg' H' D I q
   refine(JC c1 c2).imp λE sg H h=>?_;obtain⟨rho,n,F,ds,vs,I,⟨ns,hi',h0,hr0,ht⟩,ok⟩:=h;refine⟨rho,n,_,ds,vs,I,ht,λws H' n' es' ⟨os',J⟩ hl k=>?_⟩;obtain⟨j,rfl,rfl,k⟩:=k;obtain⟨J1,rs⟩:=J.split hl;obtain⟨v1,v2,rfl,r1,r2⟩:=KC rs;have r1':Rep A.K none (λa=>H' a≠none/\¬ ∃o u,H' a=some (.frz o u)) H' (wm ns) v1:=ZR r1 λa o u _ e=>⟨λz=>z.2 ⟨o,u,e⟩,e⟩
   have r2':Rep A.K none (λa=>H' a≠none/\¬ ∃o u,H' a=some (.frz o u)) H' (.int j) v2:=by rw[r2.int_inv];exact Rep.ofS (d:=.int j) rfl
   rw[xv,hK]
   refine⟨none,λa=>H' a≠none/\¬ ∃o u,H' a=some (.frz o u),n',_,_,rfl,.cons r1' (.cons r2' .nil),λb e=>(by cases e),λb e=>(by cases e),λb z=>z.1,k,λv H2 n2 d fr st r q=>?_⟩
   obtain⟨zs,rfl,q1,q2,q3,q⟩:=q;obtain⟨c,xs,rfl,sq,rr⟩:=r.lst_inv;rw[qq rr] at sq
   have hc:H' c=none:=by
    cases z:H' c with
    |none=>rfl
    |some o=>
     have z2:=fr c o (by simp) z
     rw[sq.2] at z2;cases z2
     exact absurd ⟨by rw[z];simp,fun⟨o,u,z3⟩=>by rw[z] at z3;cases z3⟩ sq.1
   have ne:∀{a:Addr}{o:HO},H' a=some o->a≠c:=λ{a o} e h=>by rw[h,hc] at e;cases e
   have back:∀{os:List (Nat × Addr)}{rho' rho2:Rho}{sg':St}{H3:Hp}{ds3:List D}{vs3:List V},AmO ⟨A.K,some c,λb=>Zof A os' b\/b=c,H2⟩ os n' rho' sg' H3 ds3 vs3->rho2.length=sg'.length->(∀j d,rho2[j]?=some (some d)->∃v,sg'[j]?=some (some v)/\Rep A.K A.G (Zof A []) H3 d v)->AmO A [] n' rho2 sg' H3 ds vs:=λ{os rho' rho2 sg' H3 ds3 vs3} I3 hl2 hs2=>by
    have keep:∀a o,H' a=some o->H3 a=some o:=λa o e=>I3.fr a o (λz=>ne e (xk z).symm) (fr a o (by simp) e)
    refine⟨hl2,λj d e=>?_,?_,.nil,λp hp=>(by simp at hp),λb e=>(by rw[hG] at e;cases e),J1.gz,λa o z e=>keep a o (J1.fr a o z e),J1.z0⟩
    ·obtain⟨v,e1,e2⟩:=hs2 j d e;exact⟨v,e1,SlotR.of e2⟩
    ·refine Reps.mono (λa _ z => ?_) (λa o _ e => keep a o e) _ _ J1.pend
     rcases z with z |⟨p,hp,_⟩
     ·exact .inl z
     ·simp at hp
   have scr:∀{os:List (Nat × Addr)}{rho':Rho}{sg':St}{H3:Hp}{ds3:List D}{vs3:List V},AmO ⟨A.K,some c,λb=>Zof A os' b\/b=c,H2⟩ os n' rho' sg' H3 ds3 vs3->rho'[0]?=some (some (wm ns))->rho.length=sg'.length->AmO A [] n' (vG ns rho.length) sg' H3 ds vs:=λ{os rho' sg' H3 ds3 vs3} I3 e0 hl3=>by
    refine back I3 (by rw[<- hl3];simp[vG];lia) λj d e=>?_
    unfold vG at e
    cases j with
    |zero=>
     cases e;obtain⟨v,e1,e2⟩:=I3.slot 0 _ e0;have e3:=SlotR.rep (d:=wm ns) rfl e2;refine⟨v,e1,ZR e3 λa o u nz e=>⟨λz=>nz ?_,e⟩⟩
     rcases z with z |⟨p,hp,_⟩
     ·exact .inl (.inl (.inl z))
     ·simp at hp
    |succ j=>
     rw[List.getElem?_cons_succ,xr] at e
     split at e<;>cases e
   have hl0:rho.length=sg.length:=J1.len;refine⟨c,λb=>Zof A os' b\/b=c,H2,Wx ns i rho.length,n',_,[],[],⟨[],?_⟩,q,?_⟩
   ·refine ⟨by simp [Wx, vG, hl0]; lia, λj d e => ?_, .nil, .nil, λp hp => by simp at hp, λb e => ?_, λb e => ?_, λb o _ e => e, λb e => ?_⟩
    ·unfold Wx at e
     by_cases hj:j=i
     ·subst hj
      rw[zU (by simp[vG];lia)] at e
      cases e
      exact⟨.ref c,zU w6,SlotR.of (by unfold Rep;exact⟨c,rfl,rfl⟩)⟩
     ·rw [zW (Ne.symm hj)] at e;unfold vG at e
      cases j with
      |zero=>
       cases e;obtain⟨v,e1,e2⟩:=J1.slot 0 _ hr0;have e3:=SlotR.rep (d:=wm ns) rfl e2
       refine⟨v,by rw[zW h0];exact e1,SlotR.of (ZR e3 λa o u nz e=>⟨λz=>?_,fr a _ (by simp) e⟩)⟩
       rcases z with (z |z) |⟨p,hp,_⟩
       ·exact nz z
       ·exact ne e z
       ·simp at hp
      |succ j=>
       rw[List.getElem?_cons_succ,xr] at e
       split at e<;>cases e
    ·cases e;exact⟨zs,0,0,sq.2,q1,q2,q3⟩
    ·exact .inr (xk e).symm
    ·rcases e with e | e
     ·have := J1.zH b e
      cases z:H' b with
      |none=>exact absurd z this
      |some o=>
       show H2 b≠none
       rw[fr b o (by simp) z];simp
     ·show H2 b≠none;rw[e,sq.2];simp
   ·refine ⟨λrho3 n3 sg3 H3 ⟨os3, I3⟩ q => ?_, λd n3 v rho3 sg3 H3 ⟨os3, I3⟩ q => ?_, λrho3 n3 sg3 H3 ⟨os3, I3⟩ q => ?_, λrho3 n3 sg3 H3 ⟨os3, I3⟩ q => ?_⟩
    ·obtain ⟨rfl, l3, e3, q⟩ := q
     exact ok.nx _ _ _ _ ⟨[],scr I3 e3 (by rw[<- l3];exact I3.len)⟩ q
    ·obtain ⟨rfl, hd, q⟩ := q
     have I4:AmO A [] n3 (replicate sg3.length none) sg3 H3 ds vs:=back I3 (by simp) λj d e=>by
      rw[xr] at e
      split at e<;>cases e
     refine ok.rt _ _ _ _ _ _ ⟨[],I4.push ?_⟩ q;rw[I3.pop.2.toS hd];exact Rep.ofS hd
    ·obtain ⟨rfl, l3, e3, q⟩ := q
     exact ok.bk _ _ _ _ ⟨[],scr I3 e3 (by rw[<- l3];exact I3.len)⟩ q
    ·obtain ⟨rfl, l3, e3, q⟩ := q
     exact ok.ct _ _ _ _ ⟨[],scr I3 e3 (by rw[<- l3];exact I3.len)⟩ q)
end
end L2
namespace L2
open PySem PySem.Spec PyProof.Rows PySem.SeqAt
mutual
def eqD:D->D->Bool
 |.non,.non=>true
 |.bl a,.bl b=>a == b
 |.bl a,.int i=>(if a then 1 else 0) == i
 |.int i,.bl a=>i == (if a then 1 else 0)
 |.int i,.int j=>i == j
 |.str x,.str y=>x == y
 |.tup xs,.tup ys=>Wg xs ys
 |.lst xs,.lst ys=>Wg xs ys
 |_,_=>false
def Wg:List D->List D->Bool
 |[],[]=>true
 |x::xs,y::ys=>eqD x y&&Wg xs ys
 |_,_=>false
end
mutual
def okE:D->Nat->Bool
 |.non,_=>true
 |.bl _,_=>true
 |.int _,_=>true
 |.str _,_=>true
 |.tup ds,k=>match k with
  |0=>false
  |k+1=>KU ds k
 |.lst ds,k=>match k with
  |0=>false
  |k+1=>KU ds k
 |_,_=>false
def KU:List D->Nat->Bool
 |[],_=>true
 |d::ds,k=>okE d k&&KU ds k
end
theorem Zk:∀{ds:List D}{k i:Nat}{d:D},KU ds k=true->ds[i]?=some d->okE d k=true
 |[],k,i,d,_,e=>by simp at e
 |c::ds,k,0,d,h,e=>by
  simp at e;subst e;unfold KU at h;rw[zv] at h;exact h.1
 |c::ds,k,i+1,d,h,e=>by
  unfold KU at h;rw[zv] at h
  exact Zk (i:=i) h.2 (by simpa using e)
def eAt(xs ys:List D)(j:Nat):Bool:=match xs[j]?,ys[j]? with
 |some x,some y=>eqD x y
 |_,_=>true
def XZ(n:Nat)(e:Nat->Bool):(List.range (n+1)).all e=(e 0&&(List.range n).all λj=>e (j+1)):=by
 rw[List.range_succ_eq_map,ym,all_map];rfl
theorem YQ:∀(xs ys:List D),((List.range (min xs.length ys.length)).all (eAt xs ys)&&xs.length == ys.length)=Wg xs ys
 |[],[]=>by unfold Wg;rfl
 |[],y::ys=>by unfold Wg;simp
 |x::xs,[]=>by unfold Wg;simp
 |x::xs,y::ys=>by
  have ih:=YQ xs ys;unfold Wg;rw[<- ih]
  have e1:min (x::xs).length (y::ys).length=min xs.length ys.length+1:=by simp only[zr];lia
  rw[e1,XZ]
  have e2:((x::xs).length == (y::ys).length)=(xs.length == ys.length):=by simp
  rw[e2,Bool.and_assoc];rfl
def UU{xs ys:List D}(h:xs.length=ys.length):(List.range xs.length).all (eAt xs ys)=Wg xs ys:=by
 rw[<- YQ,h];simp
def zx8{xs ys:List D}(h:xs.length≠ys.length):Wg xs ys=false:=by
 rw[<- YQ];simp[h]
theorem zm3:∀{xs ys:List D},xs.length=ys.length->(∀(j:Nat) (x y:D),xs[j]?=some x->ys[j]?=some y->eqD x y=true)->Wg xs ys=true
 |[],[],_,_=>by unfold Wg;rfl
 |[],y::ys,h,_=>by simp at h
 |x::xs,[],h,_=>by simp at h
 |x::xs,y::ys,h,q=>by
  unfold Wg
  rw[q 0 x y rfl rfl,zm3 (by simpa using h) λj a b ha hb=>q (j+1) a b (by simpa using ha) (by simpa using hb)]
  rfl
def Reps.get2{K:W.Frag}{G:Option Addr}{Z:Addr->Prop}{H:Hp}{ds:List D}{vs:List V}{i:Nat}{d:D}{v:V}(h:Reps K G Z H ds vs)(e:ds[i]?=some d)(e':vs[i]?=some v):Rep K G Z H d v:=by
 obtain⟨u,h1,h2⟩:=h.get e;rw[h1] at e';cases e';exact h2
section
variable {X:Cx}{pins:List (Addr × Obj)}{σ:St}{H:Hp}{s:Shared}{G:Option Addr}{Z:Addr->Prop}
def Jy(I:Inv X pins σ H s):∀(k:Nat) (d1 d2:D) (v:V),okE d1 k=true->okE d2 k=true->Rep X.K G Z H d1 v->Rep X.K G Z H d2 v->eqD d1 d2=true:=by
 intro k
 induction k with
 | zero =>
  intro d1 d2 v h1 h2 r1 r2
  cases d1<;>cases d2<;>first
   |(simp[okE] at h1;done) |(simp[okE] at h2;done)
   |(have e1:=r1.toS rfl;have e2:=r2.toS rfl;rw[e1] at e2;simp[ofS] at e2;done)
   |(have e1:=r1.toS rfl;have e2:=r2.toS rfl;rw[e1] at e2;simp[ofS] at e2;simp[eqD,e2])
 | succ k ih =>
  have seq:∀{ds es:List D}{xs:List V},KU ds k=true->KU es k=true->Reps X.K G Z H ds xs->Reps X.K G Z H es xs->Wg ds es=true:=λ{ds es xs} h1 h2 r1 r2=>by
   refine zm3 (r1.length.symm.trans r2.length) λj x y hx hy=>?_;obtain⟨u,hu,ru⟩:=r1.get hx;exact ih x y u (Zk h1 hx) (Zk h2 hy) ru (r2.get2 hy hu)
  intro d1 d2 v h1 h2 r1 r2
  cases d1<;>cases d2<;>try (first
   |(simp[okE] at h1;done) |(simp[okE] at h2;done)
   |(have e1:=r1.toS rfl;have e2:=r2.toS rfl;rw[e1] at e2;simp[ofS] at e2;done)
   |(have e1:=r1.toS rfl;have e2:=r2.toS rfl;rw[e1] at e2;simp[ofS] at e2;simp[eqD,e2];done)
   |(obtain⟨a,xs,e,_⟩:=r1.tup_inv;have e2:=r2.toS rfl;rw[e] at e2;simp[ofS] at e2;done)
   |(obtain⟨a,xs,e,_⟩:=r1.lst_inv;have e2:=r2.toS rfl;rw[e] at e2;simp[ofS] at e2;done)
   |(obtain⟨a,xs,e,_⟩:=r2.tup_inv;have e2:=r1.toS rfl;rw[e] at e2;simp[ofS] at e2;done)
   |(obtain⟨a,xs,e,_⟩:=r2.lst_inv;have e2:=r1.toS rfl;rw[e] at e2;simp[ofS] at e2;done))
  ·rename_i ds es;obtain⟨a,xs,e,sq,rs⟩:=r1.tup_inv;obtain⟨b,ys,e',sq',rs'⟩:=r2.tup_inv;rw[e] at e';cases e';have:=I.tuple_inj sq.sq sq'.sq;subst this;unfold eqD
   exact seq (by simpa [okE] using h1) (by simpa [okE] using h2) rs rs'
  ·rename_i ds es;obtain⟨a,xs,e,sq,rs⟩:=r1.tup_inv;obtain⟨b,ys,e',sq',rs'⟩:=r2.lst_inv;rw[e] at e';cases e';obtain⟨its,rv,pl,hz⟩:=I.tuple sq.sq;obtain⟨its',rv',pl',hz'⟩:=I.list sq'.sq;exact absurd rfl (ne_of_list_tuple pl'.isList (show s.heap.IsTuple a its.toArray from pl))
  ·rename_i ds es;obtain⟨a,xs,e,sq,rs⟩:=r1.lst_inv;obtain⟨b,ys,e',sq',rs'⟩:=r2.tup_inv;rw[e] at e';cases e';obtain⟨its,rv,pl,hz⟩:=I.list sq.sq;obtain⟨its',rv',pl',hz'⟩:=I.tuple sq'.sq;exact absurd rfl (ne_of_list_tuple pl.isList (show s.heap.IsTuple a its'.toArray from pl'))
  ·rename_i ds es;obtain⟨a,xs,e,sq,rs⟩:=r1.lst_inv;obtain⟨b,ys,e',sq',rs'⟩:=r2.lst_inv;rw[e] at e';cases e';have:=I.list_inj sq.sq sq'.sq;subst this;unfold eqD
   exact seq (by simpa [okE] using h1) (by simpa [okE] using h2) rs rs'
def rcC{A:Around}{s:Shared}{y x:Value}{b c:Bool}(h:RcAt A s y x b)(e:b=c):RcAt A s y x c:=e ▸ h
def rnC{A:Around}{s:Shared}{y x:Value}{b c:Bool}(h:RcNeAt A s y x b)(e:b=c):RcNeAt A s y x c:=e ▸ h
def eqC{A:Around}{s:Shared}{y x:Value}{b c:Bool}(h:EqAt A s y x b)(e:b=c):EqAt A s y x c:=e ▸ h
def E3(A:Around)(s:Shared)(u1 u2:Value)(b:Bool):Prop:=EqAt A s u1 u2 b/\RcAt A s u1 u2 b/\RcNeAt A s u1 u2 (!b)
def E3.cast{A:Around}{s:Shared}{y x:Value}{b c:Bool}(h:E3 A s y x b)(e:b=c):E3 A s y x c:=e ▸ h
def zo7:D->D->Bool
 |.tup _,.tup _=>true
 |.lst _,.lst _=>true
 |_,_=>false
def ShE(s:Shared):D->Value->Prop
 |.non,u=>u=.none
 |.bl x,u=>u=.bool x
 |.int x,u=>∃t,u=.int x t
 |.str x,u=>∃t,u=.str x t
 |.tup _,u=>∃a its,u=.ref a/\s.heap.IsTuple a its
 |.lst _,u=>∃a its,u=.ref a/\s.heap.IsList a its
 |_,_=>False
def shE(I:Inv X pins σ H s){k:Nat}{d:D}{v:V}{u:Value}(h:okE d k=true)(r:Rep X.K G Z H d v)(q:RelV v u):ShE s d u:=by
 cases d with
 |non=>have:=r.toS rfl;subst this;exact q
 |bl x=>have:=r.toS rfl;subst this;exact q
 |int x=>have:=r.toS rfl;subst this;exact q
 |str x=>have:=r.toS rfl;subst this;exact q
 |tup x=>
  obtain⟨a,xs,w,sq,_⟩:=r.tup_inv;subst w;obtain⟨its,_,pl,_⟩:=I.tuple sq.sq;exact⟨a,its.toArray,q,pl⟩
 |lst x=>
  obtain⟨a,xs,w,sq,_⟩:=r.lst_inv;subst w;obtain⟨its,_,pl,_⟩:=I.list sq.sq;exact⟨a,its.toArray,q,pl.isList⟩
 |_=>simp[okE] at h
section
local macro_rules
 | `(tactic|nomatch $n:ident,$t,*)=>do
  let f:=fun(p:Lean.Name)=>Lean.mkIdent (p++n.getId)
  let t:=t.getElems
  `(tactic|exact E3.cast ⟨$(f `EqAt) $t*,$(f `RcAt) $t*,$(f `RcNeAt) $t*⟩ (by unfold eqD;rfl))
def zC8(I:Inv X pins σ H s){k:Nat}{d1 d2:D}{v1 v2:V}{u1 u2:Value}{A:Around}(h1:okE d1 k=true)(h2:okE d2 k=true)(r1:Rep X.K G Z H d1 v1)(r2:Rep X.K G Z H d2 v2)(q1:RelV v1 u1)(q2:RelV v2 u2)
  (hu:A.units<cLine) (hb:zo7 d1 d2=false):E3 A s u1 u2 (eqD d1 d2):=by
 have g1:=shE I h1 r1 q1;have g2:=shE I h2 r2 q2;clear h1 h2 r1 r2 q1 q2
 cases d1 with
 |non=>
  cases g1
  cases d2 with
  |non=>cases g2;exact E3.cast ⟨EqAt.same _,RcAt.none_none,RcNeAt.none_none⟩ (by unfold eqD;rfl)
  |bl=>cases g2;nomatch none_bool,_
  |int=>obtain⟨_,rfl⟩:=g2;nomatch none_int,_,_
  |str=>obtain⟨_,rfl⟩:=g2;nomatch none_str,_,_
  |tup=>obtain⟨_,_,rfl,L⟩:=g2;nomatch none_tuple,L,hu
  |lst=>obtain⟨_,_,rfl,L⟩:=g2;nomatch none_list,L,hu
  |_=>exact g2.elim
 |bl x1=>
  cases g1
  cases d2 with
  |non=>cases g2;nomatch bool_none,_
  |bl=>cases g2;nomatch bool_bool,_,_
  |int=>obtain⟨_,rfl⟩:=g2;nomatch bool_int,_,_,_
  |str=>obtain⟨_,rfl⟩:=g2;nomatch bool_str,_,_,_
  |tup=>obtain⟨_,_,rfl,L⟩:=g2;nomatch bool_tuple,_,L,hu
  |lst=>obtain⟨_,_,rfl,L⟩:=g2;nomatch bool_list,_,L,hu
  |_=>exact g2.elim
 |int x1=>
  obtain⟨t1,rfl⟩:=g1
  cases d2 with
  |non=>cases g2;nomatch int_none,_,_
  |bl=>cases g2;nomatch int_bool,_,_,_
  |int=>obtain⟨_,rfl⟩:=g2;nomatch int_int,_,_,_,_
  |str=>obtain⟨_,rfl⟩:=g2;nomatch int_str,_,_,_,_
  |tup=>obtain⟨_,_,rfl,L⟩:=g2;nomatch int_tuple,_,_,L,hu
  |lst=>obtain⟨_,_,rfl,L⟩:=g2;nomatch int_list,_,_,L,hu
  |_=>exact g2.elim
 |str x1=>
  obtain⟨t1,rfl⟩:=g1
  cases d2 with
  |non=>cases g2;nomatch str_none,_,_
  |bl=>cases g2;nomatch str_bool,_,_,_
  |int=>obtain⟨_,rfl⟩:=g2;nomatch str_int,_,_,_,_
  |str=>obtain⟨_,rfl⟩:=g2;nomatch str_str,_,_,_,_
  |tup=>obtain⟨_,_,rfl,L⟩:=g2;nomatch str_tuple,_,_,L,hu
  |lst=>obtain⟨_,_,rfl,L⟩:=g2;nomatch str_list,_,_,L,hu
  |_=>exact g2.elim
 |tup x1=>
  obtain⟨a1,i1,rfl,L1⟩:=g1
  cases d2 with
  |non=>cases g2;nomatch tuple_none,L1,hu
  |bl=>cases g2;nomatch tuple_bool,_,L1,hu
  |int=>obtain⟨_,rfl⟩:=g2;nomatch tuple_int,_,_,L1,hu
  |str=>obtain⟨_,rfl⟩:=g2;nomatch tuple_str,_,_,L1,hu
  |tup=>cases hb
  |lst=>obtain⟨_,_,rfl,L⟩:=g2;nomatch tuple_list,L1,L,hu
  |_=>exact g2.elim
 |lst x1=>
  obtain⟨a1,i1,rfl,L1⟩:=g1
  cases d2 with
  |non=>cases g2;nomatch list_none,L1,hu
  |bl=>cases g2;nomatch list_bool,_,L1,hu
  |int=>obtain⟨_,rfl⟩:=g2;nomatch list_int,_,_,L1,hu
  |str=>obtain⟨_,rfl⟩:=g2;nomatch list_str,_,_,L1,hu
  |tup=>obtain⟨_,_,rfl,L⟩:=g2;nomatch list_tuple,L1,L,hu
  |lst=>cases hb
  |_=>exact g2.elim
 |_=>exact g1.elim
end
def zm2(I:Inv X pins σ H s):∀(k:Nat) (d1 d2:D) (v1 v2:V) (u1 u2:Value) (A:Around),okE d1 k=true->okE d2 k=true->Rep X.K G Z H d1 v1->Rep X.K G Z H d2 v2->RelV v1 u1->RelV v2 u2 ->
  A.units+k<cLine->E3 A s u1 u2 (eqD d1 d2):=by
 intro k
 induction k with
 |zero=>
  intro d1 d2 v1 v2 u1 u2 A h1 h2 r1 r2 q1 q2 hu
  refine zC8 I h1 h2 r1 r2 q1 q2 w6 ?_
  cases d1<;>first |rfl |(simp[okE] at h1;done)
 | succ k ih =>
  intro d1 d2 v1 v2 u1 u2 A h1 h2 r1 r2 q1 q2 hu
  by_cases hb:zo7 d1 d2=false
  ·exact zC8 I h1 h2 r1 r2 q1 q2 w6 hb
  have items:∀{ds es:List D}{xs ys:List V}{its its':List Value},KU ds k=true->KU es k=true->Reps X.K G Z H ds xs->Reps X.K G Z H es ys->Vals xs its->Vals ys its' ->
    ∀(j:Nat) (l1:j<its.toArray.size) (l2:j<its'.toArray.size),EqAt A.in1 s its.toArray[j] its'.toArray[j] (eAt ds es j):=λ{ds es xs ys its its'} h1 h2 r1 r2 rv rv' j l1 l2=>by
   have l1':j<its.length:=by simpa using l1
   have l2':j<its'.length:=by simpa using l2
   have a1:j<ds.length:=by rw[<- r1.length,rv.length];exact l1'
   have a2:j<es.length:=by rw[<- r2.length,rv'.length];exact l2'
   have g1:ds[j]?=some ds[j]:=xD a1;have g2:es[j]?=some es[j]:=xD a2;obtain⟨w1,e1,p1⟩:=r1.get g1;obtain⟨w2,e2,p2⟩:=r2.get g2;obtain⟨z1,f1,t1⟩:=rv.get e1;obtain⟨z2,f2,t2⟩:=rv'.get e2
   have m1:its.toArray[j]=z1:=by
    have:its[j]?=some its[j]:=xD l1';rw[f1] at this
    simpa using (xk this).symm
   have m2:its'.toArray[j]=z2:=by
    have:its'[j]?=some its'[j]:=xD l2';rw[f2] at this
    simpa using (xk this).symm
   have e3:eAt ds es j=eqD ds[j] es[j]:=by unfold eAt;rw[g1,g2]
   rw[m1,m2,e3]
   exact(ih _ _ _ _ _ _ A.in1 (Zk h1 g1) (Zk h2 g2) p1 p2 t1 t2 (by show A.units+1+k<cLine;lia)).1
  cases d1 with
  | tup ds =>
   cases d2 with
   | tup es =>
    have s1:=r1;have s2:=r2;obtain⟨a,xs,e,sq,rs⟩:=r1.tup_inv;obtain⟨b,ys,e',sq',rs'⟩:=r2.tup_inv;subst e e';have c1:u1=.ref a:=q1;have c2:u2=.ref b:=q2;subst c1 c2;obtain⟨its,rv,pl,hz⟩:=I.tuple sq.sq;obtain⟨its',rv',pl',hz'⟩:=I.tuple sq'.sq
    have it:=items (by simpa [okE] using h1) (by simpa [okE] using h2) rs rs' rv rv'
    have n1:its.toArray.size=ds.length:=by rw[<- rs.length,rv.length];simp
    have n2:its'.toArray.size=es.length:=by rw[<- rs'.length,rv'.length];simp
    have ev:((List.range (min its.toArray.size its'.toArray.size)).all (eAt ds es)&&its.toArray.size == its'.toArray.size)=eqD (.tup ds) (.tup es):=by
     rw[n1,n2,YQ];unfold eqD;rfl
    have R:=rcC (RcAt.tuples (A:=A) (show s.heap.IsTuple a its.toArray from pl) (show s.heap.IsTuple b its'.toArray from pl') w6 it) ev
    have N:=rnC (RcNeAt.tuples (A:=A) (show s.heap.IsTuple a its.toArray from pl) (show s.heap.IsTuple b its'.toArray from pl') w6 it) (congrArg (!·) ev)
    refine⟨?_,R,N⟩
    by_cases hab:a=b
    ·subst hab;exact eqC (EqAt.same _) (Jy I (k+1) _ _ _ h1 h2 s1 s2).symm
    ·exact .of_refs hab R
   |_=>exact absurd rfl hb
  | lst ds =>
   cases d2 with
   | lst es =>
    have s1:=r1;have s2:=r2;obtain⟨a,xs,e,sq,rs⟩:=r1.lst_inv;obtain⟨b,ys,e',sq',rs'⟩:=r2.lst_inv;subst e e';have c1:u1=.ref a:=q1;have c2:u2=.ref b:=q2;subst c1 c2;obtain⟨its,rv,pl,hz⟩:=I.list sq.sq;obtain⟨its',rv',pl',hz'⟩:=I.list sq'.sq
    have it:=items (by simpa [okE] using h1) (by simpa [okE] using h2) rs rs' rv rv'
    have n1:its.toArray.size=ds.length:=by rw[<- rs.length,rv.length];simp
    have n2:its'.toArray.size=es.length:=by rw[<- rs'.length,rv'.length];simp
    have R:RcAt A s (.ref a) (.ref b) (eqD (.lst ds) (.lst es))/\RcNeAt A s (.ref a) (.ref b) (!eqD (.lst ds) (.lst es)):=by
     by_cases hl:ds.length=es.length
     ·have ev : (List.range its.toArray.size).all (eAt ds es) = eqD (.lst ds) (.lst es) := by rw [n1, UU hl]; unfold eqD; rfl
      exact⟨rcC (RcAt.lists (A:=A) pl.isList pl'.isList (by rw[n1,n2,hl]) w6 it) ev,rnC (RcNeAt.lists (A:=A) pl.isList pl'.isList (by rw[n1,n2,hl]) w6 it) (congrArg (!·) ev)⟩
     ·have ev : false = eqD (.lst ds) (.lst es) := by unfold eqD; exact (zx8 hl).symm
      have hs:(its.toArray.size != its'.toArray.size)=true:=by rw[n1,n2];simpa using hl
      exact⟨rcC (RcAt.lists_lengths (A:=A) pl.isList pl'.isList hs w6) ev,rnC (RcNeAt.lists_lengths (A:=A) pl.isList pl'.isList hs w6) (congrArg (!·) ev)⟩
    refine⟨?_,R⟩
    by_cases hab:a=b
    ·subst hab;exact eqC (EqAt.same _) (Jy I (k+1) _ _ _ h1 h2 s1 s2).symm
    ·exact .of_refs hab R.1
   |_=>exact absurd rfl hb
  |_=>exact absurd rfl hb
def EqV(X:Cx)(H:Hp)(x y:V)(b:Bool):Prop:=∀pins s σ v u,Inv X pins σ H s->RelV x v->RelV y u->∀A:Around,A.units+60<cLine->E3 A s v u b
def xo9(X:Cx):R2:=λx y H Q=>∃b,EqV X H x y b/\Q (.bl b) H
def xf4(X:Cx):R2:=λx y H Q=>∃b,EqV X H x y b/\Q (.bl (!b)) H
def zB9{n:Nat}(hr:Room n X.A):OpR X (compareOp .Eq) (xo9 X):=by
 intro pins s σ H x y v u Q I rx ry h;obtain⟨b,e,q⟩:=h
 exact(e pins s σ v u I rx ry X.A (by have:=hr.units;lia)).2.1 X.prog X.w X.xe _ ⟨.bl b,H,I,rfl,q⟩
def zh0{n:Nat}(hr:Room n X.A):OpR X (compareOp .NotEq) (xf4 X):=by
 intro pins s σ H x y v u Q I rx ry h;obtain⟨b,e,q⟩:=h
 exact(e pins s σ v u I rx ry X.A (by have:=hr.units;lia)).2.2 X.prog X.w X.xe _ ⟨.bl (!b),H,I,rfl,q⟩
def zS1:RD2:=λd1 d2 k=>okE d1 20=true/\okE d2 20=true/\k (.bl (eqD d1 d2))
def zS0:RD2:=λd1 d2 k=>okE d1 20=true/\okE d2 20=true/\k (.bl (!eqD d1 d2))
def zA9{A:AC}(hK:X.K=A.K):kf A (xo9 X) zS1:=by
 rintro os n rho sg H ds vs d1 d2 v1 v2 k Q I ⟨h1,h2,q⟩ hQ;obtain⟨I1,r2⟩:=I.pop;obtain⟨I2,r1⟩:=I1.pop;rw[<- hK] at r1 r2
 exact⟨eqD d1 d2,λpins s σ v u J rx ry B hu=>zm2 J 20 d1 d2 v1 v2 v u B h1 h2 r1 r2 rx ry w6,hQ _ H _ ⟨os,I2.push (Rep.ofS rfl)⟩ q⟩
def zA8{A:AC}(hK:X.K=A.K):kf A (xf4 X) zS0:=by
 rintro os n rho sg H ds vs d1 d2 v1 v2 k Q I ⟨h1,h2,q⟩ hQ;obtain⟨I1,r2⟩:=I.pop;obtain⟨I2,r1⟩:=I1.pop;rw[<- hK] at r1 r2
 exact⟨eqD d1 d2,λpins s σ v u J rx ry B hu=>zm2 J 20 d1 d2 v1 v2 v u B h1 h2 r1 r2 rx ry w6,hQ _ H _ ⟨os,I2.push (Rep.ofS rfl)⟩ q⟩
@[simp] theorem xi5{d1 d2 k}:zS1 d1 d2 k=(okE d1 20=true/\okE d2 20=true/\k (.bl (eqD d1 d2))):=rfl
@[simp] theorem xi4{d1 d2 k}:zS0 d1 d2 k=(okE d1 20=true/\okE d2 20=true/\k (.bl (!eqD d1 d2))):=rfl
end
end L2
namespace L2
section
variable {A:AC}{X:Cx}{e a b:Expr}{es:List Expr}{te ta tb:TD}{t1:TAD}{pos p:Pos}
def zp7(K:W.Frag)(mg:Str->Option Value)(x:Str)(d:D):Prop:=∃v u,mg x=some u/\RelV v u/\∀G Z H,Rep K G Z H d v
def Xp{x:Str}{d:D}(h:zp7 X.K X.mg x d)(hK:X.K=A.K)(hg:Gl X x:=by rfl)(hd:(x == ("__debug__" : Str))=false:=by decide):PD A X (.Name x pos) (dC d):=by
 exists (by
   obtain⟨v,u,hm,r,hr⟩:=h;refine(ze9 hg hm r hd).imp λsg H Q q=>?_;obtain⟨rho,n,P,ds,vs,⟨os,I⟩,q,hQ⟩:=q
   exact hQ v H n d ⟨os,I.push (by rw[<- hK];exact hr _ _ _)⟩ q)
def zx2{K:W.Frag}{mg:Str->Option Value}{x:Str}{a:Addr}{o:Obj}{its:Array Value}{n:Nat}{ds:List D}{xs:List V}(hm:mg x=some (.ref a))(hk:K.lookup a=some o)(hc:o.cls=.type "tuple")(hd:o.data=.seq its n)(hz:its.size<=sizeLine)(hv:Vals xs its.toList)
  (hs:∀G Z H,Reps K G Z H ds xs):zp7 K mg x (.tup ds):=⟨.ref a,.ref a,hm,rfl,λG Z H=>.tup_mk (.inr (.inr ⟨o,its,n,hk,hc,hd,hz,hv⟩)) (hs G Z H)⟩
def FnOk.botK{P:Program}{w:World}{K:W.Frag}{mg:Str->Option Value}{base:Heap}{f:Addr}{fd:FuncData}{ps:List Str}{k L:Nat}{t:TF}(ht:∀ds n Q,¬ t ds n Q):FnOk P w K mg base CX0 L f fd ps (spD K k t):=by
 refine⟨λvs H Q E h=>?_,λA outer s H args us vs Q E _ _ _ _ h=>?_⟩
 ·obtain⟨G,Z,n,R,ds,hl,rs,hst,gz,z0,h,_⟩:=h;exact(ht _ _ _ h).elim
 ·obtain⟨G,Z,n,R,ds,hl,rs,hst,gz,z0,h,_⟩:=h;exact(ht _ _ _ h).elim
def FnOk.bot{P:Program}{w:World}{K:W.Frag}{mg:Str->Option Value}{base:Heap}{f:Addr}{fd:FuncData}{ps:List Str}{k:Nat}{t:TF}(ht:∀ds n Q,¬ t ds n Q):FnOk P w K mg base CX0 0 f fd ps (spD K k t):=by
 refine⟨λvs H Q E h=>?_,λA outer s H args us vs Q E _ _ _ _ h=>?_⟩
 ·obtain⟨G,Z,n,R,ds,hl,rs,hst,gz,z0,h,_⟩:=h;exact(ht _ _ _ h).elim
 ·obtain⟨G,Z,n,R,ds,hl,rs,hst,gz,z0,h,_⟩:=h;exact(ht _ _ _ h).elim
end
def yc{own:Nat}{g:TGD}{te:TD}{rho:Rho}{n:Nat}{P:D->Nat->Prop}{α:Type}(enc:α->D)(f:α->D)(xs:List α)
  (hz:xs.length<=sizeLine) (he:∀x∈xs,∀Q,Q (f x) n->g (enc x) (replicate own none++rho) λrho'=>rho'.drop own=rho/\te rho' n Q) (hP:P (.lst (xs.map f)) n):JZ own g zP5 te rho P (xs.map enc) n:=
 zy6 (it:=λ_ n R=>R (xs.map enc) n) (rho:=rho) enc f xs (λR h=>h) hz he hP
def zd4{d:D}{T:String}{k:D->Prop}(hT:T = "bool" \/ T = "int" \/ T = "str" \/ T = "tuple" \/ T = "list"):zM5 [d,.ty T] k↔(vB d=true/\k (.bl (Yw T d))):=
 ⟨fun⟨d',T',e,_,h1,h2⟩=>by cases e;exact⟨h1,h2⟩,λh=>⟨d,T,rfl,hT,h.1,h.2⟩⟩
@[simp] theorem zS7{d:D}{k:D->Prop}:zM5 [d,.ty "bool"] k↔(vB d=true/\k (.bl (Yw "bool" d))):=zd4 w9
@[simp] theorem xc2{d:D}{k:D->Prop}:zM5 [d,.ty "int"] k↔(vB d=true/\k (.bl (Yw "int" d))):=zd4 w9
@[simp] theorem xc1{d:D}{k:D->Prop}:zM5 [d,.ty "str"] k↔(vB d=true/\k (.bl (Yw "str" d))):=zd4 w9
@[simp] theorem zP0{d:D}{k:D->Prop}:zM5 [d,.ty "tuple"] k↔(vB d=true/\k (.bl (Yw "tuple" d))):=zd4 w9
@[simp] theorem zS6{d:D}{k:D->Prop}:zM5 [d,.ty "list"] k↔(vB d=true/\k (.bl (Yw "list" d))):=zd4 w9
def QY(ds:List D):VM ds ds=ds.map λx=>.tup [x,x]:=by
 unfold VM;rw[List.zipWith_self]
@[simp] theorem xh9{i j:Str}{k}:zG5 (.str i) (.str j) k↔k (.bl (decide (i=j))):=by
 have e:decide (ofS (.str i)=ofS (.str j))=decide (i=j):=by simp[ofS]
 unfold zG5;rw[e];exact⟨λh=>h.2.2.2,λh=>⟨rfl,rfl,rfl,h⟩⟩
mutual
def okT:D->Nat->Bool
 |.non,_=>true
 |.bl _,_=>true
 |.int _,_=>true
 |.str _,_=>true
 |.tup ds,k=>match k with
  |0=>false
  |k+1=>decide (ds.length<=1000)&&zP1 ds k
 |_,_=>false
def zP1:List D->Nat->Bool
 |[],_=>true
 |d::ds,k=>okT d k&&zP1 ds k
end
theorem JH:∀{ds:List D}{k:Nat},zP1 ds k=true↔∀d∈ds,okT d k=true
 |[],k=>by unfold zP1;simp
 |c::ds,k=>by
  unfold zP1;rw[zv,JH];simp
def qd{ds:List D}{k:Nat}:okT (.tup ds) (k+1)=true↔(ds.length<=1000/\∀d∈ds,okT d k=true):=by
 have e:okT (.tup ds) (k+1)=(decide (ds.length<=1000)&&zP1 ds k):=by rw[okT]
 rw[e,zv,decide_eq_true_iff,JH]
theorem Vq:∀{ds:List D}{k:Nat},KU ds k=true↔∀d∈ds,okE d k=true
 |[],k=>by unfold KU;simp
 |c::ds,k=>by
  unfold KU;rw[zv,Vq];simp
def zi3{ds:List D}{k:Nat}:okE (.tup ds) (k+1)=true↔∀d∈ds,okE d k=true:=by
 have e:okE (.tup ds) (k+1)=KU ds k:=by rw[okE]
 rw[e,Vq]
def zP2(es:List D)(k:List D->Prop):Prop:=∃d1 d2 b1 xs b2 ys,es=[d1,d2]/\Xb d1=some (b1,xs)/\Xb d2=some (b2,ys)/\k (VM xs ys)
@[simp] theorem xj9{t:TAD}{rho n P}:zY0 t rho n P↔t rho n λes n1=>zP2 es λl=>P l n1:=Iff.rfl
def JB{d1 d2:D}{b1 b2 xs ys}{k:List D->Prop}(h1:Xb d1=some (b1,xs))(h2:Xb d2=some (b2,ys)):zP2 [d1,d2] k↔k (VM xs ys):=by
 constructor
 ·rintro⟨_,_,_,_,_,_,e,e1,e2,h⟩;cases e;rw[h1] at e1;rw[h2] at e2;cases e1;cases e2;exact h
 ·intro h;exact⟨_,_,_,_,_,_,rfl,h1,h2,h⟩
@[simp] theorem xb7{xs ys}{k:List D->Prop}:zP2 [.tup xs,.tup ys] k↔k (VM xs ys):=JB rfl rfl
@[simp] theorem xb8{xs ys}{k:List D->Prop}:zP2 [.tup xs,.lst ys] k↔k (VM xs ys):=JB rfl rfl
@[simp] theorem xb9{xs ys}{k:List D->Prop}:zP2 [.lst xs,.tup ys] k↔k (VM xs ys):=JB rfl rfl
@[simp] theorem xc0{xs ys}{k:List D->Prop}:zP2 [.lst xs,.lst ys] k↔k (VM xs ys):=JB rfl rfl
section
variable {X:Cx}
end
section
variable {A:AC}
def zX3:List D->(D->Prop)->Prop:=λes k=>∃i j,es=[.int i,.int j]/\k (.int (if j > i then j else i))
def zX2:List D->(D->Prop)->Prop:=λes k=>∃i j,es=[.int i,.int j]/\k (.int (if j<i then j else i))
@[simp] theorem xj5{i j k}:zX3 [.int i,.int j] k↔k (.int (if j > i then j else i)):=⟨fun⟨_,_,e,h⟩=>by cases e;exact h,λh=>⟨_,_,rfl,h⟩⟩
@[simp] theorem xj4{i j k}:zX2 [.int i,.int j] k↔k (.int (if j<i then j else i)):=⟨fun⟨_,_,e,h⟩=>by cases e;exact h,λh=>⟨_,_,rfl,h⟩⟩
def zn5:vH A (λxs H Q=>∃i j,xs=[.int i,.int j]/\Q (.int (if j > i then j else i)) H) zX3:=by
 rintro os n rho sg H ds vs es ws k Q I rs ⟨i,j,rfl,q⟩ hQ;obtain⟨v,v',rfl,r,r'⟩:=KC rs
 exact⟨i,j,by rw[r.int_inv,r'.int_inv],hQ _ H _ ⟨os,I.push (Rep.ofS rfl)⟩ q⟩
def zO2:vH A (λxs H Q=>∃i j,xs=[.int i,.int j]/\Q (.int (if j<i then j else i)) H) zX2:=by
 rintro os n rho sg H ds vs es ws k Q I rs ⟨i,j,rfl,q⟩ hQ;obtain⟨v,v',rfl,r,r'⟩:=KC rs
 exact⟨i,j,by rw[r.int_inv,r'.int_inv],hQ _ H _ ⟨os,I.push (Rep.ofS rfl)⟩ q⟩
def zD6:bootBuiltins "max" = some (.builtin "max"):=x5
def zZ7:bootBuiltins "min" = some (.builtin "min"):=x5
end
def zL6{ds:List D}{k:Nat}:okE (.lst ds) (k+1)=true↔∀d∈ds,okE d k=true:=by
 have e:okE (.lst ds) (k+1)=KU ds k:=by rw[okE]
 rw[e,Vq]
def zB5(K:W.Frag):R2:=λx y H Q=>∃a b xs ys,x=.ref a/\y=.ref b/\SqT K H a xs/\SqT K H b ys/\xs.length+ys.length<=sizeLine /\
 (xs=[]->Q (.ref b) H)/\(xs≠[]->ys=[]->Q (.ref a) H)/\(xs≠[]->ys≠[]->∀p,H p=none->Q (.ref p) (upd H p (.tup (xs++ys))))
section
variable {X:Cx}
def zu7:OpR X (binaryOp .Add) (zB5 X.K):=by
 intro pins s σ H x y v u Q I rx ry h;obtain⟨a,b,xs,ys,rfl,rfl,ha,hb,hz,q0,q1,q2⟩:=h
 by_cases hx:xs=[]
 ·cases rx;cases ry;obtain⟨its,r1,p1,_⟩:=I.tuple ha;obtain⟨its2,r2,p2,_⟩:=I.tuple hb;have hi:its=[]:=r1.nil_iff.mpr hx;obtain⟨⟨cls,dd,data,sl⟩,ho,hc,n,hd⟩:=id p1;obtain⟨⟨cls2,dd2,data2,sl2⟩,ho2,hc2,n2,hd2⟩:=id p2;simp only at hc hd hc2 hd2;subst hc hd hc2 hd2
  exact PySem.concat_meets ⟨_,ho,rfl⟩ ⟨_,ho2,rfl⟩ PySem.noFill_tuple_add PySem.seq_tuple_add PySem.F.slot_tuple_add PySem.F.entry_tuple_add (PySem.F.args_tuple_add_2 _ _)
   (tuple_addW0 a b its.toArray its2.toArray n n2 dd dd2 sl sl2 (by simp[hi])) ⟨ho,ho2,⟨.ref b,H,I,rfl,q0 hx⟩⟩
 ·exact zK3 pins s σ H _ _ v u Q I rx ry ⟨a,b,xs,ys,rfl,rfl,ha,hb,hx,hz,q1 hx,q2 hx⟩
end
section
variable {A:AC}
def zB4:RD2:=λd1 d2 k=>∃es fs,d1=.tup es/\d2=.tup fs/\es.length+fs.length<=sizeLine/\k (.tup (es++fs))
@[simp] theorem xb6{es fs k}:zB4 (.tup es) (.tup fs) k↔(es.length+fs.length<=sizeLine/\k (.tup (es++fs))):=⟨fun⟨_,_,e,e',h⟩=>by cases e;cases e';exact h,λh=>⟨_,_,rfl,rfl,h⟩⟩
def zG2:kf A (zB5 A.K) zB4:=by
 rintro os n rho sg H ds vs d1 d2 v1 v2 k Q I ⟨es,fs,rfl,rfl,hz,q⟩ hQ;obtain⟨I1,r2⟩:=I.pop;obtain⟨I2,r1⟩:=I1.pop;have r1':=r1;have r2':=r2;obtain⟨a,xs,e,sq,rs⟩:=r1.tup_inv;obtain⟨b,ys,e',sq',rs'⟩:=r2.tup_inv;subst e e'
 refine⟨a,b,xs,ys,rfl,rfl,sq.sq,sq'.sq,by rw[rs.length,rs'.length];exact hz,λhx=>?_,λhx hy=>?_,λhx hy p hp=>?_⟩
 ·have he : es = [] := by have := rs.length; rw [hx] at this; exact List.eq_nil_of_length_eq_zero this.symm
  subst he;exact hQ _ H _ ⟨os,I2.push r2'⟩ q
 ·have he : fs = [] := by have := rs'.length; rw [hy] at this; exact List.eq_nil_of_length_eq_zero this.symm
  subst he;rw[xv] at q;exact hQ _ H _ ⟨os,I2.push r1'⟩ q
 ·exact hQ _ _ _ ⟨os,I2.newTup (rs.append rs') hp⟩ q
end
section
variable {A:AC}{X:Cx}{a b c e:Expr}{es:List Expr}{te ta tb tc:TD}{t1:TAD}{pos p:Pos}
def VA(d:D)(k:Int->Prop):Prop:=∃i,d=.int i/\k i
@[simp] theorem xj8{i:Int}{k}:VA (.int i) k↔k i:=⟨fun⟨_,e,h⟩=>by cases e;exact h,λh=>⟨_,rfl,h⟩⟩
def zD4(f g:Int->Int->Bool)(ta tb tc:TD):TD:=λrho n P=>ta rho n λd1 n1=>tb rho n1 λd2 n2=>VA d1 λi=>VA d2 λj=>if f i j=true then tc rho n2 λd3 n3=>VA d3 λk=>P (.bl (g j k)) n3 else P (.bl false) n2
@[simp] theorem xc8{f g ta tb tc rho n P}:zD4 f g ta tb tc rho n P=ta rho n λd1 n1=>tb rho n1 λd2 n2=>VA d1 λi=>VA d2 λj=>if f i j=true then tc rho n2 λd3 n3=>VA d3 λk=>P (.bl (g j k)) n3 else P (.bl false) n2:=rfl
def zu3{op op':CmpOp}{f g:Int->Int->Bool}(ho:OpR X (compareOp op) (rI0 λi j=>.bl (f i j)))(ho':OpR X (compareOp op') (rI0 λi j=>.bl (g i j)))(ha:PD A X a ta)(hb:PD A X b tb)(hc:PD A X c tc)
  (hm:lastMarks [op,op'] [b,c]=false:=by with_unfolding_all rfl):PD A X (.Compare a [op,op'] [b,c] pos) (zD4 f g ta tb tc):=by
 exists (zt9 ho ho' ha hb hc hm).imp λsg H Q h=>by
   obtain⟨rho,n,P,ds,vs,I,h,hQ⟩:=h;refine⟨rho,n,_,ds,vs,I,h,λv H1 n1 d1 I1 h1=>⟨rho,n1,_,_,_,I1,h1,λv2 H2 n2 d2 ⟨os2,I2⟩ h2=>?_⟩⟩;obtain⟨i,rfl,j,rfl,h2⟩:=h2;obtain⟨I3,r2⟩:=I2.pop;obtain⟨I4,r1⟩:=I3.pop;refine⟨i,j,r1.int_inv,r2.int_inv,f i j,rfl,?_⟩
   by_cases hf:f i j=true
   ·rw[if_pos hf] at h2 ⊢;refine⟨rho,n2,_,_,_,⟨os2,I4⟩,h2,λv3 H3 n3 d3 ⟨os3,I5⟩ h3=>?_⟩;obtain⟨k,rfl,h3⟩:=h3;obtain⟨I6,r3⟩:=I5.pop;exact⟨j,k,r2.int_inv,r3.int_inv,hQ _ H3 n3 _ ⟨os3,I6.push (Rep.ofS (d:=.bl (g j k)) rfl)⟩ h3⟩
   ·rw[if_neg hf] at h2 ⊢;exact hQ _ H2 n2 _ ⟨os2,I4.push (Rep.ofS (d:=.bl false) rfl)⟩ h2
def zx4{K:W.Frag}{mg:Str->Option Value}{x:Str}{i:Int}{t:Tok}(hm:mg x=some (.int i t)):zp7 K mg x (.int i):=⟨.int i,_,hm,⟨t,rfl⟩,λG Z H=>.ofS (d:=.int i) rfl⟩
end
section
variable {X:Cx}{A:AC}
end
def zq6{x y:Str}{px py pt:Pos}{kt k2 pt2}{a b:Expr}{env:Env}(hk:env.blockKind=.function)(hx:env.kindOf x=some .local)(hy:env.kindOf y=some .local)(hl:py.line=px.line)(hxy:x≠y)
  (hsa:yR a=false) (hsb:yR b=false) (hf:[a,b].all (foldedForSure 8)=false) (hc:[a,b].all (constantsAlone 8)=false) :
  swappedStores [.Tuple [.Name x px,.Name y py] kt pt] (.Tuple [a,b] k2 pt2) env=pure (some [x,y]):=by
 have e2:(y == x)=false:=beq_false_of_ne (Ne.symm hxy);have e:(Expr.Name x px).pos.line=px.line:=rfl;unfold swappedStores;simp[hk,hx,hy,hl,hf,hc,e,List.eraseDups,List.eraseDupsBy,List.eraseDupsBy.loop,e2];intro h
 exfalso
 rcases h with h |h
 ·cases a<;>first |(simp at h;done) |(simp[yR] at hsa;done)
 ·cases b<;>first |(simp at h;done) |(simp[yR] at hsb;done)
section
variable {A:AC}{X:Cx}{a b:Expr}{pos:Pos}
def JD{i j:Nat}{x y:Str}{ta:TAD}{px py pt:Pos}{kt k2 pt2}(hc:X.calm=true)(hN:X.N.Nodup)(hi:X.N[i]?=some x)(hj:X.N[j]?=some y)(hij:i≠j)
  (hx:X.env.scope.names.lookup x=some .local) (hy:X.env.scope.names.lookup y=some .local) (ha:PAD A X [a,b] ta)
  (hk:X.env.blockKind=.function:=by rfl) (hl:py.line=px.line:=by rfl) (hxy:x≠y:=by decide) (hsa:yR a=false:=by rfl) (hsb:yR b=false:=by rfl) (hf:[a,b].all (foldedForSure 8)=false:=by decide +kernel) (hca:[a,b].all (constantsAlone 8)=false:=by decide +kernel) :
  PSD A X (.Assign [.Tuple [.Name x px,.Name y py] kt pt] (.Tuple [a,b] k2 pt2) pos) (xe9 i j ta):=by
 exists 
   zH4 hc hN hi hj hij hx hy ha (zq6 hk hx hy hl hxy hsa hsb hf hca) rfl
end
end L2
namespace L2
open PySem PySem.Spec PyProof.Rows HT
section
variable {prog:Program}{w:World}{A:Around}{E:Value->Shared->Prop}{s:Shared}
def jU{t sl:Addr}{items:Array Value}{vl vu:Value}{lo hi:Option Int}{Q:Value->Shared->Prop}(ht:IsTup s.heap t items)(hs:s.heap.IsSliceOf sl vl vu .none)(pl:IsPart vl lo)(pu:IsPart vu hi)
  (h1:sIx items.size 0 lo=0) (h2:sIx items.size items.size hi=items.size) (h:Q (.ref t) s):wpAny (model prog w) A (getItem (.ref t) (.ref sl)) Q E s:=by
 obtain⟨os,hos,hcs,hds⟩:=id hs;have hTs:s.TypeIs (.ref sl) "slice" := ⟨os,hos,hcs⟩;unfold getItem
 try with_reducible refine wq ?_
 first |refine zc (zo ?_) |skip
 refine zc (wpAny_sequenceKey ht.typeIs w9 ?_)
 refine zc (xY (name:=Str.ofString "__getitem__") ht.typeIs PyProof.Rows.slot_tuple_getitem
  (wQ PyProof.Rows.slot_tuple_getitem ht.typeIs entry_tuple_getitem ?_ (args_tuple_getitem _ _)))
 show wpAny _ _ (Builtin.Tuple.tupleItemsOf (.ref t) >>= _) _ _ s;refine zc (tupleItemsOf_ ht ?_);refine zc (wpAny_typeOf hTs ?_)
 rw[if_pos w9]
 refine zc (qA hs pl pu ?_)
 have hyes:((((sIx items.size 0 lo:Nat):Int) == 0&&(1:Int) == 1&&(sIx items.size items.size hi-sIx items.size 0 lo) == items.size)=true):=by
  rw[h1,h2];simp
 show wpAny _ _ (if (((sIx items.size 0 lo:Nat):Int) == 0&&(1:Int) == 1&&(sIx items.size items.size hi-sIx items.size 0 lo) == items.size)=true then _ else _) _ _ s
 rw[if_pos hyes];obtain⟨⟨cls,dd,data,sl'⟩,ho,hc,n,hd⟩:=id ht;simp only at hc hd;subst hc hd;unfold Builtin.Tuple.tupleIsExact;obtain⟨hp,g,d,tk,os'⟩:=s
 wp_walk
 exact⟨_,rfl,zo h⟩
end
section
variable {X:Cx}
def xf2(K:W.Frag):V->Option Int->Option Int->Hp->VK->Prop:=λx lo hi H Q=>∃a xs,x=.ref a/\SqT K H a xs /\
 ((HT.sIx xs.length 0 lo=0/\HT.sIx xs.length xs.length hi=xs.length)->Q (.ref a) H)/\(¬ (HT.sIx xs.length 0 lo=0/\HT.sIx xs.length xs.length hi=xs.length)->∀p,H p=none->Q (.ref p) (upd H p (.tup (zy5 xs lo hi))))
def zF1:SlR X (xf2 X.K):=by
 intro pins s σ H x v vl vu lo hi sl Q I rx hs pl pu h;obtain⟨a,xs,rfl,hx,q1,q2⟩:=h
 by_cases hw:HT.sIx xs.length 0 lo=0/\HT.sIx xs.length xs.length hi=xs.length
 ·cases rx;obtain⟨its,r,ht,hz⟩:=I.tuple hx
  have hlen:its.toArray.size=xs.length:=by rw[zB];exact r.length.symm
  refine⟨"tuple",_,PyProof.Rows.slot_tuple_getitem.lookup,ht.typeIs,?_⟩
  exact jU ht hs pl pu (by rw[hlen];exact hw.1) (by rw[hlen];exact hw.2) ⟨.ref a,H,I,rfl,q1 hw⟩
 ·exact zQ5 pins s σ H (.ref a) v vl vu lo hi sl Q I rx hs pl pu ⟨a,xs,rfl,hx,hw,q2 hw⟩
end
abbrev TOD:=Rho->Nat->(Option Int->Nat->Prop)->Prop
def oOf(A:AC)(t:TOD):TO:=λsg H Q=>∃rho n P ds vs,Am A n rho sg H ds vs/\t rho n P/\∀o H' n',Am A n' rho sg H' ds vs->P o n'->Q o H'
@[irreducible] def POD(A:AC)(X:Cx)(e:Option Expr)(t:TOD):Prop:=PO X e (oOf A t)
def PO.imp{X:Cx}{e:Option Expr}{t t':TO}(h:PO X e t)(hi:∀sg H Q,t' sg H Q->t sg H Q):PO X e t':=λpins s sg H Q I q=>h pins s sg H Q I (hi _ _ _ q)
section
variable {A:AC}{X:Cx}{a b c e:Expr}{es:List Expr}{te ta tb tc:TD}{t1:TAD}{pos p:Pos}
def zW2:TOD:=λ_ n P=>P none n
def zW1(t:TD):TOD:=λrho n P=>t rho n λd n1=>VA d λi=>P (some i) n1
@[simp] theorem xj0{rho n P}:zW2 rho n P=P none n:=rfl
@[simp] theorem xi9{t rho n P}:zW1 t rho n P=t rho n λd n1=>VA d λi=>P (some i) n1:=rfl
def yr:POD A X none zW2:=by
 exists ze5.imp λsg H Q h=>by
   obtain⟨rho,n,P,ds,vs,I,h,hQ⟩:=h;exact hQ none H n I h
def wT(h:PD A X e te):POD A X (some e) (zW1 te):=by
 exists (ze4 h).imp λsg H Q h=>by
   obtain⟨rho,n,P,ds,vs,I,h,hQ⟩:=h;refine⟨rho,n,_,ds,vs,I,h,λv H' n' d ⟨os,J⟩ k=>?_⟩;obtain⟨i,rfl,k⟩:=k;obtain⟨J1,r⟩:=J.pop;exact⟨i,r.int_inv,hQ _ H' n' ⟨os,J1⟩ k⟩
def zE2(d:D)(k:List D->Prop):Prop:=∃fs,d=.tup fs/\k fs
@[simp] theorem xf6{fs:List D}{k}:zE2 (.tup fs) k↔k fs:=⟨fun⟨_,e,h⟩=>by cases e;exact h,λh=>⟨_,rfl,h⟩⟩
def xt8(ta:TD)(tl th:TOD):TD:=λrho n P=>ta rho n λd n1=>tl rho n1 λlo n2=>th rho n2 λhi n3=>zE2 d λfs=>P (.tup (Yx fs lo hi)) n3
@[simp] theorem xq8{ta tl th rho n P}:xt8 ta tl th rho n P=ta rho n λd n1=>tl rho n1 λlo n2=>th rho n2 λhi n3=>zE2 d λfs=>P (.tup (Yx fs lo hi)) n3:=rfl
def zn3{fs:List D}{lo hi:Option Int}(h:HT.sIx fs.length 0 lo=0/\HT.sIx fs.length fs.length hi=fs.length):Yx fs lo hi=fs:=by
 unfold Yx;rw[h.1,h.2,drop_zero,Nat.sub_zero,wn]
def zf4{le he:Option Expr}{tl th:TOD}{p2:Pos}(hK:X.K=A.K)(ha:PD A X a ta)(hl:POD A X le tl)(hh:POD A X he th):PD A X (.Subscript a (.Slice le he none p2) pos) (xt8 ta tl th):=by
 exists (YN zF1 ha hl hh).imp λsg H Q h=>by
   obtain⟨rho,n,P,ds,vs,I,ht,hQ⟩:=h;refine⟨rho,n,_,ds,vs,I,ht,λv H1 n1 d J1 h1=>⟨rho,n1,_,_,_,J1,h1,λlo H2 n2 J2 h2=>⟨rho,n2,_,_,_,J2,h2,λhi H3 n3 ⟨os,J3⟩ h3=>?_⟩⟩⟩;obtain⟨fs,rfl,k⟩:=h3;obtain⟨J4,r⟩:=J3.pop;have r':=r;obtain⟨l,xs,rfl,sq,rs⟩:=r.tup_inv;rw[hK];have hlen:xs.length=fs.length:=rs.length;refine⟨l,xs,rfl,sq.sq,λhw=>?_,λhw p hp=>hQ _ _ n3 _ ⟨os,J4.newTup (Zf rs lo hi) hp⟩ k⟩;rw[hlen] at hw;rw[zn3 hw] at k;exact hQ _ H3 n3 _ ⟨os,J4.push r'⟩ k
def jV:D->Bool
 |.non=>true |.bl _=>true |.int _=>true |.str _=>true |_=>false
def inD(x:D)(es:List D):Bool:=es.any λy=>eqD y x
def zl4{K:W.Frag}{G:Option Addr}{Z:Addr->Prop}{H:Hp}{d:D}{v:V}(h:jV d=true)(r:Rep K G Z H d v):v=ofS d/\Wf v=true:=by
 cases d<;>first |(have e:=r.toS rfl;subst e;exact⟨rfl,rfl⟩) |(simp[jV] at h;done)
def xm7{x y:D}(hx:jV x=true)(hy:jV y=true):eqV (ofS y) (ofS x)=eqD y x:=by
 cases x<;>cases y<;>first |(simp[jV] at hx;done) |(simp[jV] at hy;done) |(simp[eqV,eqD,ofS];done) |(simp[eqV,eqD,ofS];rfl)
theorem zM9{K:W.Frag}{G:Option Addr}{Z:Addr->Prop}{H:Hp}{x:D}(hx:jV x=true):∀{es:List D}{vs:List V},es.all jV=true->Reps K G Z H es vs->inV (ofS x) vs=inD x es/\vs.all Wf=true
 |[],vs,_,r=>by rw[r.nil_inv];exact⟨rfl,rfl⟩
 |d::es,vs,h,r=>by
  rw[ym,zv] at h;obtain⟨v,w,rfl,q,t⟩:=r.split;obtain⟨e,f⟩:=zl4 h.1 q;obtain⟨e2,f2⟩:=zM9 hx h.2 t;subst e
  constructor
  ·unfold inV inD at e2 ⊢;rw[yl,yl,e2,xm7 hx h.1]
  ·rw[ym,f,f2];rfl
def zp5(neg:Bool):RD2:=λd1 d2 k=>jV d1=true/\∃es,(d2=.tup es\/d2=.lst es)/\es.all jV=true/\k (.bl (if neg then !inD d1 es else inD d1 es))
def KD{neg:Bool}:kf A (rIn A.K neg) (zp5 neg):=by
 rintro os n rho sg H ds vs d1 d2 v1 v2 k Q I ⟨h1,es,hd,hf,q⟩ hQ;obtain⟨I1,r2⟩:=I.pop;obtain⟨I2,r1⟩:=I1.pop;obtain⟨e1,f1⟩:=zl4 h1 r1;subst e1
 rcases hd with rfl |rfl
 ·obtain ⟨a, xs, e, sq, rs⟩ := r2.tup_inv;obtain⟨z1,z2⟩:=zM9 h1 hf rs
  exact⟨a,xs,e,.inr sq.sq,f1,z2,by rw[z1];exact hQ _ H _ ⟨os,I2.push (Rep.ofS rfl)⟩ q⟩
 ·obtain ⟨a, xs, e, sq, rs⟩ := r2.lst_inv;obtain⟨z1,z2⟩:=zM9 h1 hf rs
  exact⟨a,xs,e,.inl sq.sq,f1,z2,by rw[z1];exact hQ _ H _ ⟨os,I2.push (Rep.ofS rfl)⟩ q⟩
end
end L2
namespace L2
section
variable {A:AC}{X:Cx}{a b c e:Expr}{es:List Expr}{te ta tb tc:TD}{t1:TAD}{pos p:Pos}
end
section
variable {A:AC}{X:Cx}
end
section
variable {A:AC}{X:Cx}{pos p:Pos}
end
section
variable {A:AC}{X:Cx}{a b e:Expr}{ta tb:TD}{pos p:Pos}
def xt3:List D->(D->Prop)->Prop:=λes k=>∃i:Int,es=[.int i]/\i.natAbs.log2<1920/\k (.str (toString i))
@[simp] theorem xq0{i:Int}{k}:xt3 [.int i] k↔(i.natAbs.log2<1920/\k (.str (toString i))):=⟨fun⟨_,e,h⟩=>by cases e;exact h,λh=>⟨_,rfl,h⟩⟩
def zn4:vH A (λxs H Q=>∃i:Int,xs=[.int i]/\i.natAbs.log2<1920/\Q (.str (toString i)) H) xt3:=by
 rintro os n rho sg H ds vs es ws k Q I rs ⟨i,rfl,hz,q⟩ hQ;obtain⟨v,rfl,r⟩:=Zg rs
 exact⟨i,by rw[r.int_inv],hz,hQ _ H _ ⟨os,I.push (Rep.ofS rfl)⟩ q⟩
end
end L2
namespace L2
open PySem PySem.Spec PyProof.Rows HT
section
variable {prog:Program}{w:World}{A:Around}{E:Value->Shared->Prop}{s:Shared}
theorem JW{f g:Nat->Option Value}:∀{l:List Nat},(∀x∈l,f x=g x)->l.filterMap f=l.filterMap g
 |[],_=>rfl
 |a::l,h=>by
  rw[wg,wg,h a (xi ..),JW λx hx=>h x (zh _ hx)]
def zt2(xs:Array Value):((List.range xs.size).filterMap fun(m:Nat)=>xs[((xs.size:Int)-1+(m:Int)*(-1)).toNat]?).toArray=xs.toList.reverse.toArray:=by
 have h:=JF xs.toList.reverse.toArray 0 xs.size
 have e:(List.range xs.size).filterMap (fun(m:Nat)=>xs[((xs.size:Int)-1+(m:Int)*(-1)).toNat]?)=(List.range xs.size).filterMap (fun(m:Nat)=>xs.toList.reverse.toArray[((0:Nat)+(m:Int)*1).toNat]?):=by
  refine JW λm hm=>?_;have hm':=List.mem_range.mp hm
  have e1:((xs.size:Int)-1+(m:Int)*(-1)).toNat=xs.size-1-m:=w6
  have e2:(((0:Nat):Int)+(m:Int)*1).toNat=m:=w6
  rw[e1,e2];simp only[List.getElem?_toArray]
  rw[List.getElem?_reverse (by simpa using hm')]
  simp
 rw[e,h]
 congr 1
 rw[drop_zero]
 exact zQ (by simp)
end
section
variable {X:Cx}{e:Expr}{te:TE}{pos p2:Pos}
end
section
variable {A:AC}{X:Cx}{a:Expr}{ta:TD}{pos p2 p3 p4:Pos}
theorem Reps.reverse{K:W.Frag}{G:Option Addr}{Z:Addr->Prop}{H:Hp}:∀{ds:List D}{vs:List V},Reps K G Z H ds vs->Reps K G Z H ds.reverse vs.reverse
 |[],vs,h=>by rw[h.nil_inv];exact .nil
 |d::ds,vs,h=>by
  obtain⟨v,r,rfl,q,t⟩:=h.split;rw[reverse_cons,reverse_cons];exact(Reps.reverse t).append (.cons q .nil)
end
end L2
namespace L2
open PySem PySem.Spec PyProof.Rows PySem.W PySem.Calls PySem.NumText
section
variable {A:AC}{X:Cx}{e:Expr}{te:TD}{pos:Pos}
def zA4(tc:TBD)(tb:TSD):TSD:=λF rho n=>∃J:Nat->Rho->Nat->Prop,(∃m,J m rho n)/\∀m rho n,J m rho n->tc rho n λb n1=>if b=true then tb { F with nx:=λrho' n'=>∃m',m'<m/\J m' rho' n',ct:=λrho' n'=>∃m',m'<m/\J m' rho' n',bk:=F.nx } rho n1 else F.nx rho n1
def zd9{c:Expr}{body:List Stmt}{tc:TBD}{tb:TSD}(hp:PassesOwn (model X.prog X.w) X.A X.env X.xe)(hc:PTD A X c tc)(hb:Qg A X body tb):PSD A X (.While c body [] pos) (zA4 tc tb):=by
 exists (zt0 hp hc hb).imp λE sg H h=>by
   obtain⟨rho,n,F,ds,vs,I,⟨J,⟨m0,j0⟩,turn⟩,ok⟩:=h;refine⟨λm sg H=>∃rho n,Am A n rho sg H ds vs/\J m rho n,⟨m0,rho,n,I,j0⟩,?_⟩;rintro m sg1 H1 ⟨rho1,n1,I1,j1⟩;refine⟨rho1,n1,_,ds,vs,I1,turn m rho1 n1 j1,λb H2 n2 I2 k=>?_⟩
   cases b with
   |true=>
    rw[if_pos rfl] at k ⊢;refine⟨λsg' H'=>∃m',m'<m/\∃rho n,Am A n rho sg' H' ds vs/\J m' rho n,λsg' H' ⟨m',hm,q⟩=>⟨m',hm,q⟩,rho1,n2,_,ds,vs,I2,k,?_⟩;exact⟨λrho6 n6 sg6 H6 I6 ⟨m',hm,k6⟩=>⟨m',hm,rho6,n6,I6,k6⟩,λd n6 v rho6 sg6 H6 I6 k6=>ok.rt _ _ _ _ _ _ I6 k6,λrho6 n6 sg6 H6 I6 k6=>ok.nx _ _ _ _ I6 k6,λrho6 n6 sg6 H6 I6 ⟨m',hm,k6⟩=>⟨m',hm,rho6,n6,I6,k6⟩⟩
   |false=>
    rw[if_neg zI] at k ⊢;exact ok.nx _ _ _ _ I2 k
@[simp] theorem xb0{tc tb F rho n}:zA4 tc tb F rho n=∃J:Nat->Rho->Nat->Prop,(∃m,J m rho n)/\∀m rho n,J m rho n->tc rho n λb n1=>if b=true then tb { F with nx:=λrho' n'=>∃m',m'<m/\J m' rho' n',ct:=λrho' n'=>∃m',m'<m/\J m' rho' n',bk:=F.nx } rho n1 else F.nx rho n1:=rfl
def zd1:RD2:=λd1 d2 k=>∃x y,d1=.str x/\d2=.str y/\x.length+y.length<=sizeLine/\k (.str (x++y))
def yW:kf A (λx y H Q=>∃i j,x=.str i/\y=.str j/\i.length+j.length<=sizeLine/\Q (.str (i++j)) H) zd1:=by
 rintro os n rho sg H ds vs d1 d2 v1 v2 k Q I ⟨x,y,rfl,rfl,hz,q⟩ hQ;obtain⟨I1,r2⟩:=I.pop;obtain⟨I2,r1⟩:=I1.pop;exact⟨x,y,r1.toS rfl,r2.toS rfl,hz,hQ _ H _ ⟨os,I2.push (Rep.ofS rfl)⟩ q⟩
@[simp] theorem JA{x y k}:zd1 (.str x) (.str y) k↔(x.length+y.length<=sizeLine/\k (.str (x++y))):=⟨fun⟨_,_,e,e',h⟩=>by cases e;cases e';exact h,λh=>⟨_,_,rfl,rfl,h⟩⟩
def zK1:OpR X (binaryOp .Mult) (λx y H Q=>∃i n,x=.str i/\y=.int n/\MulOk i n/\Q (.str (Txt.mul i n)) H):=by
 intro pins s σ H x y v u Q I rx ry h;obtain⟨i,n,rfl,rfl,hz,q⟩:=h;obtain⟨t,rfl⟩:=rx;obtain⟨t',rfl⟩:=ry;exact SB.mul hz λt' k=>⟨.str (Txt.mul i n),H,I.tok _,⟨_,rfl⟩,q⟩
def zB2:RD2:=λd1 d2 k=>∃x i,d1=.str x/\d2=.int i/\MulOk x i/\k (.str (Txt.mul x i))
def zF9:kf A (λx y H Q=>∃i n,x=.str i/\y=.int n/\MulOk i n/\Q (.str (Txt.mul i n)) H) zB2:=by
 rintro os n rho sg H ds vs d1 d2 v1 v2 k Q I ⟨x,y,rfl,rfl,hz,q⟩ hQ;obtain⟨I1,r2⟩:=I.pop;obtain⟨I2,r1⟩:=I1.pop;exact⟨x,y,r1.toS rfl,r2.toS rfl,hz,hQ _ H _ ⟨os,I2.push (Rep.ofS rfl)⟩ q⟩
@[simp] theorem xb3{x i k}:zB2 (.str x) (.int i) k↔(MulOk x i/\k (.str (Txt.mul x i))):=⟨fun⟨_,_,e,e',h⟩=>by cases e;cases e';exact h,λh=>⟨_,_,rfl,rfl,h⟩⟩
end
def zD9{M:Model}{A:Around}{E:Value->Shared->Prop}{s:Shared}{Q:Value->Shared->Prop}{v:Value}{text:List Nat}{n:Int}
    (hs:¬ (text.takeWhile (· != 0)).length<=640) (hr:(int_private% "readNumeral") 4300 10 (text.takeWhile (· != 0))=(int_private% "Numeral.value") n)
    (ha:((text.takeWhile (· != 0)).length == text.length)=true) (hn:s.heap.NoDigits) (h:Q (.int n s.toks) { s with toks:=s.toks+1 }) :
    wpAny M A ((int_private% "intFromText") v text 10) Q E s:=by
  obtain⟨mc,hns,hnone⟩:=hn;obtain⟨hp,g,d,tk,os⟩:=s
  have hi:∀{Q:Nat->Shared->Prop},Q 4300 ⟨hp,g,d,tk,os⟩->wpAny M A Builtin.intMaxStrDigits Q E ⟨hp,g,d,tk,os⟩:=λ{Q} q=>by
    unfold Builtin.intMaxStrDigits;refine zc (wpAny_nsGet hns ?_);rw[hnone];exact zo q
  repeat (any_goals (first
    |assumption
    |(with_reducible refine wpAny_ite_false (zO hs) ?_)
    |(with_reducible refine wpAny_ite_true (xm ha) ?_)
    |(with_reducible refine hi ?_)
    |wp_step))
  all_goals (try rw[hr])
  all_goals (try dsimp only)
  repeat (any_goals (first
    |assumption
    |(with_reducible refine wpAny_ite_true (xm ha) ?_)
    |wp_step))
set_option maxHeartbeats 4000000 in
def QE{x:PySem.Str}{u:Tok}{n:Int}(hs:¬ (numSeenOf x).length<=640)(hl:x.length<=sizeLine)(hn:PySem.intText? x=some n):Meets (Builtin.«int.__new__» ⟨[.type "int",.str x u],[]⟩) (λA R s=>s.heap.NoDigits/\R (.ok (.ret (.int n s.toks))) { s with toks:=s.toks+1 }):=by
 intro prog w A R s h;obtain⟨hd,h⟩:=h;obtain⟨hp,g,d,tk,os⟩:=s;have f1:=F.conv_sub_int;have f2:=F.madeHere_int;have f3:=KIN.str_int;have f4:=KIN.str_idx;have f5:=KIN.str_trunc;have f6:typeOf (.str x u)=pure (.type "str"):=rfl
 have hr:(int_private% "readNumeral") 4300 10 (numSeenOf x)=(int_private% "Numeral.value") n/\((numSeenOf x).length == (numTextOf x).length)=true:=by
  rcases read4300 x hl with ⟨m,h1,h2,h3⟩ |⟨h1,_⟩
  ·rw[hn] at h1;injection h1 with h1;subst h1;exact⟨h3,h2⟩
  ·rw[hn] at h1;cases h1
 have hk:=KIN.Hid.mk (And.intro hs (And.intro hr hd));clear hs hr hl hn hd
 repeat (any_goals (first
  |assumption
  |((with_reducible show wpAny _ _ ((int_private% "intFromText") _ _ _) _ _ _);refine zD9 hk.out.1 hk.out.2.1.1 hk.out.2.1.2 hk.out.2.2 ?_)
  |wp_step))
def zo5{prog:Program}{w:World}{A:Around}{E:Value->Shared->Prop}{s:Shared}{Q:Value->Shared->Prop}{x:PySem.Str}{t:Tok}{n:Int}(hs:¬ (numSeenOf x).length<=640)(hl:x.length<=sizeLine)(hn:PySem.intText? x=some n)(hd:s.heap.NoDigits)(h:Q (.int n s.toks) { s with toks:=s.toks+1 }):wpAny (model prog w) A (call (.type "int") [.str x t]) Q E s:=
 call_int_1 (QE hs hl hn) ⟨hd,rfl,h⟩
section
variable {A:AC}{X:Cx}
def VB(hd:X.base.NoDigits):jw X (.type "int") (λxs H Q=>∃x n,xs=[.str x]/\¬ (numSeenOf x).length<=640/\x.length<=sizeLine/\PySem.intText? x=some n/\Q (.int n) H):=by
 intro pins s σ H xs us Q I r h;obtain⟨x,n,rfl,h1,h2,h3,q⟩:=h;obtain⟨u,rfl,t,rfl⟩:=VQ r;exact zo5 h1 h2 h3 (hd.keeps I.bk) ⟨.int n,H,I.tok _,⟨_,rfl⟩,q⟩
def xm1:List D->(D->Prop)->Prop:=λes k=>∃x n,es=[.str x]/\¬ (numSeenOf x).length<=640/\x.length<=sizeLine/\PySem.intText? x=some n/\k (.int n)
def zO3:vH A (λxs H Q=>∃x n,xs=[.str x]/\¬ (numSeenOf x).length<=640/\x.length<=sizeLine/\PySem.intText? x=some n/\Q (.int n) H) xm1:=by
 rintro os n rho sg H ds vs es ws k Q I rs ⟨x,m,rfl,h1,h2,h3,q⟩ hQ;obtain⟨v,rfl,r⟩:=Zg rs
 exact⟨x,m,by rw[r.toS rfl];rfl,h1,h2,h3,hQ _ H _ ⟨os,I.push (Rep.ofS rfl)⟩ q⟩
end
theorem JV:∀(k:Nat) (a:Array Nat),((replicate k #[48]).foldl (·++·) a).toList=a.toList++replicate k 48
  |0,a=>by simp
  | k + 1, a => by
    rw[List.replicate_succ,foldl_cons,JV k,Array.toList_append,append_assoc];rfl
def XN(k:Int)(h:1<k):(Str.ofString "1" ++ Txt.mul (Str.ofString "0") k).cps.toList=49::replicate k.toNat 48:=by
 have e:(Str.ofString "0").cps=#[48]:=x5
 have e1:(Str.ofString "1").cps=#[49]:=x5
 have el:(Str.ofString "0").length=1:=x5
 unfold Txt.mul
 rw[if_neg w6,if_neg (by simp[el];lia)]
 show((Str.ofString "1").cps++_).toList=_;rw[e1,Array.toList_append,e,JV];rfl
def Jd(k:Int)(h:700<k)(h2:k<4200):∃m:Int,0<m/\¬ (numSeenOf (Str.ofString "1" ++ Txt.mul (Str.ofString "0") k)).length<=640/\(Str.ofString "1" ++ Txt.mul (Str.ofString "0") k).length<=sizeLine/\PySem.intText? (Str.ofString "1" ++ Txt.mul (Str.ofString "0") k)=some m:=by
 have ec:=XN k w6
 generalize hx:Str.ofString "1" ++ Txt.mul (Str.ofString "0") k=x at *
 have hl:x.length=k.toNat+1:=by
  have:x.cps.toList.length=x.length:=ww;rw[<- this,ec];simp
 have hd:NumText.AllDigits x.cps.toList:=λc hc=>by
  rw[ec] at hc
  rcases zi.mp hc with rfl |hc
  ·lia
  ·rw[(List.mem_replicate.mp hc).2];lia
 refine⟨(NumText.digitsVal x.cps.toList:Nat),?_,?_,?_,intText_digits hd (by rw[ec];simp) w6⟩
 ·rw [ec]
  have:=NumText.digitsVal_pos (c:=49) (cs:=replicate k.toNat 48) w9
  lia
 ·rw[(numText_signs λc hc=>Or.inr (hd c hc)).2,ec];simp;lia
 ·rw[hl,sizeLine_eq];lia
def UD(k:Int)(h:1<k)(h2:k<10000):MulOk (Str.ofString "0") k:=by
 have el:(Str.ofString "0").length=1:=x5
 refine⟨by simp;lia,λ_ _=>?_,λ_ _=>?_⟩
 ·rw [el]
  have:1<=(2^63-1:Int)/k:=(Int.le_ediv_iff_mul_le w6).mpr w6
  intro z;exact absurd z (Int.not_lt.mpr this)
 ·rw [el];unfold Builtin.Str.tooLong
  exact zO (by rw[sizeLine_eq];lia)
end L2
namespace L2
def zj4{P:Program}{w:World}{K:W.Frag}{mg mb:Str->Option Value}{CX:CXT}{k:Nat}{fa a:Addr}{fd:FuncData}{x:Str}{sp:Sp}{s₁:Shared}{vs:List Value}{ns:List Int}
  (KX:K.In s₁.heap) (hns:s₁.heap.Ns mainGlobals mg) (hb:s₁.heap.Ns builtinsNs mb) (hbb:∀x:Str,x ≠ "__name__" -> mb x=bootBuiltins x) (hlim:s₁.heap.NoLimit) (hdig:s₁.heap.NoDigits) (hg:s₁.gens=#[])
  (ha:s₁.heap.get? a=some { cls:=.type "list",data:=.seq vs.toArray }) (hi:IntsAre vs ns) (hl:ns.length<=sizeLine) (hr:Room k callerA)
  (F:∀base:Heap,K.In base->base.Ns mainGlobals mg->base.NoDigits->FnOk P w K mg base CX k fa fd [x] sp) (hbind:∀(s:Shared) (u:Value),BindsTo s fd ⟨[u],[]⟩ [(x,u)])
  (hsp:∀H:Hp,xd2 H->SqL K H a (ns.map V.int)->sp [.ref a] H (λv _=>v=.bl true) λ_ _ _=>False)
  (hCX:∀H e s',CX [] H s₁ (λ_ _ _=>False) e s'->False) :
  codeAny (model P w) callerA (.call (.ref fa) ⟨[.ref a],[]⟩) (λr s'=>r=.ok (.ret (.bool true))/\OldK s₁.heap s'.heap/\s'.os=s₁.os/\AllBare s'.gens) s₁:=by
 have rv:=VP hi;have lenV:=hi.length
 have core:∀H:Hp,xd2 H->SqL K H a (ns.map V.int)->HOk P w H s₁.heap->(∀b,H b≠none->b=a)->(H a≠none->K.lookup a=none) ->
   codeAny (model P w) callerA (.call (.ref fa) ⟨[.ref a],[]⟩) (λr s'=>r=.ok (.ret (.bool true))/\OldK s₁.heap s'.heap/\s'.os=s₁.os/\AllBare s'.gens) s₁:=by
  intro H hO hS hok hA hK;have base_of:∀{b:Addr}{o:Obj},s₁.heap.get? b=some o->H b=none->(zx0 s₁.heap H).get? b=some o:=λe n=>zw9 e n
  have noA:∀{b:Addr}{o:Obj}{es:Array DictEntry}{ep:Nat},s₁.heap.get? b=some o->o.data=.dict es ep->H b=none:=λ{b o es ep} e d=>by
   cases q:H b with
   |none=>rfl
   |some u=>
    have e':b=a:=hA b (by rw[q];simp)
    subst e';rw[ha] at e;cases e;have d':Data.seq vs.toArray _=Data.dict es ep:=d;cases d'
  have nsK:∀{b:Addr}{m:Str->Option Value},s₁.heap.Ns b m->(zx0 s₁.heap H).Ns b m:=λ{b m} ⟨o,es,ep,e,d,r⟩=>⟨o,es,ep,base_of e (noA e d),d,r⟩
  have hKb:K.In (zx0 s₁.heap H):=λb o e=>base_of (KX b o e) (by
   cases q:H b with
   |none=>rfl
   |some u=>
    have e':b=a:=hA b (by rw[q];simp)
    subst e'
    rw[hK (by rw[q];simp)] at e;cases e)
  have hM:Mod K mg (zx0 s₁.heap H):=⟨hKb,nsK hns,⟨mb,nsK hb,hbb⟩,let ⟨mc,h1,h2⟩:=hlim;⟨mc,nsK h1,h2⟩⟩
  have e0:Env0 P w K mg (zx0 s₁.heap H) callerA [] s₁ H:=⟨rfl,hM,λb o e=>zL7 e,Nat.le_of_eq (zk9 _ _),trivial,λb hb=>absurd (show b∈([]:List Addr) from hb) (by simp),hok,.of_eq hg⟩
  refine codeAny_mono ((F _ hKb (nsK hns) (let ⟨mc,h1,h2⟩:=hdig;⟨mc,nsK h1,h2⟩)).run callerA [] s₁ H ⟨[.ref a],[]⟩ [.ref a] [.ref a] _ _ hr e0 (hbind s₁ (.ref a)) (.cons rfl .nil) (hsp H hO hS)) λr s' h=>?_
  cases r with
  |error e=>exact(hCX H e s' h).elim
  | ok fl =>
   cases fl with
   |next=>exact False.elim h
   |brk=>exact False.elim h
   |cont=>exact False.elim h
   | ret u =>
    obtain⟨v,H',os,bare,un,hok',r',q⟩:=h;have q':v=.bl true:=q;subst q';obtain rfl:u=Value.bool true:=r';refine⟨rfl,OldK.of_keep λb o e=>?_,os,bare⟩
    cases q:H b with
    |none=>exact un.keep b o e q (by intro z;exact absurd (show b∈([]:List Addr) from z) (by simp)) (by simp)
    |some u=>
     rcases hO b with z |⟨ob,xs,z⟩
     ·rw[q] at z;cases z
     ·have z2:=un.frzs b ob _ z;obtain⟨e1,_⟩:=hok b _ z;obtain⟨e2,_⟩:=hok' b _ z2;rw[e] at e1;cases e1;exact e2
 cases hk:K.lookup a with
 |some o=>
  have e:=KX a o hk;rw[ha] at e;cases e
  refine core (λ_=>none) (λ_=>.inl rfl) (.inr ⟨_,vs.toArray,_,hk,rfl,rfl,rfl,by rw[zB,lenV];exact hl,by simpa using rv⟩) (λb u z=>by have z':(none:Option HO)=some u:=z;cases z') (λb z=>absurd rfl z) λz=>absurd rfl z
 | none =>
  refine core (λb=>if b=a then some (.frz { cls:=.type "list",data:=.seq vs.toArray } (.lst (ns.map V.int))) else none) (λb=>?_) (.inl (.inr ⟨{ cls:=.type "list",data:=.seq vs.toArray },if_pos rfl⟩)) (λb u z=>?_) (λb z=>?_) λ_=>hk
  ·by_cases hb : b = a
   ·exact .inr ⟨_,_,if_pos hb⟩
   ·exact .inl (if_neg hb)
  ·by_cases hb : b = a
   ·have z' := (if_pos hb).symm.trans z;cases z';subst hb
    exact⟨ha,by rw[zj];exact hl,vs,_,rv,ha⟩
   ·have z':=(if_neg hb).symm.trans z;cases z'
  ·by_cases hb : b = a
   ·exact hb
   ·exact absurd (if_neg hb) z
def zq0{l:W.OpenLaw}{n k:Nat}{q:Program}{loose:List Str}{XP:(Str->Option Value)->Heap->Prop}{YP:World->Heap->Prop}{d:DefRec}{K:Params->W.Frag}{CX:World->CXT}{sp:World->Sp}{x:Str}
  (hn:l.most=some n) (hn2:n<=sizeLine) (hdf:d.params.defaults=[]) (hr:Room k callerA)
  (hY:∀(w:World) (h:Heap),YP w h->(K w.params).In h)
  (F : ∀ (w : World) (mg : Str -> Option Value) (fa : Addr) (h : Heap), (K w.params).In h -> h.Ns mainGlobals mg -> mg d.name = some (.ref fa) ->
   ∃fd:FuncData,(∀(s:Shared) (u:Value),BindsTo s fd ⟨[u],[]⟩ [(x,u)]) /\
    ∀base:Heap,(K w.params).In base->base.Ns mainGlobals mg->base.NoDigits->FnOk l.prog w (K w.params) mg base (CX w) k fa fd [x] (sp w))
  (hsp:∀(w:World) (H:Hp) (a:Addr) (ns:List Int),ns.length<=n->xd2 H->SqL (K w.params) H a (ns.map V.int)->sp w [.ref a] H (λv _=>v=.bl true) λ_ _ _=>False)
  (hCX:∀(w:World) (H:Hp) (s:Shared) (e:Value) (s':Shared),CX w [] H s (λ_ _ _=>False) e s'->False) :
  W.WalkO q loose XP YP l.row.toRowW d [] (λf vs=>PySem.call f vs):=by
 refine Att.attach_call hn hdf λw s₀ s₁ mg mb fa o pm cd doc a vs ns G Y ho hd hcd hmg hobj hints hlen hg=>?_;have KX:=hY w _ Y;obtain⟨fd,hb,hF⟩:=F w mg fa _ KX G.T.g hmg;exact zj4 KX G.T.g G.T.b G.T.builtins G.T.nolimit G.T.nodigits hg hobj hints (zm hlen hn2) hr hF hb (λH hO hS=>hsp w H a ns hlen hO hS) λH e s'=>hCX w H s₁ e s'
end L2
namespace L2
open PySem PySem.Spec PyProof.Rows PySem.W PySem.Calls
def zq5{x y z:Str}{px py pz pt:Pos}{kt k2 pt2}{a b c:Expr}{env:Env}(hk:env.blockKind=.function)(hx:env.kindOf x=some .local)(hy:env.kindOf y=some .local)(hz:env.kindOf z=some .local)(hl:py.line=px.line)(hl2:pz.line=px.line)(hxy:x≠y)(hxz:x≠z)(hyz:y≠z)
  (hsa:yR a=false) (hsb:yR b=false) (hsc:yR c=false) (hf:[a,b,c].all (foldedForSure 8)=false) (hc:[a,b,c].all (constantsAlone 8)=false) :
  swappedStores [.Tuple [.Name x px,.Name y py,.Name z pz] kt pt] (.Tuple [a,b,c] k2 pt2) env=pure (some [x,y,z]):=by
 have e2:(y == x)=false:=beq_false_of_ne (Ne.symm hxy);have e3:(z == x)=false:=beq_false_of_ne (Ne.symm hxz);have e4:(z == y)=false:=beq_false_of_ne (Ne.symm hyz);have e:(Expr.Name x px).pos.line=px.line:=rfl;unfold swappedStores;simp[hk,hx,hy,hz,hl,hl2,hf,hc,e,List.eraseDups,List.eraseDupsBy,List.eraseDupsBy.loop,e2,e3,e4];intro h
 exfalso
 rcases h with h |h |h
 ·cases a<;>first |(simp at h;done) |(simp[yR] at hsa;done)
 ·cases b<;>first |(simp at h;done) |(simp[yR] at hsb;done)
 ·cases c<;>first |(simp at h;done) |(simp[yR] at hsc;done)
section
variable {X:Cx}{pos:Pos}
def xd8(i j k:Nat)(ta:TA):TS:=λD σ H=>ta σ H λvs H1=>∃u v w,vs=[u,v,w]/\D.nx (((σ.set k (some w)).set j (some v)).set i (some u)) H1
def zH6{i j k:Nat}{x y z:Str}{a b c:Expr}{ta:TA}{px py pz pt:Pos}{kt k2 pt2}(hc:X.calm=true)(hN:X.N.Nodup)(hi:X.N[i]?=some x)(hj:X.N[j]?=some y)(hk:X.N[k]?=some z)
  (hx:X.env.scope.names.lookup x=some .local) (hy:X.env.scope.names.lookup y=some .local) (hz:X.env.scope.names.lookup z=some .local) (ha:PA X [a,b,c] ta)
  (hw:swappedStores [.Tuple [.Name x px,.Name y py,.Name z pz] kt pt] (.Tuple [a,b,c] k2 pt2) X.env=pure (some [x,y,z]))
  (hs:swapsWithSole [.Tuple [.Name x px,.Name y py,.Name z pz] kt pt] (.Tuple [a,b,c] k2 pt2) pos.line X.env=pure false:=by rfl) :
  PS X (.Assign [.Tuple [.Name x px,.Name y py,.Name z pz] kt pt] (.Tuple [a,b,c] k2 pt2) pos) (xd8 i j k ta):=by
 intro pins s σ H D I h;rw[exec_Assign_arm];refine zc (wy ?_);rw[hs];refine zc (zo ?_)
 rw[if_neg w9]
 refine zc (Tuple_ (thn (ha _ pins s σ H _ I h) λus s1 ⟨vs,H1,I1,r1,q1⟩=>?_));obtain⟨t,v,w,e1,q1⟩:=q1;subst e1
 obtain⟨u0,u1,u2,rfl,rt,rv,rw'⟩:∃u0 u1 u2,us=[u0,u1,u2]/\RelV t u0/\RelV v u1/\RelV w u2:=by
  cases r1 with
  | cons p q =>
   cases q with
   | cons p' q' =>
    cases q' with
    |cons p2 q2=>
     cases q2;exact⟨_,_,_,rfl,p,p',p2⟩
 refine xM ?_ (by show 3<=sizeLine;decide)
 have I2:Inv X pins σ H1 { s1 with heap:=s1.heap.push { cls:=.type "tuple",data:=.seq [u0,u1,u2].toArray } }:=I1.kept (t':=s1.toks) λb o e=>zg _ e;rw[hw];refine zc (zo ?_)
 show wpAny (model X.prog X.w) X.A (do rule "assign.swapped-stores";let items <- unpackItems (.ref s1.heap.objs.size) 3 none;assignInOrder [λv=>bindName X.env z v,λv=>bindName X.env y v,λv=>bindName X.env x v] items.reverse;pure Flow.next) _ _ _
 refine zc (wpAny_rule (zc (unpackItems_tuple (items:=#[u0,u1,u2]) (I.ok.hd hc) (IsTup.new s1.heap _) λh' hx'=>?_)));have I3:=I2.kept (h':=h') (t':=s1.toks) λb o e=>hx' b o (zG (zt e)) e;show wpAny _ _ (assignInOrder [λv=>bindName X.env z v,λv=>bindName X.env y v,λv=>bindName X.env x v] [u2,u1,u0] >>= λ_=>pure Flow.next) _ _ _;refine zc (assignInOrder_cons (yv (vW I3 hN hk (.inl hz) rw' (λs2 I4=>?_) (.inr hz))));refine assignInOrder_cons (yv (vW I4 hN hj (.inl hy) rv (λs3 I5=>?_) (.inr hy)));refine assignInOrder_cons (yv (vW I5 hN hi (.inl hx) rt (λs4 I6=>assignInOrder_nil (zo ?_)) (.inr hx)));exact⟨_,H1,I6,q1⟩
end
section
variable {A:AC}{X:Cx}{a b c:Expr}{pos:Pos}
def zR0(i j k:Nat)(t:TAD):TSD:=λF rho n=>i<rho.length/\j<rho.length/\k<rho.length/\t rho n λes n1=>∃d d' d2,es=[d,d',d2]/\F.nx (((rho.set k (some d2)).set j (some d')).set i (some d)) n1
@[simp] theorem xg7{i j k t F rho n}:zR0 i j k t F rho n=(i<rho.length/\j<rho.length/\k<rho.length/\t rho n λes n1=>∃d d' d2,es=[d,d',d2]/\F.nx (((rho.set k (some d2)).set j (some d')).set i (some d)) n1):=rfl
def ze0{i j k:Nat}{x y z:Str}{ta:TAD}{px py pz pt:Pos}{kt k2 pt2}(hc:X.calm=true)(hN:X.N.Nodup)(hi:X.N[i]?=some x)(hj:X.N[j]?=some y)(hk3:X.N[k]?=some z)
  (hx:X.env.scope.names.lookup x=some .local) (hy:X.env.scope.names.lookup y=some .local) (hz:X.env.scope.names.lookup z=some .local) (ha:PAD A X [a,b,c] ta)
  (hk:X.env.blockKind=.function:=by rfl) (hl:py.line=px.line:=by rfl) (hl2:pz.line=px.line:=by rfl) (hxy:x≠y:=by decide) (hxz:x≠z:=by decide) (hyz:y≠z:=by decide) (hsa:yR a=false:=by rfl) (hsb:yR b=false:=by rfl) (hsc:yR c=false:=by rfl) (hf:[a,b,c].all (foldedForSure 8)=false:=by decide +kernel) (hca:[a,b,c].all (constantsAlone 8)=false:=by decide +kernel) :
  PSD A X (.Assign [.Tuple [.Name x px,.Name y py,.Name z pz] kt pt] (.Tuple [a,b,c] k2 pt2) pos) (zR0 i j k ta):=by
 exists (zH6 hc hN hi hj hk3 hx hy hz ha (zq5 hk hx hy hz hl hl2 hxy hxz hyz hsa hsb hsc hf hca)).imp λE sg H h=>by
   obtain⟨rho,n,F,ds,vs,I,⟨hl,hl2,hl3,ht⟩,ok⟩:=h;refine⟨rho,n,_,ds,vs,I,ht,λws H' n' es ⟨os,J⟩ hlen k=>?_⟩;obtain⟨d,d',d2,rfl,k⟩:=k;obtain⟨J1,rs⟩:=J.split hlen;obtain⟨v1,r1,rfl,q1,rs⟩:=rs.split;obtain⟨v2,v3,rfl,q2,q3⟩:=KC rs;refine⟨v1,v2,v3,rfl,ok.nx _ _ _ _ ?_ k⟩;have J2:AmO A os n' rho sg H' (d2::d'::d::ds) (v3::v2::v1::vs):=((J1.push q1).push q2).push q3
   exact⟨_,((J2.set hl3).set (by simpa using hl2)).set (by simpa using hl)⟩
end
end L2
namespace L2.Srt
open PySem PyProof.Rows
section
variable {n:Nat}{item:Nat->Keyed}{kd:SortKind}{r:Nat->Nat->Bool}{ls:Array Nat}{t:SortSt}
end
section
variable {prog:Program}{w:World}{A:Around}{E:Value->Shared->Prop}{s:Shared}{n:Nat}{item:Nat->Keyed}{kd:SortKind}{r:Nat->Nat->Bool}{ls:Array Nat}{t:SortSt}
end
section
variable {prog:Program}{w:World}{A:Around}{E:Value->Shared->Prop}{s:Shared}{r:Nat->Nat->Bool}{kd:SortKind}
end
end L2.Srt
namespace L2.Srt
open PySem PyProof.Rows PySem.SeqAt
section
variable {prog:Program}{w:World}{M:Model}{A:Around}{E:Value->Shared->Prop}{s:Shared}
end
end L2.Srt
namespace L2
open PySem PySem.Spec PyProof.Rows PySem.SeqAt
section
variable {X:Cx}
end
section
variable {X:Cx}{pins:List (Addr × Obj)}{σ:St}{H:Hp}{s:Shared}{G:Option Addr}{Z:Addr->Prop}
end
section
variable {A:AC}{X:Cx}{a:Expr}{ta:TD}{pos:Pos}
def zM2(d:D)(k:List D->Prop):Prop:=∃fs,(d=.lst fs\/d=.fz fs)/\k fs
@[simp] theorem xj2{fs:List D}{k}:zM2 (.lst fs) k↔k fs:=⟨fun⟨_,e,h⟩=>by rcases e with e |e<;>cases e;exact h,λh=>⟨_,.inl rfl,h⟩⟩
def xt7(ta:TD)(tl th:TOD):TD:=λrho n P=>ta rho n λd n1=>tl rho n1 λlo n2=>th rho n2 λhi n3=>zM2 d λfs=>P (.lst (Yx fs lo hi)) n3
@[simp] theorem xq7{ta tl th rho n P}:xt7 ta tl th rho n P=ta rho n λd n1=>tl rho n1 λlo n2=>th rho n2 λhi n3=>zM2 d λfs=>P (.lst (Yx fs lo hi)) n3:=rfl
def JG{le he:Option Expr}{tl th:TOD}{p2:Pos}(hK:X.K=A.K)(ha:PD A X a ta)(hl:POD A X le tl)(hh:POD A X he th):PD A X (.Subscript a (.Slice le he none p2) pos) (xt7 ta tl th):=by
 exists (YN zb3 ha hl hh).imp λsg H Q h=>by
   obtain⟨rho,n,P,ds,vs,I,ht,hQ⟩:=h;refine⟨rho,n,_,ds,vs,I,ht,λv H1 n1 d J1 h1=>⟨rho,n1,_,_,_,J1,h1,λlo H2 n2 J2 h2=>⟨rho,n2,_,_,_,J2,h2,λhi H3 n3 ⟨os,J3⟩ h3=>?_⟩⟩⟩;obtain⟨fs,hd,k⟩:=h3;obtain⟨J4,r⟩:=J3.pop;rw[hK]
   rcases hd with rfl |rfl
   ·obtain⟨l,xs,rfl,sq,rs⟩:=r.lst_inv;exact⟨l,xs,rfl,sq.sq,λp hp=>hQ _ _ n3 _ ⟨os,J4.newLst (Zf rs lo hi) hp⟩ k⟩
   ·obtain⟨l,xs,rfl,sq,rs⟩:=r.fz_inv;exact⟨l,xs,rfl,sq,λp hp=>hQ _ _ n3 _ ⟨os,J4.newLst (Zf rs lo hi) hp⟩ k⟩
def zn1(i:Nat):TD:=λrho n P=>∃es,rho[i]?=some (some (.own es))/\okE (.lst es) 20=true/\P (.bl (!Wg es [])) n
@[simp] theorem xc6{i rho n P}:zn1 i rho n P=∃es,rho[i]?=some (some (.own es))/\okE (.lst es) 20=true/\P (.bl (!Wg es [])) n:=rfl
def za7{i:Nat}(hK:X.K=A.K){sg:St}{H:Hp}{Q:VK}(h:tOf A (zn1 i) sg H Q):tOp (xf4 X) (xn6 i) (tOf A (xm9 xn2)) sg H Q:=by
 obtain⟨rho,n,P,ds,vs,⟨os,I⟩,⟨es,hi,ok,q⟩,hQ⟩:=h;obtain⟨a,xs,e1,hH,rs,_⟩:=I.own (es':=es) (xs':=[]) hi;refine⟨.ref a,e1,rho,n,λd n1=>d=.lst []/\n1=n,ds,vs,⟨os,I⟩,⟨Nat.zero_le _,rfl,rfl⟩,λv2 H2 n2 d2 ⟨os2,J⟩ k=>?_⟩;obtain⟨rfl,rfl⟩:=k;obtain⟨J1,r2⟩:=J.pop;obtain⟨a',xs',e2,hH',rs',_⟩:=J1.own (es':=es) (xs':=[]) hi;rw[e1] at e2;cases e2;have no:∀b,H2 b≠none->False->Zof A os2 b:=λ_ _ z=>z.elim
 have rA:Rep X.K A.G (λ_=>False) H2 (.lst es) (.ref a):=by
  rw[hK];exact .lst_mk ⟨λz=>z,hH'⟩ (Reps.mono no (λ_ _ _ e=>e) _ _ rs')
 have rB:Rep X.K A.G (λ_=>False) H2 (.lst []) v2:=by
  rw[hK];exact Rep.mono no (λ_ _ _ e=>e) _ _ r2
 have ok0:okE (.lst []) 20=true:=by unfold okE;rfl
 refine⟨eqD (.lst es) (.lst []),λpins s σ v u J rx ry B hu=>zm2 J 20 _ _ _ _ v u B ok ok0 rA rB rx ry w6,?_⟩
 have eqe:eqD (.lst es) (.lst [])=Wg es []:=by unfold eqD;rfl
 rw[eqe];exact hQ _ H2 _ _ ⟨os2,J1.push (Rep.ofS (d:=.bl (!Wg es [])) rfl)⟩ q
def zd5{i:Nat}{x:Str}{px p2:Pos}{n:Nat}(hr:Room n X.A)(hK:X.K=A.K)(hN:X.N[i]?=some x:=by rfl)(hv:Vis X.env.scope x:=by first |exact Or.inl rfl |exact Or.inr (Or.inl rfl) |exact Or.inr (Or.inr rfl))(hd:(x == ("__debug__" : Str))=false:=by decide)
  (hcd:(x == ("__classdict__" : Str))=false:=by decide):PTD A X (.Compare (.Name x px) [.NotEq] [.List [] p2] pos) (zm9 (zn1 i)):=by exists (zd6 (zh0 hr) (Xl hN hv hd hcd) (ka (A:=A) zf) (xz _)).imp λ_ _ _=>WP λ_ _ _=>za7 hK
end
section
variable {X:Cx}{pins:List (Addr × Obj)}{σ:St}{H:Hp}{s:Shared}{G:Option Addr}{Z:Addr->Prop}
end
end L2
namespace L2
section
variable {X:Cx}{A:AC}
end
end L2
namespace L2.Srt
open PySem PyProof.Rows
section
variable {prog:Program}{w:World}{A:Around}{E:Value->Shared->Prop}{s:Shared}
end
end L2.Srt
namespace L2
section
variable {X:Cx}{A:AC}{pos:Pos}{e:Expr}{t1:TAD}
def zA6:TSD:=λ_ _ _=>False
def Us{st:Stmt}:PSD A X st zA6:=by
 exists λpins s σ H E I h=>by
   obtain⟨rho,n,F,ds,vs,J,ht,ok⟩:=h;exact False.elim ht
@[simp] theorem xj1{F:EndsD}{rho:Rho}{n:Nat}:zA6 F rho n↔False:=Iff.rfl
end
section
variable {K:W.Frag}{G G':Option Addr}{Z:Addr->Prop}{H:Hp}
end
section
variable {A:AC}{X:Cx}{e:Expr}{es:List Expr}{t1:TAD}{t2:TSD}{pos p:Pos}
end
section
variable {K:W.Frag}{G:Option Addr}{Z:Addr->Prop}{H:Hp}
end
def QI:D->Option Key
 |.int i=>some (Sum.inl i)
 |.str x=>some (Sum.inr x)
 |_=>none
@[simp] theorem zX1{i:Int}:QI (.int i)=some (Sum.inl i):=rfl
@[simp] theorem zX0{i:Str}:QI (.str i)=some (Sum.inr i):=rfl
def UL{K:W.Frag}{G:Option Addr}{Z:Addr->Prop}{H:Hp}{d:D}{v:V}{k:Key}(h:Rep K G Z H d v)(e:QI d=some k):v=kV k:=by
 cases d with
 |int i=>cases e;exact h.int_inv
 |str i=>cases e;exact h.toS rfl
 |_=>simp[QI] at e
section
variable {A:AC}{X:Cx}{tg iter kx vx:Expr}{ifs:List Expr}{scope:Scope}{own M:List Str}{pos:Pos}{it:TID}{g:TGD}{tt:TBD}{tk tv:TD}
def AmO.newDct{os n rho sg H ds vs}{ks:List Key}{es:List D}{xs:List V}{p:Addr}(I:AmO A os n rho sg H ds vs)(r:Reps A.K A.G (Zof A os) H es xs)(hp:H p=none):AmO A os n rho sg (upd H p (.dK (QH ks xs))) (.dct ks es::ds) (.ref p::vs):=by
 have hf:∀a u,H a=some u->upd H p (.dK (QH ks xs)) a=some u:=λa u e=>by
  rw[xW λz=>by rw[z,hp] at e;cases e];exact e
 refine⟨I.len,λi d e=>?_,?_,I.nd,λq hq=>?_,λa e=>?_,I.gz,λa u h e=>hf a u (I.fr a u h e),I.z0⟩
 ·obtain⟨v,e1,e2⟩:=I.slot i d e;exact⟨v,e1,SlotR.mono (λ_ _ z=>z) (λa u _ e=>hf a u e) (λa xs m q=>⟨m,hf a _ q⟩) _ _ e2⟩
 ·refine .cons ?_ (Reps.mono (λ_ _ z=>z) (λa u _ e=>hf a u e) _ _ I.pend);unfold Rep;refine⟨p,xs,rfl,⟨λz=>?_,wZ⟩,Reps.mono (λ_ _ z=>z) (λa u _ e=>hf a u e) _ _ r⟩;exact absurd hp (I.zH p z)
 ·obtain ⟨f1, f2, f3⟩ := I.fresh q hq;refine⟨f1,f2,?_⟩
  cases e:H q.2 with
  |none=>exact absurd e f3
  |some u=>rw[hf _ _ e];simp
 ·obtain⟨x,y,z,q,r⟩:=I.st a e;exact⟨x,y,z,hf _ _ q,r⟩
end
def atK:List Key->List D->Key->Option D
 |k::ks,d::ds,x=>if k=x then some d else atK ks ds x
 |_,_,_=>none
def Ji{K:W.Frag}{G:Option Addr}{Z:Addr->Prop}{H:Hp}:∀{ks:List Key}{ds:List D}{xs:List V}{x:Key},Reps K G Z H ds xs ->
  (∀d,atK ks ds x=some d->∃v,Kj (QH ks xs) x=some v/\Rep K G Z H d v)/\(atK ks ds x=none->Kj (QH ks xs) x=none)
 |[],ds,xs,x,r=>⟨λd h=>by simp[atK] at h,λ_=>rfl⟩
 |k::ks,[],xs,x,r=>by rw[r.nil_inv];exact⟨λd h=>by simp[atK] at h,λ_=>rfl⟩
 | k :: ks, e :: ds, xs, x, r => by
  obtain⟨v,rs,rfl,q,t⟩:=r.split;obtain⟨i1,i2⟩:=Ji (ks:=ks) (x:=x) t;unfold atK
  by_cases c:k=x
  ·rw [if_pos c]
   exact⟨λd h=>by cases h;exact⟨v,WK (p:=(k,v)) c,q⟩,λh=>by cases h⟩
  ·rw[if_neg c];have e2:Kj (QH (k::ks) (v::rs)) x=Kj (QH ks rs) x:=WL (p:=(k,v)) c;rw[e2];exact⟨i1,i2⟩
section
variable {A:AC}{X:Cx}{a b:Expr}{ta tb:TD}{pos:Pos}
def rDx:R2:=λx y H Q=>∃a v,x=.ref a/\DGet H a y (some v)/\Q v H
def xa9:RD2:=λd1 d2 k=>∃ks ds x d,d1=.dct ks ds/\QI d2=some x/\atK ks ds x=some d/\k d
@[simp] theorem xi3{ks ds x k}:xa9 (.dct ks ds) (.int x) k↔∃d,atK ks ds (Sum.inl x)=some d/\k d:=⟨fun⟨_,_,_,d,e,e',h⟩=>by cases e;cases e';exact⟨d,h⟩,fun⟨d,h⟩=>⟨_,_,_,d,rfl,rfl,h⟩⟩
def xf1:kf A rDx xa9:=by
 rintro os n rho sg H ds vs d1 d2 v1 v2 k Q I ⟨ks,es,x,d,rfl,hk,hx,q⟩ hQ;obtain⟨I1,r2⟩:=I.pop;obtain⟨I2,r1⟩:=I1.pop;have e2:=UL r2 hk;subst e2;unfold Rep at r1;obtain⟨a,xs,rfl,⟨hz,hH⟩,rs⟩:=r1;obtain⟨v,hv,rv⟩:=(Ji rs).1 d hx
 exact⟨a,v,rfl,by rw[<- hv];exact DGet.k hH,hQ _ _ _ ⟨os,I2.push rv⟩ q⟩
def zf8(hu:X.A.units+1<cLine)(ha:PD A X a ta)(hb:PD A X b tb)(hs:xd3 b):PD A X (.Subscript a b pos) (dOp xa9 ta tb):=by exists (zI8 hu ha hb hs).imp λ_ _ _=>VU (r:=rDx) xf1
def xo8(neg:Bool):R2:=λy x H Q=>∃a o,x=.ref a/\DGet H a y o/\Q (.bl (o.isSome != neg)) H
def zg9(hu:X.A.units+1<cLine):OpR X (compareOp .NotIn) (xo8 true):=by
 intro pins s σ H x y v u Q I rx ry h;obtain⟨a,o,rfl,g,q⟩:=h;cases(show u=Value.ref a from ry)
 exact zN9 hu I g rx λs' I'=>⟨.bl (o.isSome != true),H,I',by simp;rfl,q⟩
def zG6(neg:Bool):RD2:=λd1 d2 k=>∃ks ds x,d2=.dct ks ds/\QI d1=some x/\k (.bl ((atK ks ds x).isSome != neg))
@[simp] theorem xb5{neg ks ds x k}:zG6 neg (.int x) (.dct ks ds) k↔k (.bl ((atK ks ds (Sum.inl x)).isSome != neg)):=⟨fun⟨_,_,_,e,e',h⟩=>by cases e;cases e';exact h,λh=>⟨_,_,_,rfl,rfl,h⟩⟩
def zR5{neg:Bool}:kf A (xo8 neg) (zG6 neg):=by
 rintro os n rho sg H ds vs d1 d2 v1 v2 k Q I ⟨ks,es,x,rfl,hk,q⟩ hQ;obtain⟨I1,r2⟩:=I.pop;obtain⟨I2,r1⟩:=I1.pop;have e2:=UL r1 hk;subst e2;unfold Rep at r2;obtain⟨a,xs,rfl,⟨hz,hH⟩,rs⟩:=r2;obtain⟨g1,g2⟩:=Ji (ks:=ks) (x:=x) rs;refine⟨a,Kj (QH ks xs) x,rfl,DGet.k hH,?_⟩
 have e3:(Kj (QH ks xs) x).isSome=(atK ks es x).isSome:=by
  cases e:atK ks es x with
  |none=>rw[g2 e];rfl
  |some d=>obtain⟨v,hv,_⟩:=g1 d e;rw[hv];rfl
 rw[e3];exact hQ _ _ _ ⟨os,I2.push (Rep.ofS (d:=.bl _) rfl)⟩ q
end
section
variable {X:Cx}{A:AC}
end
section
variable {A:AC}{X:Cx}{a b c:Expr}{ta tb tc:TD}{pos:Pos}
end
section
variable {A:AC}{X:Cx}{b:Expr}{tb:TD}{pos:Pos}
end
end L2
namespace L2
open PySem PySem.Spec PyProof.Rows PySem.SeqAt
section
variable {A:AC}{X:Cx}{a b c e:Expr}{ta tb tc te:TD}{pos:Pos}
end
section
variable {X:Cx}{pins:List (Addr × Obj)}{σ:St}{H:Hp}{s:Shared}{G:Option Addr}{Z:Addr->Prop}
end
end L2
namespace L2
section
variable {A:AC}{X:Cx}{a1 a2 b1 b2:Expr}{ta:TAD}{tb1 tb2:TD}{pos:Pos}
end
end L2
namespace PySem
open PySem.Sem (wp)
namespace F
end F
section
variable {prog:Program}{w:World}{K:Type} [DecidableEq K] {knd:KeyKind prog w K}{A:Around}{R:Result->Shared->Prop}
end
section
variable {prog:Program}{w:World}{K:Type} [DecidableEq K] {knd:KeyKind prog w K}{A:Around}{E:Value->Shared->Prop}{s:Shared}
end
end PySem
namespace L2
section
variable {X:Cx}{A:AC}
end
end L2
namespace L2
open PySem PySem.Spec PyProof.Rows PySem.SeqAt
section
variable {A:AC}{X:Cx}
end
end L2
namespace L2
section
variable {A:AC}
end
section
variable {A:AC}{X:Cx}{pos:Pos}{m:Nat}
def xA7(K:W.Frag)(n:Nat)(t:TGs):TG:=λv σ H Q=>∃a xs,v=.ref a/\SqL K H a xs/\xs.length=n/\t xs σ H Q
def zU1{es:List Expr}{k:Nat}{t:TGs}{n:Nat}(hc:X.calm=true)(h:PGs X es t)
  (hn:(assignEach es X.env).length=n:=by rfl) (hst:(assignEach es X.env).findIdx? (·.1)=none:=by rfl):PG X (.Tuple es k pos) (xA7 X.K n t):=by
 intro pins s σ H v u Q I r hw;obtain⟨a,xs,e1,hq,hl,hw⟩:=hw;subst e1;cases r;obtain⟨its,rv,ht,hz⟩:=I.list hq;rw[assign_Tuple];refine zc (wy ?_);unfold unpack
 have hn':(assignEach es X.env).length=its.toArray.size:=by simp[hn,<- hl,rv.length]
 rw[hn',hst];refine zc (wq (W.kun_itemsOf (I.ok.hd hc) ht.isList λh' hx=>?_));have I1:Inv X pins σ H { s with heap:=h' }:=I.kept (t':=s.toks) λb o e=>hx b o (zG (zt e)) e
 exact h pins _ σ H xs _ Q I1 (by simpa using rv) hw
def zY6(k:Nat)(gs:QP):TGD:=λd rho P=>∃es,d=.lst es/\es.length=k/\gs es rho P
@[simp] theorem xk5{k gs es rho P}:zY6 k gs (.lst es) rho P↔(es.length=k/\gs es rho P):=⟨fun⟨_,e,h⟩=>by cases e;exact h,λh=>⟨_,rfl,h⟩⟩
def zI3{es:List Expr}{k:Nat}{gs:QP}{kt:Nat}(hK:X.K=A.K)(hc:X.calm=true)(h:zP6 A X m es gs)(hn:(assignEach es X.env).length=k:=by rfl)(hst:(assignEach es X.env).findIdx? (·.1)=none:=by rfl):PGD A X m (.Tuple es kt pos) (zY6 k gs):=by
 exists 
   (zU1 (n := k) hc h hn hst).imp λv sg H Q h => by
    obtain⟨rho,n,P,d,ds,vs,⟨os,I⟩,⟨fs,rfl,hl,q⟩,hQ⟩:=h;obtain⟨J,r⟩:=I.pop;obtain⟨a,xs,rfl,sq,rs⟩:=r.lst_inv;have hx:=rs.length;rw[hK]
    exact⟨a,xs,rfl,sq.sq,by rw[hx];exact hl,rho,n,P,fs,ds,vs,⟨os,J.join rs⟩,hx,q,hQ⟩
end
section
variable {A:AC}{X:Cx}
end
def lo{sc:Scope}{x:Str}(h:(match sc.names.lookup x with |some .local=>true |some .cell=>true |_=>false)=true):Loc sc x:=by
 unfold Loc
 split at h
 ·exact .inl (by assumption)
 ·exact .inr (by assumption)
 ·cases h
end L2
namespace L2
open PySem PySem.Spec PyProof.Rows PySem.SeqAt
section
variable {A:AC}{X:Cx}
end
end L2
namespace L2
abbrev TFX:=List D->Nat->(D->Nat->Prop)->(Nat->Prop)->Prop
def spX(K:W.Frag)(C:Addr)(k:Nat)(t:TFX):Sp:=λvs H Q E=>∃(G:Option Addr) (Z:Addr->Prop) (n:Nat) (P:D->Nat->Prop) (R:Nat->Prop) (ds:List D),ds.length=k/\Reps K G Z H ds vs/\zz4 G n H/\(∀a,G=some a->Z a)/\(∀a,Z a->H a≠none)/\t ds n P R /\
 (∀v H' n' d,(∀a o,G≠some a->H a=some o->H' a=some o)->zz4 G n' H'->Rep K G Z H' d v->P d n'->Q v H')/\∀H' n',(∀a o,G≠some a->H a=some o->H' a=some o)->zz4 G n' H'->R n'->E (.ref C) none H'
def XD(A:AC)(C:Addr)(R:Nat->Prop):XK:=λcls _ H'=>cls=.ref C/\∃n',(∀a o,A.G≠some a->A.H0 a=some o->H' a=some o)/\zz4 A.G n' H'/\R n'
structure FnX(P:Program)(w:World)(K:W.Frag)(mg:Str->Option Value)(base:Heap)(x:Str)(kk k:Nat)(C:Addr)(t:TFX):Prop where
 ex:∃(f:Addr) (fd:FuncData) (ps:List Str),FnOk P w K mg base (CX1 P w) kk f fd ps (spX K C k t)/\mg x=some (.ref f)/\W.keepIn K (.ref f)=true/\Binds K fd ps []
section
variable {P:Program}{w:World}{K:W.Frag}{mg:Str->Option Value}{base:Heap}
def Fun.okX{x qual:Str}{st:Stmt}{f:Addr}{fd:FuncData}{N ps:List Str}{k:Nat}{C:Addr}{t:TFX}{tb:(Nat->Prop)->TSD}(F:Fun K x qual st f fd)(S:FnScope N ps (zL st))
  (body : ∀ (cdv : Value) (A0 : Around) (outer : List Env) (s : Shared) (H : Hp) (E : XK) (G : Option Addr) (Z : Addr -> Prop) (R : Nat -> Prop), Room k (A0.deeper (envOfC qual (zL st) s.heap.objs.size f cdv)) ->
   (∀H',XD ⟨K,G,Z,H⟩ C R (.ref C) none H'->E (.ref C) none H') ->
   Qg ⟨K,G,Z,H⟩ (Jh (CX1 P w) P w K mg base N qual (zL st) f cdv A0 outer s H E) (vT st) (tb R))
  (spec:∀ds n Q R,ds.length=ps.length->t ds n Q R->tb R { nx:=λ_ n=>Q .non n,rt:=Q } (xj N ds) n):FnOk P w K mg base (CX1 P w) (k+1) f fd ps (spX K C ps.length t):=by
 exists (by
   obtain⟨oc,od,kV,doc,pm,an,cdv,ct,osl,rfl,lk,hcd⟩:=F.ex;refine zY7 lk hcd S (λvs H Q E h=>?_) (λA0 outer s H vs Q E hr h=>?_)
   ·obtain⟨G,Z,n,R,R',ds,hl,rs,_⟩:=h;rw[rs.length];exact hl
   ·obtain ⟨G, Z, n, R, R', ds, hl, rs, hst, gz, z0, ht, hQ, hE⟩ := h;refine⟨_,body cdv A0 outer s H E G Z R' hr (λH' ⟨_,n',h1,h2,h3⟩=>hE H' n' h1 h2 h3),xj N ds,n,_,[],[],⟨[],XU rs hst gz z0⟩,spec ds n R R' hl ht,?_⟩;have zz:∀ (os:List (Nat × Addr)) a,Z a->Zof ⟨K,G,Z,H⟩ os a:=λos a z=>.inl z;refine⟨λrho' n' sg' H' ⟨os,I⟩ q=>?_,λd n' v rho' sg' H' ⟨os,I⟩ q=>?_,λ_ _ _ _ _ q=>q.elim,λ_ _ _ _ _ q=>q.elim⟩
    ·exact hQ .non H' n' .non I.fr I.st (Rep.ofS rfl) q
    ·exact hQ v H' n' d I.fr I.st (Rep.mono (λa _ z=>zz os a z) (λ_ _ _ e=>e) _ _ I.pop.2) q)
end
structure ClsX(K:W.Frag)(mg:Str->Option Value)(x:Str)(C:Addr):Prop where
 mg:mg x=some (.ref C)
 ec:ExcC K C
 ex:W.excIn K C zq1 "ValueError.__new__" = true
def XOk(A:AC)(X:Cx)(C:Addr)(R:Nat->Prop):Prop:=∀(pins:List (Addr × Obj)) (σ:St) (H:Hp) (s:Shared) (h':Heap) (a:Addr) (vs:List Value),Inv X pins σ H s->s.heap.MadeExcOf h' a (.ref C) vs->XD A C R (.ref C) none H->X.xe (.ref a) { s with heap:=h' }
def xok{P:Program}{w:World}{K:W.Frag}{mg:Str->Option Value}{base:Heap}{N:List Str}{qual:Str}{scope:Scope}{f:Addr}{cd:Value}{A0:Around}{outer:List Env}{s:Shared}{H:Hp}{E:XK}{G:Option Addr}{Z:Addr->Prop}{C:Addr}{R:Nat->Prop}
  (hE:∀H',XD ⟨K,G,Z,H⟩ C R (.ref C) none H'->E (.ref C) none H'):XOk ⟨K,G,Z,H⟩ (Jh (CX1 P w) P w K mg base N qual scope f cd A0 outer s H E) C R:=λpins σ H1 s1 h' a vs I m q=>zP8 I m (hE H1 q)
section
variable {A:AC}{X:Cx}{C:Addr}{R:Nat->Prop}
def Yp(R:Nat->Prop):TSD:=λ_ _ n=>R n
def vg{x m:Str}{j:Nat}{np cp cpos pos:Pos}(c:ClsX X.K X.mg x C)(hx:XOk A X C R)(hc:X.calm=true:=by rfl)(hg:Gl X x:=by rfl)(hdb:(x == ("__debug__" : Str))=false:=by decide) :
  PSD A X (.Raise (some (.Call (.Name x np) [.Constant (.str m) j cp] [] cpos)) none pos) (Yp R):=by
 exists (zt1 (RX:=λH=>XD A C R (.ref C) none H) hc hg c.mg c.ex (vt jy Xr) hx hdb).imp λE sg H h=>by
   obtain⟨rho,n,F,ds,vs,⟨os,I⟩,ht,ok⟩:=h
   exact⟨(by decide:1<=sizeLine),rfl,n,I.fr,I.st,ht⟩
def AmO.unset{os:List (Nat × Addr)}{n:Nat}{rho:Rho}{sg:St}{H:Hp}{ds:List D}{vs:List V}(I:AmO A os n rho sg H ds vs)(i:Nat):AmO A os n (rho.set i none) (sg.set i none) H ds vs:=by
 refine⟨by simp[I.len],λj c e=>?_,I.pend,I.nd,I.fresh,I.st,I.gz,I.fr,I.z0⟩
 by_cases hj:j=i
 ·subst hj;rw[List.getElem?_set] at e;simp at e
 ·rw [zW (Ne.symm hj)] at e;obtain⟨v,e1,e2⟩:=I.slot j c e
  exact⟨v,by rw[zW (Ne.symm hj)];exact e1,e2⟩
def AmO.newExc{os:List (Nat × Addr)}{n:Nat}{rho:Rho}{sg:St}{H:Hp}{ds:List D}{vs:List V}{p:Addr}(I:AmO A os n rho sg H ds vs)(hp:H p=none):AmO A os n rho sg (upd H p (.exc p C)) (.exc C::ds) (.ref p::vs):=by
 have g:=I.grow (o:=.exc p C) hp;refine g.push ?_;unfold Rep;exact⟨p,rfl,λz=>I.zH p z hp,wZ⟩
end
def zD5:V->Value
 |.ref a=>.ref a
 |.ty n=>.type n
 |_=>.none
def QJ:V->Bool
 |.ref _=>true
 |.ty _=>true
 |_=>false
theorem Qb:∀{v:V}{u:Value},QJ v=true->RelV v u->u=zD5 v
 |.ref a,u,_,r=>r
 |.ty n,u,_,r=>r
 |.non,_,h,_=>by cases h
 |.bl _,_,h,_=>by cases h
 |.int _,_,h,_=>by cases h
 |.str _,_,h,_=>by cases h
 |.byt _,_,h,_=>by cases h
 |.flt _,_,h,_=>by cases h
def zn9{vs:List V}{us:List Value}(h:vs.all QJ=true)(r:Vals vs us):us=vs.map zD5:=by
 induction r with
 |nil=>rfl
 |cons r1 _ ih=>
  rw[ym,zv] at h;rw[zR,Qb h.1 r1,ih h.2]
def zS3(K:W.Frag)(C:Addr)(b:Bool):List V->Hp->VK->Prop:=λvs H Q=>∃a y,vs=[.ref a,y]/\H a=some (.exc a C)/\Q (.bl b) H /\
 ((QJ y=true/\W.kitOne K (.ref C) (zD5 y)=some b)\/∃tp ys,y=.ref tp/\H tp=some (.tup ys)/\ys.all QJ=true/\W.kitAny K (.ref C) (ys.map zD5)=some b)
section
variable {A:AC}{X:Cx}{C:Addr}{b:Bool}
def XQ(c:ExcC X.K C):jw X (.builtin "isinstance") (zS3 X.K C b):=by
 intro pins s σ H vs us Q I r h;obtain⟨a,y,rfl,ha,q,hy⟩:=h
 cases r with
 | cons r1 rr =>
  cases rr with
  | cons r2 rn =>
   cases rn;rename_i u1 u2;obtain rfl:u1=Value.ref a:=r1;have hx:ExcAt s.heap a C:=(I.hok a _ ha).1;have kx:W.KitX X.K (.ref a) (.ref C) λh=>ExcAt h a C:=zw3 c
   rcases hy with ⟨h1,h2⟩ |⟨tp,ys,rfl,h1,h2,h3⟩
   ·rw [Qb h1 r2]
    exact W.kia_one kx I.kIn hx h2 (by intro z;cases z) λtk=>⟨.bl b,H,I.tok tk,rfl,q⟩
   ·obtain rfl : u2 = Value.ref tp := r2;obtain⟨_,its,rv,o,ho,hcls,n,hd⟩:=I.hok tp _ h1;obtain⟨oc,od,odd,osl⟩:=o;simp only at hcls hd;subst hcls hd;rw[zn9 h2 rv] at ho
    exact W.kia_tup kx I.kIn hx ho h3 (by intro z;cases z) λtk=>⟨.bl b,H,I.tok tk,rfl,q⟩
def zf0{x:Str}{C':Addr}{p:Pos}(hm:X.mg x=some (.ref C'))(hg:Gl X x:=by rfl)(hd:(x == ("__debug__" : Str))=false:=by decide):PE X (.Name x p) (tC (.ref C')):=λpins s σ H Q I h=>jS I hg hm ⟨.ref C',H,I,rfl,h⟩ hd
def Jg(C:Addr)(b:Bool)(te:TD):TD:=λrho n P=>te rho n λd n1=>d=.exc C/\P (.bl b) n1
def JO{te:TD}{y:V}(hk:QJ y=true/\W.kitOne X.K (.ref C) (zD5 y)=some b){sg:St}{H:Hp}{Q:VK}(h:tOf A (Jg C b te) sg H Q):tCB (zS3 X.K C b) (zE6 (tOf A te) (zE6 (tC y) xn7)) sg H Q:=by
 obtain⟨rho,n,P,ds,vs,I,ht,hQ⟩:=h;refine⟨rho,n,_,ds,vs,I,ht,λv H' n' d ⟨os,J⟩ k=>?_⟩;obtain⟨rfl,k⟩:=k;obtain⟨J1,r⟩:=J.pop;unfold Rep at r;obtain⟨a,rfl,_,ha⟩:=r;exact⟨a,y,rfl,ha,hQ _ H' n' _ ⟨os,J1.push (Rep.ofS (d:=.bl b) rfl)⟩ k,.inl hk⟩
def zJ3{e:Expr}{te:TD}{cn:Str}{C':Addr}{p p2 pos:Pos}(c:ExcC X.K C)(he:PD A X e te)(hm:X.mg cn=some (.ref C'))(hk:W.kitOne X.K (.ref C) (.ref C')=some b)(hi:X.mg "isinstance" = none)(hg:Gl X "isinstance" := by rfl)(hgc:Gl X cn:=by rfl)
  (hd:(cn == ("__debug__" : Str))=false:=by decide) (hst:starEach [e,.Name cn p2] X.env=(false,eval e X.env)::starEach [.Name cn p2] X.env:=by rfl) (hpl:(backTo pos (starEach [.Name cn p2] X.env)).any (·.1)=false:=by rfl):PD A X (.Call (.Name "isinstance" p) [e,.Name cn p2] [] pos) (Jg C b te):=by exists (YO (XQ (b:=b) c) hg hi vj (vt he (vt (zf0 hm hgc hd) Xr) hst) w9 w9 hst hpl).imp λsg H Q h=>JO ⟨rfl,hk⟩ h
def zJ4{e:Expr}{te:TD}{cn:Str}{T:String}{p p2 pos:Pos}(c:ExcC X.K C)(he:PD A X e te)(hm:X.mg cn=none)(hv:bootBuiltins cn=some (.type T))(hk:W.kitOne X.K (.ref C) (.type T)=some b)(hi:X.mg "isinstance" = none)(hn:cn ≠ "__name__" := by decide)(hg:Gl X "isinstance" := by rfl)(hgc:Gl X cn:=by rfl)
  (hd:(cn == ("__debug__" : Str))=false:=by decide) (hst:starEach [e,.Name cn p2] X.env=(false,eval e X.env)::starEach [.Name cn p2] X.env:=by rfl) (hpl:(backTo pos (starEach [.Name cn p2] X.env)).any (·.1)=false:=by rfl):PD A X (.Call (.Name "isinstance" p) [e,.Name cn p2] [] pos) (Jg C b te):=by exists (YO (XQ (b:=b) c) hg hi vj (vt he (vt (zf2 hgc hm hv (v:=.ty T) rfl hn hd) Xr) hst) w9 w9 hst hpl).imp λsg H Q h=>JO ⟨rfl,hk⟩ h
def tCs(ys:List V):TA:=λ_ H Q=>Q ys H
def zJ2{e c0:Expr}{cs:List Expr}{te:TD}{ys:List V}{x1}{p p2 pos:Pos}(c:ExcC X.K C)(he:PD A X e te)(hc:PA X (c0::cs) (tCs ys))(hz:ys.length<=sizeLine)(hy:ys.all QJ=true)(hk:W.kitAny X.K (.ref C) (ys.map zD5)=some b)(hi:X.mg "isinstance" = none)(hg:Gl X "isinstance" := by rfl)
  (hst:starEach [e,.Tuple (c0::cs) x1 p2] X.env=(false,eval e X.env)::starEach [.Tuple (c0::cs) x1 p2] X.env:=by rfl) (hs2:starEach [.Tuple (c0::cs) x1 p2] X.env=(false,eval (.Tuple (c0::cs) x1 p2) X.env)::starEach [] X.env:=by rfl) (hpl:(backTo pos (starEach [.Tuple (c0::cs) x1 p2] X.env)).any (·.1)=false:=by rfl) :
  PD A X (.Call (.Name "isinstance" p) [e,.Tuple (c0::cs) x1 p2] [] pos) (Jg C b te):=by
 exists (YO (XQ (b:=b) c) hg hi vj (vt he (vt (zB7 hc) Xr hs2) hst) w9 w9 hst hpl).imp λsg H Q h=>by
   obtain⟨rho,n,P,ds,vs,I,ht,hQ⟩:=h;refine⟨rho,n,_,ds,vs,I,ht,λv H' n' d ⟨os,J⟩ k=>⟨hz,λtp htp=>?_⟩⟩;obtain⟨rfl,k⟩:=k;obtain⟨J1,r⟩:=J.pop;unfold Rep at r;obtain⟨a,rfl,_,ha⟩:=r
   exact⟨a,_,rfl,by rw[xW (wu ha htp)];exact ha,hQ _ _ n' _ ⟨os,(J1.grow (o:=.tup ys) htp).push (Rep.ofS (d:=.bl b) rfl)⟩ k,.inr ⟨tp,ys,rfl,wZ,hy,hk⟩⟩
end
def VC:bootBuiltins "ValueError" = some (.type "ValueError"):=x5
def Its(x:Str):It:=⟨λi _=>i<x.cps.size,λi H v H'=>H'=H/\∃c,x.cps[i]?=some c/\v=.str ⟨#[c]⟩,λi _=>x.cps.size<=i⟩
def VO{P:Program}{w:World}{A:Around}(hA:A.handled=none)(it:Addr)(x:Str)(t:Tok):Walks P w A it [it] [it] x.cps.size (SignAt x) λi h=>h.IsStrIter it (strIterType x) x t i:=by
 unfold strIterType
 split
 ·exact Walks.strAscii hA it x t
 ·exact Walks.strWide hA it x t
def Qp{x:Str}:["enumerate","zip","dict_itemiterator","dict_reverseitemiterator","odict_iterator","itertools.zip_longest","itertools.pairwise"].contains (strIterType x)=false:=by
 unfold strIterType
 split<;>decide
def zq3{P:Program}{w:World}{K:W.Frag}{tg:Expr}(it:Addr)(x:Str)(t:Tok):Turn P w K tg (Its x) [it] it (λi h=>i<=x.cps.size/\h.IsStrIter it (strIterType x) x t i) where
 mem:=by simp
 obj:=λi h st b hb=>by
  have e:b=it:=by simpa using hb
  subst e;obtain⟨_,o,e,c,d⟩:=st
  exact⟨o,e,λv z=>by rw[d] at z;cases z⟩
 keep:=λi h h' st k=>by
  obtain⟨hi,o,e,r⟩:=st
  exact⟨hi,o,k it (by simp) o e,r⟩
 item:=by
  intro X hP hw hK hc i pins s σ H E I hf st hg;subst hP hw hK
  obtain⟨f0,f1,f2,f3,f4,f5⟩:=hf it (by simp)
  refine(VO (P:=X.prog) (w:=X.w) (I.ok.hd hc) it x t).item i s _ _ hg st.2 λv h' tk hv st' kk=>?_;obtain⟨c,u,hcu,rfl⟩:=hv
  have I1:Inv X pins σ H { s with heap:=h',toks:=tk }:=I.turned (λb o hb e=>kk b o (by simpa using hb) e) f0 f1 f3 f4 f5
  obtain⟨o,e,cl,d⟩:=id st';exact⟨_,rfl,zx1 (s:={ s with heap:=h',toks:=tk }) e cl d Qp ⟨.str ⟨#[c]⟩,H,I1,⟨u,rfl⟩,⟨rfl,c,hcu,rfl⟩,⟨hg,st'⟩,λb hb=>(hf b hb).1⟩⟩
 done:=by
  intro X hP hw hK hc i pins s σ H E I hf st hg;subst hP hw hK
  obtain⟨f0,f1,f2,f3,f4,f5⟩:=hf it (by simp)
  have hg':i=x.cps.size:=Nat.le_antisymm st.1 hg;subst hg'
  refine(VO (P:=X.prog) (w:=X.w) (I.ok.hd hc) it x t).done s _ _ st.2 λh' tk kk=>⟨rfl,I.turned (λb o hb e=>kk b o (by simpa using hb) e) f0 f1 f3 f4 f5⟩
 self:=λA i s Q E st h=>by
  replace st:=st.2
  unfold strIterType at st
  split at st
  ·exact wpAny_pyIter_striter_ascii st h
  ·exact wpAny_pyIter_striter_wide st h
section
variable {X:Cx}{tg:Expr}
def xA2(tl:TE):TI:=λσ H R=>tl σ H λx H1=>∃z,x=.str z/\R (Its z) H1
def zT8{l:Expr}{tl:TE}(hl:PE X l tl):PI X tg l (xA2 tl):=by
 intro pins s σ H R I h;refine thn (hl pins s σ H _ I h) λv s1 ⟨x,H1,I1,r1,q1⟩=>?_;obtain⟨z,e,q⟩:=q1;subst e;obtain⟨t,rfl⟩:=r1;refine wpAny_pyIter_strU ?_;refine⟨s1.heap.objs.size,[s1.heap.objs.size],_,_,H1,rfl,I1.kept (t':=s1.toks) λb o e=>zg _ e,zq3 _ z t,⟨Nat.zero_le _,_,zw _ rfl,rfl,rfl⟩,λb hb=>?_,q⟩
 have e:b=s1.heap.objs.size:=by simpa using hb
 subst e;exact I1.fpOk (zk _) (I1.hok.fresh (zk _))
def zQ7:SlR X (λx lo hi H Q=>∃z,x=.str z/\(Txt.slice z lo hi).length<=sizeLine/\Q (.str (Txt.slice z lo hi)) H):=by
 intro pins s σ H x v vl vu lo hi sl Q I rx hs pl pu h;obtain⟨z,rfl,hz,q⟩:=h;obtain⟨t,rfl⟩:=rx;refine⟨"str","str.__getitem__",PySem.F.slot_str_getitem.lookup,typeIs_str _ _ _,?_⟩;obtain⟨o,ho,hc,hd⟩:=hs
 have hS:∃l u:Option (Int × Tok),vl=partValue l/\vu=partValue u/\l.map (·.1)=lo/\u.map (·.1)=hi:=by
  have one:∀{v:Value}{p:Option Int},IsPart v p->∃l:Option (Int × Tok),v=partValue l/\l.map (·.1)=p:=λ{v p} h=>by
   cases h with
   |none=>exact⟨none,rfl,rfl⟩
   |int i t=>exact⟨some (i,t),rfl,rfl⟩
  obtain⟨l,e1,e2⟩:=one pl;obtain⟨u,e3,e4⟩:=one pu;exact⟨l,u,e1,e3,e2,e4⟩
 obtain⟨l,u,rfl,rfl,rfl,rfl⟩:=hS;refine wpAny_getItem_str_slice (l:=l) (u:=u) (st:=none) ⟨o,ho,hc,hd⟩ rfl ?_;unfold Txt.slice at q hz;unfold sliceMade;have ep:slicePicked z l u none=Builtin.Str.strSliceIndices (l.map (·.1)) (u.map (·.1)) 1 z.length:=rfl;rw[ep];have e1:((Option.map (λx:Int × Tok=>x.fst) none).getD 1 == 1)=true:=rfl;rw[e1];have e2:((1:Int) == 1)=true:=rfl
 split
 ·rename_i hw
  rw[if_pos (by simpa using hw)] at q
  exact⟨.str z,H,I,⟨t,rfl⟩,q⟩
 ·rename_i hw
  rw[if_neg (by simpa using hw)] at q hz
  exact⟨hz,⟨.str _,H,I.tok _,⟨_,rfl⟩,q⟩⟩
theorem VW:∀(xs:List Str) (k:Nat),Vals (xs.map V.str) (strsFrom k xs)
 |[],_=>.nil
 |x::xs,k=>by
  unfold strsFrom;exact .cons ⟨k,rfl⟩ (VW xs (k+1))
def zv8:MtR X "str.split" (λx vs H Q=>∃z y,x=.str z/\vs=[.str y]/\y.length≠0/\z.length<=sizeLine/\(Txt.split z y).length<=sizeLine/\∀p,H p=none->Q (.ref p) (upd H p (.lst ((Txt.split z y).map V.str)))):=by
 intro pins s σ H x vs v us Q I rx rv h;obtain⟨z,y,rfl,rfl,hy,hz,hlen,q⟩:=h;obtain⟨t,rfl⟩:=rx
 cases rv with
 | cons r1 rn =>
  cases rn;obtain⟨u,rfl⟩:=r1
  have hy':(y.length == 0)=false:=by simpa using hy
  have hf:H s.heap.objs.size=none:=I.hok.fresh (zk _)
  have lay:∀(its:List Value) (tk:Nat),Vals ((Txt.split z y).map V.str) its->((Txt.split z y).map V.str).length<=sizeLine->EP X pins σ Q (.ref s.heap.objs.size) { s with heap:=s.heap.push { cls:=.type "list",data:=.seq its.toArray },toks:=tk }:=λits tk r hl=>
   ⟨.ref s.heap.objs.size,_,I.laid (t':=tk) (o:=.lst ((Txt.split z y).map V.str)) (λb ob q=>zg _ q) (zk _) ⟨hl,its,0,r,zw _ rfl⟩,rfl,q _ hf⟩
  by_cases h1:(decide (z.length<y.length)||decide (Builtin.Str.strKind z<Builtin.Str.strKind y))=true
  ·have es : Txt.split z y = [z] := by unfold Txt.split; rw [if_pos h1]
   refine call_meets PySem.F.slot_str_split (typeIs_str _ _ _) PySem.F.entry_str_split (PySem.F.args_str_split_2 _ _) (meets_str_split_cannot_occur z y t u h1) ?_
   exact lay [.str z t] s.toks (by rw[es];exact .cons ⟨t,rfl⟩ .nil) (by rw[zj];exact hlen)
  ·have h1' := Bool.not_eq_true _ ▸ h1
   by_cases h2:(Builtin.Str.occurrences z y 0 z.length (z.length+1)).isEmpty=true
   ·have es : Txt.split z y = [z] := by unfold Txt.split; rw [if_neg h1, if_pos h2]
    refine call_meets PySem.F.slot_str_split (typeIs_str _ _ _) PySem.F.entry_str_split (PySem.F.args_str_split_2 _ _) (meets_str_split_not_found z y t u (by simpa using h1) hy' h2) ?_
    exact lay [.str z t] s.toks (by rw[es];exact .cons ⟨t,rfl⟩ .nil) (by rw[zj];exact hlen)
   ·have es : Txt.split z y = Builtin.Str.partsBetween z (Builtin.Str.occurrences z y 0 z.length (z.length + 1)) y.length := by unfold Txt.split; rw [if_neg h1, if_neg h2]
    refine call_meets PySem.F.slot_str_split (typeIs_str _ _ _) PySem.F.entry_str_split (PySem.F.args_str_split_2 _ _) (meets_str_split_sep z y t u (by simpa using h1) hy' (by simpa using h2) w6 (by rw[<- es];exact hlen)) ?_
    exact lay _ _ (by rw[es];exact VW _ _) (by rw[zj];exact hlen)
def zi8:MtR X "str.startswith" (λx vs H Q=>∃z y,x=.str z/\vs=[.str y]/\Q (.bl (Txt.startswith z y)) H):=by
 intro pins s σ H x vs v us Q I rx rv h;obtain⟨z,y,rfl,rfl,q⟩:=h;obtain⟨t,rfl⟩:=rx
 cases rv with
 |cons r1 rn=>
  cases rn;obtain⟨u,rfl⟩:=r1;exact SC.startswith ⟨.bl _,H,I,rfl,q⟩
def zv9:MtR X "str.index" (λx vs H Q=>∃z y i r,x=.str z/\vs=[.str y]/\Builtin.Str.occurrences z y 0 z.length 1=i::r/\Q (.int (i:Nat)) H):=by
 intro pins s σ H x vs v us Q I rx rv h;obtain⟨z,y,i,r,rfl,rfl,ho,q⟩:=h;obtain⟨t,rfl⟩:=rx
 cases rv with
 |cons r1 rn=>
  cases rn;obtain⟨u,rfl⟩:=r1;exact SC.index ho ⟨.int _,H,I.tok _,⟨_,rfl⟩,q⟩
def UE:MtR X "str.partition" (λx vs H Q=>∃z y,x=.str z/\vs=[.str y]/\y.length≠0/\z.length<=sizeLine/\∀p,H p=none->Q (.ref p) (upd H p (.tup [.str (Txt.partition z y).1,.str (Txt.partition z y).2.1,.str (Txt.partition z y).2.2]))):=by
 intro pins s σ H x vs v us Q I rx rv h;obtain⟨z,y,rfl,rfl,hy,hz,q⟩:=h;obtain⟨t,rfl⟩:=rx
 cases rv with
 | cons r1 rn =>
  cases rn;obtain⟨u,rfl⟩:=r1;have hf:H s.heap.objs.size=none:=I.hok.fresh (zk _)
  refine call_meets PySem.F.slot_str_partition (typeIs_str _ _ _) PySem.F.entry_str_partition (PySem.F.args_str_partition_2 _ _) (meets_str_partition z y t u (by simpa using hy) hz) ?_
  unfold Txt.partition at q
  cases ho:Builtin.Str.occurrences z y 0 z.length 1 with
  |nil=>
   rw[ho] at q
   exact⟨.ref s.heap.objs.size,_,I.laid (o:=.tup [.str z,.str Str.empty,.str Str.empty]) (λb ob q=>zg _ q) (zk _) ⟨(by decide:3<=sizeLine),_,.cons ⟨_,rfl⟩ (.cons ⟨_,rfl⟩ (.cons ⟨_,rfl⟩ .nil)),IsTup.new _ _⟩,rfl,q _ hf⟩
  |cons i r=>
   rw[ho] at q
   exact⟨.ref s.heap.objs.size,_,I.laid (o:=.tup [.str (Builtin.Str.strSub z 0 i),.str y,.str (Builtin.Str.strSub z (i+y.length) z.length)]) (λb ob q=>zg _ q) (zk _) ⟨(by decide:3<=sizeLine),_,.cons ⟨_,rfl⟩ (.cons ⟨_,rfl⟩ (.cons ⟨_,rfl⟩ .nil)),IsTup.new _ _⟩,rfl,q _ hf⟩
theorem Jv:∀{xs:List Str}{us:List Value},Vals (xs.map V.str) us->StrsAre us xs
 |[],us,h=>by
  cases h;exact .nil
 | x :: xs, us, h => by
  cases h with
  |cons r1 rn=>
   obtain⟨t,rfl⟩:=r1;exact .cons x t (Jv rn)
def zM0:MtR X "str.join" (λx vs H Q=>∃z p xs,x=.str z/\vs=[.ref p]/\SqL X.K H p (xs.map V.str)/\z.length<=16/\(xs.map λx=>x.length).sum+xs.length<=1048576/\Q (.str (Txt.join z xs)) H):=by
 intro pins s σ H x vs v us Q I rx rv h;obtain⟨z,p,xs,rfl,rfl,hp,hz,hs,q⟩:=h;obtain⟨t,rfl⟩:=rx
 cases rv with
 |cons r1 rn=>
  cases rn;cases r1;obtain⟨its,r,ht,_⟩:=I.list hp
  exact join_listW ht.isList (by simpa using Jv r) hz hs λt' k=>⟨.str _,H,I.tok _,⟨_,rfl⟩,q⟩
end
section
variable {A:AC}{X:Cx}{tg a b o e:Expr}{es:List Expr}{ta tb te to:TD}{t1:TAD}{pos p apos cpos:Pos}
def Uc(z:Str):List D:=z.cps.toList.map λc=>D.str ⟨#[c]⟩
def YA(d:D)(k:Str->Prop):Prop:=match d with |.str z=>k z |_=>False
@[simp] theorem xf7{z:Str}{k:Str->Prop}:YA (.str z) k=k z:=rfl
def qg{d:D}{k:Str->Prop}(h:YA d k):∃z,d=.str z/\k z:=by
 cases d<;>first |exact⟨_,rfl,h⟩ |exact h.elim
def zY1(ta:TD):TID:=λrho n P=>ta rho n λd n1=>YA d λz=>P (Uc z) n1
@[simp] theorem xk0{rho:Rho}{n:Nat}{P:List D->Nat->Prop}:zY1 ta rho n P=ta rho n λd n1=>YA d λz=>P (Uc z) n1:=rfl
def ze6(ha:PD A X a ta):PID A X tg a (zY1 ta):=by
 exists (zT8 ha).imp λsg H R h=>by
   obtain⟨rho,n,P,ds,vs,I,ht,hQ⟩:=h;refine⟨rho,n,_,ds,vs,I,ht,λv H' n' d ⟨os,J⟩ k=>?_⟩;obtain⟨z,rfl,k⟩:=qg k;obtain⟨J1,r⟩:=J.pop;have e:=r.toS rfl;subst e;refine⟨z,rfl,hQ _ H' n' _ [] [] ⟨os,J1⟩ rfl (λn2 rho2 sg2 H2 ds2 vs2 i ⟨os2,I2⟩=>?_) k⟩
   refine⟨λd e=>?_,λhi=>by unfold Uc at hi;rw[zj,ww] at hi;exact hi⟩
   unfold Uc at e;rw[xn] at e
   cases hc:z.cps.toList[i]? with
   |none=>rw[hc] at e;cases e
   |some c=>
    rw[hc] at e;cases e;rw[Array.getElem?_toList] at hc;refine⟨(wz.mp hc).1,λx H3 y=>?_⟩;obtain⟨rfl,c',hc',rfl⟩:=y;rw[hc] at hc';cases hc';exact⟨os2,I2.push (Rep.ofS (d:=.str _) rfl)⟩
def xt9(ta:TD)(tl th:TOD):TD:=λrho n P=>ta rho n λd n1=>tl rho n1 λlo n2=>th rho n2 λhi n3=>YA d λz=>(Txt.slice z lo hi).length<=sizeLine/\P (.str (Txt.slice z lo hi)) n3
@[simp] theorem xq9{tl th:TOD}{rho:Rho}{n:Nat}{P:D->Nat->Prop}:xt9 ta tl th rho n P=ta rho n λd n1=>tl rho n1 λlo n2=>th rho n2 λhi n3=>YA d λz=>(Txt.slice z lo hi).length<=sizeLine/\P (.str (Txt.slice z lo hi)) n3:=rfl
def qh{le he:Option Expr}{tl th:TOD}{p2:Pos}(ha:PD A X a ta)(hl:POD A X le tl)(hh:POD A X he th):PD A X (.Subscript a (.Slice le he none p2) pos) (xt9 ta tl th):=by
 exists (YN zQ7 ha hl hh).imp λsg H Q h=>by
   obtain⟨rho,n,P,ds,vs,I,ht,hQ⟩:=h;refine⟨rho,n,_,ds,vs,I,ht,λv H1 n1 d J1 h1=>⟨rho,n1,_,_,_,J1,h1,λlo H2 n2 J2 h2=>⟨rho,n2,_,_,_,J2,h2,λhi H3 n3 ⟨os,J3⟩ h3=>?_⟩⟩⟩;obtain⟨z,rfl,hz,k⟩:=qg h3;obtain⟨J4,r⟩:=J3.pop;have e:=r.toS rfl;subst e;exact⟨z,rfl,hz,hQ _ _ n3 _ ⟨os,J4.push (Rep.ofS (d:=.str _) rfl)⟩ k⟩
def Kh(A:AC)(r:V->List V->Hp->VK->Prop)(rd:Str->List D->(D->Prop)->Prop):Prop:=
 ∀os n rho sg H ds vs z es ws (k:D->Prop) (Q:VK),AmO A os n rho sg H (es++.str z::ds) (ws++.str z::vs)->ws.length=es.length->rd z es k->(∀v H' d,Am A n rho sg H' (d::ds) (v::vs)->k d->Q v H')->r (.str z) ws H Q
def dMt(rd:Str->List D->(D->Prop)->Prop)(to:TD)(t1:TAD):TD:=λrho n P=>to rho n λd n1=>YA d λz=>t1 rho n1 λes n2=>rd z es λd'=>P d' n2
@[simp] theorem xz0{rd:Str->List D->(D->Prop)->Prop}{rho:Rho}{n:Nat}{P:D->Nat->Prop}:dMt rd to t1 rho n P=to rho n λd n1=>YA d λz=>t1 rho n1 λes n2=>rd z es λd'=>P d' n2:=rfl
def KH{name:Str}{id:String}{r:V->List V->Hp->VK->Prop}{rd:Str->List D->(D->Prop)->Prop}(slot:Slot "str" name id)(hty:typeOf (.builtin id)=pure (.type "method_descriptor"))(hm:MtR X id r)(hr:Kh A r rd)(ho:PD A X o to)(ha:PAD A X (e::es) t1)
  (hbase:attributeBase o name X.env (eval o X.env)=eval o X.env:=by rfl)
  (hfew : ((backTo cpos (starEach (e :: es) X.env)).all (λx => !x.1) && (backToKw cpos (keywordEach [] X.env)).all (λx => x.1.isSome)
   && decide ((e::es).length+([]:List Keyword).length+(if ([]:List Keyword).isEmpty then 0 else 1)<30))=true:=by rfl)
  (hline:(apos.endLine == cpos.line)=true:=by rfl) (hs:starEach (e::es) X.env=(false,eval e X.env)::starEach es X.env:=by rfl) (hplain:(backTo cpos (starEach es X.env)).any (·.1)=false:=by rfl) :
  PD A X (.Call (.Attribute o name apos) (e::es) [] cpos) (dMt rd to t1):=by
 exists (zU6 PySem.F.plainAttrs_str slot hty hm ho ha hbase hfew hline hs hplain).imp λsg H Q h=>by
   obtain⟨rho,n,P,ds,vs,I,ht,hQ⟩:=h;refine⟨rho,n,_,ds,vs,I,ht,λv H' n' d J k=>?_⟩;obtain⟨z,rfl,k⟩:=qg k
   have e:v=.str z:=by
    obtain⟨os,J⟩:=J;exact J.pop.2.toS rfl
   subst e;refine⟨rfl,rho,n',_,_,_,J,k,λws H2 n2 es' ⟨os,J2⟩ hl k2=>?_⟩;exact hr _ _ _ _ _ _ _ _ _ _ _ _ J2 hl k2 λv H3 d J3 k3=>hQ v H3 n2 d J3 k3
def rd1(f:Str->Str->(D->Prop)->Prop):Str->List D->(D->Prop)->Prop:=λz es k=>match es with |[d]=>YA d λy=>f z y k |_=>False
@[simp] theorem xx2{f:Str->Str->(D->Prop)->Prop}{z y:Str}{k:D->Prop}:rd1 f z [.str y] k=f z y k:=rfl
def ZS{f:Str->Str->(D->Prop)->Prop}{z:Str}{es:List D}{k:D->Prop}(h:rd1 f z es k):∃y,es=[.str y]/\f z y k:=by
 match es,h with
 |[d],h=>
  obtain⟨y,rfl,h⟩:=qg (show YA d _ from h);exact⟨y,rfl,h⟩
def ZW{os n rho sg H ds vs}{z y:Str}{ws:List V}(I:AmO A os n rho sg H ([D.str y]++.str z::ds) (ws++.str z::vs))(hl:ws.length=[D.str y].length):ws=[.str y]/\AmO A os n rho sg H ds vs:=by
 match ws,hl with
 |[w],_=>
  obtain⟨I1,r⟩:=I.pop;have e:=r.toS rfl;subst e;exact⟨rfl,I1.pop.1⟩
abbrev zc8:Str->List D->(D->Prop)->Prop:=rd1 λz y k=>y.length≠0/\z.length<=sizeLine/\(Txt.split z y).length<=sizeLine/\k (.lst ((Txt.split z y).map D.str))
theorem jl{K:W.Frag}{G:Option Addr}{Z:Addr->Prop}{H:Hp}:∀xs:List Str,Reps K G Z H (xs.map D.str) (xs.map V.str)
 |[]=>.nil
 |x::xs=>.cons (Rep.ofS (d:=.str x) rfl) (jl xs)
def zs1:Kh A (λx vs H Q=>∃z y,x=.str z/\vs=[.str y]/\y.length≠0/\z.length<=sizeLine/\(Txt.split z y).length<=sizeLine/\∀p,H p=none->Q (.ref p) (upd H p (.lst ((Txt.split z y).map V.str)))) zc8:=by
 intro os n rho sg H ds vs z es ws k Q I hl h hQ;obtain⟨y,rfl,h1,h2,h3,h⟩:=ZS h;obtain⟨rfl,J⟩:=ZW I hl;exact⟨z,y,rfl,rfl,h1,h2,h3,λp hp=>hQ _ _ _ ⟨os,J.newLst (jl _) hp⟩ h⟩
def kW(ho:PD A X o to)(ha:PAD A X [e] t1)(hbase:attributeBase o "split" X.env (eval o X.env)=eval o X.env:=by rfl)
  (hfew:((backTo cpos (starEach [e] X.env)).all (λx=>!x.1)&&(backToKw cpos (keywordEach [] X.env)).all (λx=>x.1.isSome)&&decide ([e].length+([]:List Keyword).length+(if ([]:List Keyword).isEmpty then 0 else 1)<30))=true:=by rfl)
  (hline:(apos.endLine == cpos.line)=true:=by rfl) (hs:starEach [e] X.env=(false,eval e X.env)::starEach [] X.env:=by rfl) (hplain:(backTo cpos (starEach [] X.env)).any (·.1)=false:=by rfl) :
  PD A X (.Call (.Attribute o "split" apos) [e] [] cpos) (dMt zc8 to t1):=KH PySem.F.slot_str_split PySem.F.type_str_split zv8 zs1 ho ha hbase hfew hline hs hplain
abbrev Jz:Str->List D->(D->Prop)->Prop:=rd1 λz y k=>k (.bl (Txt.startswith z y))
def zc3:Kh A (λx vs H Q=>∃z y,x=.str z/\vs=[.str y]/\Q (.bl (Txt.startswith z y)) H) Jz:=by
 intro os n rho sg H ds vs z es ws k Q I hl h hQ;obtain⟨y,rfl,h⟩:=ZS h;obtain⟨rfl,J⟩:=ZW I hl;exact⟨z,y,rfl,rfl,hQ _ _ _ ⟨os,J.push (Rep.ofS (d:=.bl _) rfl)⟩ h⟩
def Xm(ho:PD A X o to)(ha:PAD A X [e] t1)(hbase:attributeBase o "startswith" X.env (eval o X.env)=eval o X.env:=by rfl)
  (hfew:((backTo cpos (starEach [e] X.env)).all (λx=>!x.1)&&(backToKw cpos (keywordEach [] X.env)).all (λx=>x.1.isSome)&&decide ([e].length+([]:List Keyword).length+(if ([]:List Keyword).isEmpty then 0 else 1)<30))=true:=by rfl)
  (hline:(apos.endLine == cpos.line)=true:=by rfl) (hs:starEach [e] X.env=(false,eval e X.env)::starEach [] X.env:=by rfl) (hplain:(backTo cpos (starEach [] X.env)).any (·.1)=false:=by rfl) :
  PD A X (.Call (.Attribute o "startswith" apos) [e] [] cpos) (dMt Jz to t1):=KH PySem.F.slot_str_startswith PySem.F.type_str_startswith zi8 zc3 ho ha hbase hfew hline hs hplain
abbrev zd0:Str->List D->(D->Prop)->Prop:=rd1 λz y k=>∃i r,Builtin.Str.occurrences z y 0 z.length 1=i::r/\k (.int (i:Nat))
def zs3:Kh A (λx vs H Q=>∃z y i r,x=.str z/\vs=[.str y]/\Builtin.Str.occurrences z y 0 z.length 1=i::r/\Q (.int (i:Nat)) H) zd0:=by
 intro os n rho sg H ds vs z es ws k Q I hl h hQ;obtain⟨y,rfl,i,r,ho,h⟩:=ZS h;obtain⟨rfl,J⟩:=ZW I hl;exact⟨z,y,i,r,rfl,rfl,ho,hQ _ _ _ ⟨os,J.push (Rep.ofS (d:=.int _) rfl)⟩ h⟩
def zf7(ho:PD A X o to)(ha:PAD A X [e] t1)(hbase:attributeBase o "index" X.env (eval o X.env)=eval o X.env:=by rfl)
  (hfew:((backTo cpos (starEach [e] X.env)).all (λx=>!x.1)&&(backToKw cpos (keywordEach [] X.env)).all (λx=>x.1.isSome)&&decide ([e].length+([]:List Keyword).length+(if ([]:List Keyword).isEmpty then 0 else 1)<30))=true:=by rfl)
  (hline:(apos.endLine == cpos.line)=true:=by rfl) (hs:starEach [e] X.env=(false,eval e X.env)::starEach [] X.env:=by rfl) (hplain:(backTo cpos (starEach [] X.env)).any (·.1)=false:=by rfl) :
  PD A X (.Call (.Attribute o "index" apos) [e] [] cpos) (dMt zd0 to t1):=KH PySem.F.slot_str_index PySem.F.type_str_index zv9 zs3 ho ha hbase hfew hline hs hplain
abbrev zB0:Str->List D->(D->Prop)->Prop:=rd1 λz y k=>y.length≠0/\z.length<=sizeLine/\k (.tup [.str (Txt.partition z y).1,.str (Txt.partition z y).2.1,.str (Txt.partition z y).2.2])
def zF8:Kh A (λx vs H Q=>∃z y,x=.str z/\vs=[.str y]/\y.length≠0/\z.length<=sizeLine/\∀p,H p=none->Q (.ref p) (upd H p (.tup [.str (Txt.partition z y).1,.str (Txt.partition z y).2.1,.str (Txt.partition z y).2.2]))) zB0:=by
 intro os n rho sg H ds vs z es ws k Q I hl h hQ;obtain⟨y,rfl,h1,h2,h⟩:=ZS h;obtain⟨rfl,J⟩:=ZW I hl;exact⟨z,y,rfl,rfl,h1,h2,λp hp=>hQ _ _ _ ⟨os,J.newTup (jl [_,_,_]) hp⟩ h⟩
def zf5(ho:PD A X o to)(ha:PAD A X [e] t1)(hbase:attributeBase o "partition" X.env (eval o X.env)=eval o X.env:=by rfl)
  (hfew:((backTo cpos (starEach [e] X.env)).all (λx=>!x.1)&&(backToKw cpos (keywordEach [] X.env)).all (λx=>x.1.isSome)&&decide ([e].length+([]:List Keyword).length+(if ([]:List Keyword).isEmpty then 0 else 1)<30))=true:=by rfl)
  (hline:(apos.endLine == cpos.line)=true:=by rfl) (hs:starEach [e] X.env=(false,eval e X.env)::starEach [] X.env:=by rfl) (hplain:(backTo cpos (starEach [] X.env)).any (·.1)=false:=by rfl) :
  PD A X (.Call (.Attribute o "partition" apos) [e] [] cpos) (dMt zB0 to t1):=KH PySem.F.slot_str_partition PySem.F.type_str_partition UE zF8 ho ha hbase hfew hline hs hplain
def Uo:Str->List D->(D->Prop)->Prop:=λz es k=>∃xs:List Str,es=[.lst (xs.map D.str)]/\z.length<=16/\(xs.map λx=>x.length).sum+xs.length<=1048576/\k (.str (Txt.join z xs))
theorem Zd{K:W.Frag}{G:Option Addr}{Z:Addr->Prop}{H:Hp}:∀{xs:List Str}{vs:List V},Reps K G Z H (xs.map D.str) vs->vs=xs.map V.str
 |[],vs,h=>h.nil_inv
 |x::xs,vs,h=>by
  obtain⟨v,r,rfl,q,t⟩:=Reps.split (d:=.str x) (ds:=xs.map D.str) h;rw[Zd t,q.toS rfl];rfl
def zG0:Kh A (λx vs H Q=>∃z p xs,x=.str z/\vs=[.ref p]/\SqL A.K H p (xs.map V.str)/\z.length<=16/\(xs.map λx=>x.length).sum+xs.length<=1048576/\Q (.str (Txt.join z xs)) H) Uo:=by
 intro os n rho sg H ds vs z es ws k Q I hl h hQ;obtain⟨xs,rfl,h1,h2,h⟩:=h
 match ws,hl with
 |[w],_=>
  obtain⟨I1,r⟩:=AmO.pop (d:=.lst (xs.map D.str)) (v:=w) (ds:=.str z::ds) (vs:=.str z::vs) I;obtain⟨a,ys,rfl,sq,rs⟩:=r.lst_inv;rw[Zd rs] at sq;exact⟨z,a,xs,rfl,rfl,sq.sq,h1,h2,hQ _ _ _ ⟨os,I1.pop.1.push (Rep.ofS (d:=.str _) rfl)⟩ h⟩
def qc(hK:X.K=A.K)(ho:PD A X o to)(ha:PAD A X [e] t1)(hbase:attributeBase o "join" X.env (eval o X.env)=eval o X.env:=by rfl)
  (hfew:((backTo cpos (starEach [e] X.env)).all (λx=>!x.1)&&(backToKw cpos (keywordEach [] X.env)).all (λx=>x.1.isSome)&&decide ([e].length+([]:List Keyword).length+(if ([]:List Keyword).isEmpty then 0 else 1)<30))=true:=by rfl)
  (hline:(apos.endLine == cpos.line)=true:=by rfl) (hs:starEach [e] X.env=(false,eval e X.env)::starEach [] X.env:=by rfl) (hplain:(backTo cpos (starEach [] X.env)).any (·.1)=false:=by rfl) :
  PD A X (.Call (.Attribute o "join" apos) [e] [] cpos) (dMt Uo to t1):=KH PySem.F.slot_str_join PySem.F.type_str_join (hK ▸ zM0) zG0 ho ha hbase hfew hline hs hplain
def zR9:RD2:=λd1 d2 k=>YA d1 λi=>YA d2 λj=>k (.bl (!(Builtin.Str.occurrences j i 0 j.length 1).isEmpty))
@[simp] theorem xh8{i j:Str}{k:D->Prop}:zR9 (.str i) (.str j) k=k (.bl (!(Builtin.Str.occurrences j i 0 j.length 1).isEmpty)):=rfl
def zR4:kf A (λx y H Q=>∃i j,x=.str i/\y=.str j/\Q (.bl (!(Builtin.Str.occurrences j i 0 j.length 1).isEmpty)) H) zR9:=by
 rintro os n rho sg H ds vs d1 d2 v1 v2 k Q I h hQ;obtain⟨i,rfl,h1⟩:=qg h;obtain⟨j,rfl,h2⟩:=qg h1;obtain⟨I1,r2⟩:=I.pop;obtain⟨I2,r1⟩:=I1.pop;exact⟨i,j,r1.toS rfl,r2.toS rfl,hQ _ _ _ ⟨os,I2.push (Rep.ofS (d:=.bl _) rfl)⟩ h2⟩
def zx3{K:W.Frag}{mg:Str->Option Value}{x z:Str}{t:Tok}(h:mg x=some (.str z t)):zp7 K mg x (.str z):=⟨.str z,_,h,⟨t,rfl⟩,λG Z H=>.ofS (d:=.str z) rfl⟩
end
section
variable {P:Program}{w:World}{K:W.Frag}{mg:Str->Option Value}{base:Heap}{N:List Str}{qual:Str}{scope:Scope}{f:Addr}{cd:Value}{A0:Around}{outer:List Env}{s:Shared}{H:Hp}{E:XK}{G:Option Addr}{Z:Addr->Prop}{C:Addr}{R:Nat->Prop}
def YC(hE:∀H',XD ⟨K,G,Z,H⟩ C R (.ref C) none H'->E (.ref C) none H'):WJ (CX1 P w) (Jh (CX1 P w) P w K mg base N qual scope f cd A0 outer s H E) (XD ⟨K,G,Z,H⟩ C R):=by
 intro pins σ H1 s1 e s2 I hq;obtain⟨a,T,cls,H2,rfl,hos,hbare,un,hok,fl,a0,T0,aH,TH,q⟩:=hq
 have I2:Inv (Jh (CX1 P w) P w K mg base N qual scope f cd A0 outer s H E) pins σ H2 s2:=I.call' hos un hok hbare (ch:=[]) λ_ z=>nomatch z
 have fresh:∀{b:Addr},s1.heap.get? b=none->s.heap.get? b=none:=λ{b} hb=>by
  cases q:s.heap.get? b with
  |none=>rfl
  |some o=>
   obtain⟨o',z⟩:=I.base.there b o q (λz=>nomatch z)
   rw[hb] at z;cases z
 have un0:Un (frs outer) [] H H2 s.heap s2.heap:=I2.base;have fr:∀b∈frs (envOfC qual scope s.heap.objs.size f cd::outer),H2 b=none:=I2.stkFree;show wpAny _ _ (leaving (envOfC qual scope s.heap.objs.size f cd) (.ref a)) _ _ _;refine QG (s:=s2) (B:=base) (outer:=outer) (L:=s.heap.objs.size) I.ok.frames I2.stack rfl fl λh3 T' kp fl' hT'=>?_
 have T1:s.heap.get? T'=none:=by
  rcases hT' with hT' |rfl
  ·cases q : s.heap.get? T' with
   |none=>rfl
   |some o=>
    obtain⟨o',z⟩:=un0.there T' o q (λz=>nomatch z)
    rw[hT'] at z;cases z
  ·exact fresh T0
 have T2:H2 T'=none:=by
  rcases hT' with hT' |rfl
  ·exact hok.nil_at hT'
  ·exact TH
 obtain⟨rfl,q⟩:=q;refine⟨a,T',_,H2,rfl,I2.os,hbare,un0.kp kp (λb hb=>?_) (λb hb=>?_),hok.kp kp fr (λb hb=>?_),fl',fresh a0,T1,aH,T2,hE H2 ⟨rfl,q⟩⟩
 ·rcases zi.mp (I2.stkSub b hb) with z | z
  ·right
   rw[z];exact wL (zk _)
  ·exact .inl z
 ·rcases zi.mp hb with rfl | hb
  ·exact fresh a0
  ·rw[xh.mp hb];exact fresh T0
 ·rcases zi.mp hb with rfl | hb
  ·exact aH
  ·rw[xh.mp hb];exact TH
end
section
variable {A:AC}{X:Cx}{C:Addr}{R:Nat->Prop}
def xu3(k:Nat)(t:TFX)(t1:TAD)(R:Nat->Prop):TD:=λrho n P=>t1 rho n λes n1=>es.length=k/\t es n1 P R
@[simp] theorem xr4{k:Nat}{t:TFX}{t1:TAD}{rho:Rho}{n:Nat}{P:D->Nat->Prop}:xu3 k t t1 R rho n P=t1 rho n λes n1=>es.length=k/\t es n1 P R:=rfl
def kb{e:Expr}{es:List Expr}{t1:TAD}{pos p:Pos}{x:Str}{t:TFX}{kk k:Nat}(F:FnX X.prog X.w X.K X.mg X.base x kk k C t)(hp:WJ (CX1 X.prog X.w) X (XD A C R))(hr:Room kk X.A)(hK:X.K=A.K)
  (ha:PAD A X (e::es) t1) (hg:Gl X x:=by rfl) (hdb:(x == ("__debug__" : Str))=false:=by decide) (he:starEach (e::es) X.env=(false,eval e X.env)::starEach es X.env:=by rfl) (hpl:(backTo pos (starEach es X.env)).any (·.1)=false:=by rfl) :
  PD A X (.Call (.Name x p) (e::es) [] pos) (xu3 k t t1 R):=by
 obtain⟨f,fd,ps,h1,h2,h3,h4⟩:=F.ex
 exists (KG h1 hr hg h2 h3 h4 .nil hp ha hdb he hpl).imp λsg H Q h=>by
   obtain⟨rho,n,S,ds,vs,I,ht,hQ⟩:=h;refine⟨rho,n,_,ds,vs,I,ht,λws H' n' es' ⟨os,J⟩ hl k=>?_⟩;obtain⟨J1,rs⟩:=J.split hl;rw[xv,hK];refine⟨A.G,Zof A os,n',S,R,es',k.1,rs,J1.st,λa z=>.inl (J1.gz a z),J1.zH,k.2,λv H2 n2 d fr st r q=>hQ v H2 n2 d ⟨os,(J1.called fr st).push r⟩ q,λH2 n2 fr st q=>⟨rfl,n2,λa o hg e=>fr a o hg (J1.fr a o hg e),st,q⟩⟩
def zr3(C:Addr)(j i k:Nat)(t:TFX)(t1:TAD)(ts:TSD):TSD:=λF rho n=>t1 rho n λes n1=>es.length=k/\t es n1 (λd n2=>j<rho.length/\F.nx (rho.set j (some d)) n2)
 λn2=>i<rho.length/\ts { nx:=λrho' n'=>(∃d,rho'[i]?=some (some d))/\F.nx (rho'.set i none) n',rt:=λ_ _=>False } (rho.set i (some (.exc C))) n2
end
def zr7(l:List Value):slicePick l.toArray none none (some (-1))=l.reverse.toArray:=by
 unfold slicePick;show((sliceRange ((l.toArray.size:Int)-1) (-1) (-1)).filterMap λi=>l.toArray[i]?).toArray=l.reverse.toArray
 have e:sliceRange ((l.toArray.size:Int)-1) (-1) (-1)=(List.range l.length).map fun(k:Nat)=>((l.length:Int)-1+(k:Int)*(-1)).toNat:=by
  unfold sliceRange;simp only[zB]
  have c:(if (-1:Int) > 0 then(if (l.length:Int)-1 < -1 then(-1-((l.length:Int)-1)+-1-1)/ -1 else 0) else(if (l.length:Int)-1 > -1 then((l.length:Int)-1 - -1 - -1-1)/(- -1) else 0)).toNat=l.length:=by
   rw[if_neg w9]
   simp only[Int.neg_neg,Int.ediv_one]
   split<;>lia
  rw[c]
  exact List.map_congr_left λk _=>by rw[Int.mul_comm]
 rw[e,List.filterMap_map];have:=zt2 l.toArray;simp only[zB] at this;exact this
section
variable {X:Cx}{e:Expr}{te:TE}{pos p2:Pos}
def xd6(K:W.Frag)(te:TE):TE:=λσ H Q=>te σ H λx H1=>∃a xs,x=.ref a/\SqL K H1 a xs/\∀p,H1 p=none->Q (.ref p) (upd H1 p (.lst xs.reverse))
def zI6{st:Expr}(he:PE X e te)(hst:PE X st λ_ H Q=>Q (.int (-1)) H):PE X (.Subscript e (.Slice none none (some st) p2) pos) (xd6 X.K te):=by
 intro pins s σ H Q I h;refine Subscript_ (thn (he pins s σ H _ I h) λv s1 ⟨x,H1,I1,r1,q1⟩=>?_);obtain⟨a,xs,rfl,hx,q1⟩:=q1;refine wpAny_Slice ?_;rw[evalPart_none];refine zo (zo ?_);rw[evalPart_some];refine thn (hst pins s1 σ H1 (λy H2=>y=.int (-1)/\H2=H1) I1 ⟨rfl,rfl⟩) λu s3 ⟨y,H3,I3,ry,ey,eH⟩=>?_;subst ey eH;obtain⟨tk,rfl⟩:=ry;cases r1;have I4:Inv X pins σ H3 { s3 with heap:=s3.heap.push { cls:=.type "slice",data:=.fields #[.none,.none,.int (-1) tk] } }:=I3.kept (t':=s3.toks) λb ob q=>zg _ q;obtain⟨its,r,ht,hz⟩:=I4.list hx;have hlen:=r.length
 refine tail_any (ops:=[.ref a,.ref s3.heap.objs.size]) ht.isList.typeIs slot_list_getitem.lookup (wpAny_getItem_list_slice ht.isList (Heap.IsSliceOf.new ..) .none .none (.int (-1) tk) (by simp) ?_ (by rw[zB]<;>lia)) (by with_unfolding_all rfl)
 rw[zr7];refine⟨.ref _,_,I4.laid (t':=s3.toks) (o:=.lst xs.reverse) (λb ob q=>zg _ q) (zk _) ?_,rfl,q1 _ (I4.hok.fresh (zk _))⟩
 exact⟨by rw[List.length_reverse];exact hz,its.reverse,0,r.reverse,zw _ rfl⟩
end
section
variable {A:AC}{X:Cx}{a:Expr}{ta:TD}{pos p2 p3 p4:Pos}
def lAt(d:D)(k:List D->Prop):Prop:=match d with |.lst es=>k es |_=>False
@[simp] theorem xj3{es:List D}{k:List D->Prop}:lAt (.lst es) k=k es:=rfl
def zj5{d:D}{k:List D->Prop}(h:lAt d k):∃es,d=.lst es/\k es:=by
 cases d<;>first |exact⟨_,rfl,h⟩ |exact h.elim
def zZ4(ta:TD):TD:=λrho n P=>ta rho n λd n1=>lAt d λfs=>P (.lst fs.reverse) n1
@[simp] theorem xk8{rho:Rho}{n:Nat}{P:D->Nat->Prop}:zZ4 ta rho n P=ta rho n λd n1=>lAt d λfs=>P (.lst fs.reverse) n1:=rfl
def zJ1{j:Nat}(hK:X.K=A.K)(ha:PD A X a ta):PD A X (.Subscript a (.Slice none none (some (.UnaryOp .USub (.Constant (.int 1) j p4) p3)) p2) pos) (zZ4 ta):=by
 exists (zI6 ha ((zU2 zz9 qV).imp λsg H Q q=>⟨1,rfl,q⟩)).imp λsg H Q h=>by
   obtain⟨rho,n,P,ds,vs,I,ht,hQ⟩:=h;refine⟨rho,n,_,ds,vs,I,ht,λv H1 n1 d ⟨os,J⟩ k=>?_⟩;obtain⟨fs,rfl,k⟩:=zj5 k;obtain⟨J1,r⟩:=J.pop;obtain⟨l,xs,rfl,sq,rs⟩:=r.lst_inv;rw[hK];exact⟨l,xs,rfl,sq.sq,λp hp=>hQ _ _ n1 _ ⟨os,J1.newLst rs.reverse hp⟩ k⟩
end
def tx(l:List Nat):Str:=⟨l.toArray⟩
def Yz(x:Str):x=tx x.cps.toList:=by obtain⟨c⟩:=x;rfl
def kg(l:List Nat):(tx l).cps.toList=l:=rfl
def Jr{l m:List Nat}(h:tx l=tx m):l=m:=by
 have:=congrArg (λx:Str=>x.cps.toList) h;exact this
def xQ(l:List Nat):(tx l).length=l.length:=rfl
def Za(l m:List Nat):tx l++tx m=tx (l++m):=by
 show(⟨l.toArray++m.toArray⟩:Str)=⟨(l++m).toArray⟩;rw[List.append_toArray]
def QM{x y:Str}(h:(x == y)=true):x=y:=beq_iff_eq.mp h
def qE(l m:List Nat):(tx l=tx m)=(l=m):=propext ⟨Jr,λh=>by rw[h]⟩
def zq9(a:Nat)(l:List Nat):Txt.slice (tx (a::l)) (some 1) none=tx l:=by
 rw[QM (slice_closes_from (x:=tx (a::l)) (i:=1) ⟨w9,by rw[kg];simp;lia⟩),kg]
 show tx _=tx l
 congr 1
 simp
def zQ6(a:Nat)(l:List Nat):Txt.slice (tx (a::l)) none (some 1)=tx [a]:=by
 rw[QM (slice_closes_to (x:=tx (a::l)) (j:=1) ⟨w9,by rw[kg];simp;lia⟩),kg]
 rfl
def zF2(l:List Nat)(a:Nat):Txt.slice (tx (l++[a])) (some (-1)) none=tx [a]:=by
 rw[QM (slice_closes_from_neg (x:=tx (l++[a])) (i:=-1) (a:=l.length) (b:=l.length+1) w9 (by rw[xQ];simp;lia) (by rw[xQ];simp;lia) (by rw[xQ];simp)),kg]
 show tx _=tx [a]
 congr 1
 simp
def zF3(l:List Nat)(a:Nat):Txt.slice (tx (l++[a])) none (some (-1))=tx l:=by
 rw[QM (slice_closes_to_neg (x:=tx (l++[a])) (j:=-1) (k:=l.length) w9 (by rw[xQ];simp;lia) (by rw[xQ];simp;lia)),kg]
 show tx _=tx l
 congr 1
 simp
def zE8(c a:Nat)(l:List Nat):Txt.startswith (tx (a::l)) (tx [c])=decide (a=c):=by
 unfold Txt.startswith Builtin.Str.subAt
 have e:(tx (a::l)).cps.extract 0 (0+(tx [c]).length)=#[a]:=by
  show(a::l).toArray.extract 0 1=#[a];simp
 rw[e]
 by_cases h:a=c
 ·subst h;simp[xQ];rfl
 ·have : (#[a] == (tx [c]).cps) = false := by
   show(#[a] == #[c])=false;simp[h]
  rw[this];simp[h]
def Qq(c:Nat):Txt.startswith (tx []) (tx [c])=false:=by
 unfold Txt.startswith;simp[xQ]
def wW(c:List Nat):List (List Nat)->List Nat
 |[]=>[]
 |[a]=>a
 |a::b::r=>a++c++wW c (b::r)
def zk0(c:List Nat):∀ws:List (List Nat),Txt.join (tx c) (ws.map tx)=tx (wW c ws):=by
 intro ws;unfold Txt.join;rw[StrLaws.glued_eq_join]
 induction ws with
 |nil=>rfl
 | cons a r ih =>
  cases r with
  |nil=>exact join_one _ _
  |cons b r=>
   rw[zR,zR,join_cons_cons,<- zR,ih,Za,Za];rfl
theorem WE{c:Nat}:∀{a b r s:List Nat},c ∉ a->c ∉ b->a++c::r=b++c::s->a=b/\r=s
 |[],[],r,s,_,_,h=>⟨rfl,by simpa using h⟩
 |[],y::b,r,s,_,hb,h=>by
  simp only[yf,wR,List.cons.injEq] at h
  exact absurd h.1 (λz=>hb (by simp[z]))
 |x::a,[],r,s,ha,_,h=>by
  simp only[yf,wR,List.cons.injEq] at h
  exact absurd h.1 (λz=>ha (by simp[z]))
 |x::a,y::b,r,s,ha,hb,h=>by
  simp only[wR,List.cons.injEq] at h;obtain⟨e,q⟩:=WE (λz=>ha (zh _ z)) (λz=>hb (zh _ z)) h.2
  exact⟨by rw[h.1,e],q⟩
def vo(c:Nat)(l:List Nat):∃ps:List (List Nat),Txt.split (tx l) (tx [c])=ps.map tx/\ps≠[]/\(∀p∈ps,c ∉ p)/\wW [c] ps=l:=by
 refine⟨(Txt.split (tx l) (tx [c])).map λx=>x.cps.toList,?_,?_,λp hp=>?_,?_⟩
 ·rw[zF];exact(map_id'' (λx=>(Yz x).symm) _).symm
 ·intro h;have e:Txt.split (tx l) (tx [c])=[]:=wv.mp h;unfold Txt.split at e
  split at e
  ·cases e
  ·split at e
   ·cases e
   ·unfold Builtin.Str.partsBetween at e
    cases hc:Builtin.Str.occurrences (tx l) (tx [c]) 0 (tx l).length ((tx l).length+1)<;>rw[hc] at e<;>simp at e
 ·obtain⟨x,hx,rfl⟩:=zN.mp hp;exact StrLaws.split_free (tx l) c x hx
 ·have h:=StrLaws.join_split (tx l) (tx [c]);have e:=zk0 [c] ((Txt.split (tx l) (tx [c])).map λx=>x.cps.toList);unfold Txt.join at e;have em:(Txt.split (tx l) (tx [c])).map (tx∘λx=>x.cps.toList)=Txt.split (tx l) (tx [c]):=map_id'' (λx=>(Yz x).symm) _;rw[StrLaws.glued_eq_join,zF,em,h] at e;exact(Jr e).symm
def Qd{x y:Str}{n i:Nat}:StrLaws.At x y n i↔i+y.length<=n/\x.cps.extract i (i+y.length)=y.cps:=by
 unfold StrLaws.At Builtin.Str.subAt;simp
def dg(n:Nat):List Nat:=(Nat.toDigits 10 n).map Char.toNat
def jo(i:Int):List Nat:=if i<0 then 45::dg i.natAbs else dg i.natAbs
def zE7(n:Nat):Str.ofString (toString n)=tx (dg n):=by
 rw[Str.ofString_eq_toList,Nat.toString_eq_ofList_toDigits,String.toList_ofList];rfl
def str_int(i:Int):Str.ofString (toString i)=tx (jo i):=by
 unfold jo
 cases i with
 |ofNat n=>
  rw[if_neg (by simp)]
  exact zE7 n
 |negSucc n=>
  rw[if_pos (Int.negSucc_lt_zero n)];have e:toString (Int.negSucc n) = "-" ++ toString (n+1):=rfl;rw[e,Str.ofString_eq_toList,String.toList_append,wj,Nat.toString_eq_ofList_toDigits,String.toList_ofList,String.toList_ofList];rfl
def zy3{n c:Nat}(h:c∈dg n):48<=c/\c<=57:=by
 unfold dg at h;obtain⟨d,hd,rfl⟩:=zN.mp h
 have:=Nat.isDigit_of_mem_toDigits w9 w9 hd
 rw[Char.isDigit_iff_toNat] at this;exact this
def zm4{n:Nat}(h:n<10^18):(dg n).length<=18:=by
 unfold dg;rw[zj]
 exact(Nat.length_toDigits_le_iff w9 w9).mpr h
abbrev figL:List Nat:=[48,49,50,51,52,53,54,55,56,57]
def zC7:Str.ofString "0123456789" = tx figL:=x5
def zY8(c:Nat):(!(Builtin.Str.occurrences (tx figL) (tx [c]) 0 (tx figL).length 1).isEmpty)=decide (48<=c/\c<=57):=by
 have:=StrLaws.found_one (tx figL) c;rw[show(⟨#[c]⟩:Str)=tx [c] from rfl] at this;rw[this,kg];simp only[figL,zi,xl,or_false]
 congr 1
 apply propext;refine⟨λh=>?_,λh=>?_⟩
 ·rcases h with h |h |h |h |h |h |h |h |h |h<;>simp[h]
 ·by_cases q : c <= 52
  ·have : c = 48 \/ c = 49 \/ c = 50 \/ c = 51 \/ c = 52 := by lia
   rcases this with r |r |r |r |r<;>simp[r]
  ·have : c = 53 \/ c = 54 \/ c = 55 \/ c = 56 \/ c = 57 := by lia
   rcases this with r |r |r |r |r<;>simp[r]
def zY9{c:Nat}(h:48<=c/\c<=57):∃r,Builtin.Str.occurrences (tx figL) (tx [c]) 0 (tx figL).length 1=(c-48)::r:=by
 obtain⟨h1,h2⟩:=h
 have:∀k,k<10->∃r,Builtin.Str.occurrences (tx figL) (tx [48+k]) 0 (tx figL).length 1=k::r:=by
  intro k hk
  match k,hk with
  |0,_=>exact⟨[],x5⟩
  |1,_=>exact⟨[],x5⟩
  |2,_=>exact⟨[],x5⟩
  |3,_=>exact⟨[],x5⟩
  |4,_=>exact⟨[],x5⟩
  |5,_=>exact⟨[],x5⟩
  |6,_=>exact⟨[],x5⟩
  |7,_=>exact⟨[],x5⟩
  |8,_=>exact⟨[],x5⟩
  |9,_=>exact⟨[],x5⟩
 have q:=this (c-48) w6
 rwa [show 48+(c-48)=c by lia] at q
def zr0(l:List Nat):Uc (tx l)=l.map λc=>D.str (tx [c]):=rfl
section
variable {X:Cx}{pos sp:Pos}{e0 e1:Expr}
def xm5(K:W.Frag)(t:TGs):TG:=λv σ H Q=>∃a x xs,v=.ref a/\SqL K H a (x::xs)/\∀p,H p=none->t [x,.ref p] σ (upd H p (.lst xs)) Q
def zI4{k:Nat}{t:TGs}(hc:X.calm=true)(h:PGs X [e0,e1] t)(ha:assignEach [e0,.Starred e1 sp] X.env=[(false,assign e0 X.env),(true,assign e1 X.env)]:=by rfl)(hb:assignEach [e0,e1] X.env=[(false,assign e0 X.env),(false,assign e1 X.env)]:=by rfl):PG X (.Tuple [e0,.Starred e1 sp] k pos) (xm5 X.K t):=by
 intro pins s σ H v u Q I r hw;obtain⟨l,x,xs,rfl,hq,hw⟩:=hw;cases r;obtain⟨its,rv,ht,hz⟩:=I.list hq;have hh:X.A.handled=none:=I.ok.hd hc;have hl:=ht.isList
 have hlen:its.length=xs.length+1:=by simpa using rv.length.symm
 obtain⟨y,ys,rfl⟩:∃y ys,its=y::ys:=by
  cases its with
  |nil=>simp at hlen
  |cons y ys=>exact⟨y,ys,rfl⟩
 have hlt:l≠s.heap.objs.size:=by obtain⟨o,ho,_⟩:=hl;exact zG (zt ho)
 rw[assign_Tuple];refine zc (wy ?_);unfold unpack;rw[ha];refine zc (wq ?_);show wpAny _ _ (unpackItems (.ref l) 2 (some 1)) _ _ _;unfold unpackItems;refine zc ?_;unfold notIterableAtAll;refine zc (wpAny_specialOf hl.typeIs slot_list_iter.lookup ?_);refine zo ?_;simp only[Bool.false_eq_true,if_false];refine zc (wq (wpAny_pyIter_list hl ?_))
 refine zc (wq (W.kun_draw hlt 1 0 _ _ ⟨_,zw _ rfl,rfl,rfl⟩ (hl.push _) (by simp) λh₁ hit₁ hs₁=>?_))
 have hl₁:h₁.IsList l (y::ys).toArray:=(hl.push _).extBut hs₁.extBut hlt;rw[Nat.zero_add] at hit₁;obtain⟨oi,hoi,_⟩:=id hit₁;obtain⟨ol,hol,_⟩:=id hl₁
 show wpAny _ _ (if ([y]:List Value).length<1 then _ else _) _ _ _
 rw[if_neg (by simp)]
 refine zc (wq (W.kun_collect (s:={ s with heap:=h₁ }) (T := "list_iterator") (.inr (.inr (.inl rfl))) (Walks.list (A:=X.A.in1) hh s.heap.objs.size l hlt (y::ys).toArray) (λj u st=>st.1.typeIs) (k:=1) (by simp) ⟨hit₁,hl₁⟩ (zt hoi) (zt hol) (λh₂ tk hk=>?_) (by simp at *;lia)))
 have er:(y::ys).toArray.toList.drop 1=ys:=rfl;rw[er];have I2:Inv X pins σ H { s with heap:=h₂,toks:=tk }:=I.kept (t':=tk) λb o e=>hk b o (zG (zt e)) (hs₁.extBut b o (zG (zt e)) (zg _ e))
 show wpAny _ _ (if ys.length<2-1-1 then _ else _) _ _ _
 rw[if_neg w6]
 have et:ys.take (ys.length-(2-1-1))=ys:=zQ w6
 have ed:ys.drop (ys.length-(2-1-1))=[]:=List.drop_of_length_le w6
 show wpAny _ _ (newList (ys.take (ys.length-(2-1-1))) >>= λd=>pure ([y]++[d]++ys.drop (ys.length-(2-1-1)))) _ _ _;rw[et,ed]
 cases rv with
 |cons r0 r1=>
 have hz':xs.length<=sizeLine:=zm (by simp) hz
 have hy':ys.length<=sizeLine:=zm (by simp at hlen;lia) hz'
 refine zc (wpAny_newList (zo ?_) hy');have hf:H h₂.objs.size=none:=I2.hok.fresh (zk _);have I3:Inv X pins σ (upd H h₂.objs.size (.lst xs)) { s with heap:=h₂.push { cls:=.type "list",data:=.seq ys.toArray },toks:=tk }:=I2.laid (t':=tk) (o:=.lst xs) (λb ob q=>zg _ q) (zk _) ⟨hz',ys,0,r1,zw _ rfl⟩
 have e2:(([(false,assign e0 X.env),(true,assign e1 X.env)]:List (Bool × (Value->Sem Unit))).map (·.2))=(assignEach [e0,e1] X.env).map (·.2):=by rw[hb];rfl
 rw[e2];exact h pins _ σ _ [x,.ref h₂.objs.size] _ Q I3 (.cons r0 (.cons rfl .nil)) (hw _ hf)
end
section
variable {A:AC}{X:Cx}{pos pt sp:Pos}{e0 e1 e:Expr}{te:TD}{m:Nat}
def zQ8(te:TD)(gs:QP):TSD:=λF rho n=>te rho n λd n1=>lAt d λfs=>∃e es,fs=e::es/\gs [e,.lst es] rho λrho'=>F.nx rho' n1
@[simp] theorem xg6{gs:QP}{F:EndsD}{rho:Rho}{n:Nat}:zQ8 te gs F rho n=te rho n λd n1=>lAt d λfs=>∃e es,fs=e::es/\gs [e,.lst es] rho λrho'=>F.nx rho' n1:=rfl
def zs9{gs:QP}{kt:Nat}(hK:X.K=A.K)(hc:X.calm=true)(he:PD A X e te)(h:zP6 A X m [e0,e1] gs)(ha:assignEach [e0,.Starred e1 sp] X.env=[(false,assign e0 X.env),(true,assign e1 X.env)]:=by rfl)(hb:assignEach [e0,e1] X.env=[(false,assign e0 X.env),(false,assign e1 X.env)]:=by rfl)
  (hs:swapsWithSole [.Tuple [e0,.Starred e1 sp] kt pt] e pos.line X.env=pure false:=by rfl) (hw:swappedStores [.Tuple [e0,.Starred e1 sp] kt pt] e X.env=pure none:=by rfl)
  (h1:(assignEach [.Tuple [e0,.Starred e1 sp] kt pt] X.env).map (·.2)=[assign (.Tuple [e0,.Starred e1 sp] kt pt) X.env]:=by rfl):PSD A X (.Assign [.Tuple [e0,.Starred e1 sp] kt pt] e pos) (zQ8 te gs):=by
 exists (ze2 he (zI4 hc h ha hb) hs hw h1).imp λE sg H h=>by
   obtain⟨rho,n,F,ds,vs,I,ht,ok⟩:=h;refine⟨rho,n,_,ds,vs,I,ht,λv H' n' d ⟨os,J0⟩ k=>?_⟩;obtain⟨fs,rfl,e,es,rfl,q⟩:=zj5 k;obtain⟨J,r⟩:=J0.pop;obtain⟨a,xs,rfl,sq,rs⟩:=r.lst_inv;obtain⟨x,ys,rfl,r0,r1⟩:=rs.split;rw[hK];refine⟨a,x,ys,rfl,sq.sq,λp hp=>?_⟩;obtain⟨J1,r2⟩:=(J.newLst r1 hp).pop
   have r3:=Rep.mono (H':=upd H' p (.lst ys)) (λ_ _ z=>z) (λa u _ e=>by rw[xW (wu e hp)];exact e) _ _ r0
   exact⟨rho,n',_,[e,.lst es],ds,vs,⟨os,J1.join (.cons r3 (.cons r2 .nil))⟩,rfl,q,λrho' sg' J' _ k'=>ok.nx _ _ _ _ J' k'⟩
end
def xl8{c:Nat}{a b:List Nat}(h:c ∉ a):Txt.partition (tx (a++c::b)) (tx [c])=(tx a,tx [c],tx b):=by
 have hat:StrLaws.At (tx (a++c::b)) (tx [c]) (tx (a++c::b)).length a.length:=by
  rw[Qd]
  refine⟨by rw[xQ,xQ];simp,?_⟩
  show(a++c::b).toArray.extract a.length (a.length+1)=#[c];simp
 have nat:∀i,i<a.length->¬ StrLaws.At (tx (a++c::b)) (tx [c]) (tx (a++c::b)).length i:=λi hi z=>by
  rw[Qd] at z;have e:=z.2
  have e1:((tx (a++c::b)).cps.extract i (i+(tx [c]).length))[0]?=some c:=by rw[e];rfl
  have e2:(a++c::b)[i]?=some c:=by
   have:((a++c::b).toArray.extract i (i+1))[0]?=some c:=e1;rw[Array.getElem?_extract] at this;simp at this;exact this.2
  rw[xu hi] at e2;exact h (xb e2)
 unfold Txt.partition
 rcases StrLaws.occ_head (tx (a++c::b)) (tx [c]) 1 (zk _) with ⟨_,q⟩ |⟨i,r,e,q1,q2⟩
 ·exact absurd hat (q _)
 ·have hi : i = a.length := by
   rcases Nat.lt_trichotomy i a.length with z |z |z
   ·exact absurd q1 (nat i z)
   ·exact z
   ·exact absurd hat (q2 _ z)
  rw[e,hi];show(Builtin.Str.strSub _ 0 a.length,tx [c],Builtin.Str.strSub _ (a.length+1) _)=_;unfold Builtin.Str.strSub
  have e1:(tx (a++c::b)).cps.extract 0 a.length=a.toArray:=by
   show(a++c::b).toArray.extract 0 a.length=a.toArray;simp
  have e2:(tx (a++c::b)).cps.extract (a.length+1) (tx (a++c::b)).length=b.toArray:=by
   show(a++c::b).toArray.extract (a.length+1) (a++c::b).length=b.toArray;simp
   exact zQ w6
  rw[e1,e2];rfl
section
variable {X:Cx}{tg:Expr}
def zM1:MtR X "str.find" (λx vs H Q=>∃z y,x=.str z/\vs=[.str y]/\Q (.int (Txt.find z y)) H):=by
 intro pins s σ H x vs v us Q I rx rv h;obtain⟨z,y,rfl,rfl,q⟩:=h;obtain⟨t,rfl⟩:=rx
 cases rv with
 |cons r1 rn=>
  cases rn;obtain⟨u,rfl⟩:=r1;exact SC.find ⟨.int _,H,I.tok _,⟨_,rfl⟩,q⟩
def zv7:MtR X "str.strip" (λx vs H Q=>∃z y,x=.str z/\vs=[.str y]/\z.length<=sizeLine/\Q (.str (Txt.stripChars z y)) H):=by
 intro pins s σ H x vs v us Q I rx rv h;obtain⟨z,y,rfl,rfl,hz,q⟩:=h;obtain⟨t,rfl⟩:=rx
 cases rv with
 |cons r1 rn=>
  cases rn;obtain⟨u,rfl⟩:=r1;exact SC.stripChars (λt' k=>⟨.str _,H,I.tok _,⟨_,rfl⟩,q⟩) hz
end
section
variable {A:AC}{X:Cx}{tg a b o e:Expr}{es:List Expr}{ta tb te to:TD}{t1:TAD}{pos p apos cpos:Pos}
abbrev zB3:Str->List D->(D->Prop)->Prop:=rd1 λz y k=>k (.int (Txt.find z y))
def zG1:Kh A (λx vs H Q=>∃z y,x=.str z/\vs=[.str y]/\Q (.int (Txt.find z y)) H) zB3:=by
 intro os n rho sg H ds vs z es ws k Q I hl h hQ;obtain⟨y,rfl,h⟩:=ZS h;obtain⟨rfl,J⟩:=ZW I hl;exact⟨z,y,rfl,rfl,hQ _ _ _ ⟨os,J.push (Rep.ofS (d:=.int _) rfl)⟩ h⟩
def zJ5(ho:PD A X o to)(ha:PAD A X [e] t1)(hbase:attributeBase o "find" X.env (eval o X.env)=eval o X.env:=by rfl)
  (hfew:((backTo cpos (starEach [e] X.env)).all (λx=>!x.1)&&(backToKw cpos (keywordEach [] X.env)).all (λx=>x.1.isSome)&&decide ([e].length+([]:List Keyword).length+(if ([]:List Keyword).isEmpty then 0 else 1)<30))=true:=by rfl)
  (hline:(apos.endLine == cpos.line)=true:=by rfl) (hs:starEach [e] X.env=(false,eval e X.env)::starEach [] X.env:=by rfl) (hplain:(backTo cpos (starEach [] X.env)).any (·.1)=false:=by rfl) :
  PD A X (.Call (.Attribute o "find" apos) [e] [] cpos) (dMt zB3 to t1):=KH PySem.F.slot_str_find PySem.F.type_str_find zM1 zG1 ho ha hbase hfew hline hs hplain
abbrev zc7:Str->List D->(D->Prop)->Prop:=rd1 λz y k=>z.length<=sizeLine/\k (.str (Txt.stripChars z y))
def zs0:Kh A (λx vs H Q=>∃z y,x=.str z/\vs=[.str y]/\z.length<=sizeLine/\Q (.str (Txt.stripChars z y)) H) zc7:=by
 intro os n rho sg H ds vs z es ws k Q I hl h hQ;obtain⟨y,rfl,hz,h⟩:=ZS h;obtain⟨rfl,J⟩:=ZW I hl;exact⟨z,y,rfl,rfl,hz,hQ _ _ _ ⟨os,J.push (Rep.ofS (d:=.str _) rfl)⟩ h⟩
def zu0(ho:PD A X o to)(ha:PAD A X [e] t1)(hbase:attributeBase o "strip" X.env (eval o X.env)=eval o X.env:=by rfl)
  (hfew:((backTo cpos (starEach [e] X.env)).all (λx=>!x.1)&&(backToKw cpos (keywordEach [] X.env)).all (λx=>x.1.isSome)&&decide ([e].length+([]:List Keyword).length+(if ([]:List Keyword).isEmpty then 0 else 1)<30))=true:=by rfl)
  (hline:(apos.endLine == cpos.line)=true:=by rfl) (hs:starEach [e] X.env=(false,eval e X.env)::starEach [] X.env:=by rfl) (hplain:(backTo cpos (starEach [] X.env)).any (·.1)=false:=by rfl) :
  PD A X (.Call (.Attribute o "strip" apos) [e] [] cpos) (dMt zc7 to t1):=KH PySem.F.slot_str_strip PySem.F.type_str_strip zv7 zs0 ho ha hbase hfew hline hs hplain
end
section
variable {X:Cx}
end
section
variable {A:AC}{X:Cx}{e1 e2:Expr}{t1:TAD}{pos:Pos}
end
section
variable {A:AC}{X:Cx}{o e:Expr}{to:TD}{t1:TAD}{pos apos cpos:Pos}
end
section
variable {A:AC}{X:Cx}
def Zu:jw X (.type "int") (λxs H Q=>∃x n,xs=[.str x]/\x.length<=640/\PySem.intText? x=some n/\Q (.int n) H):=by
 intro pins s σ H xs us Q I r h;obtain⟨x,n,rfl,h2,h3,q⟩:=h;obtain⟨u,rfl,t,rfl⟩:=VQ r;exact W.KIN.call_text h3 h2 ⟨.int n,H,I.tok _,⟨_,rfl⟩,q⟩
def zX4:List D->(D->Prop)->Prop:=λes k=>∃x n,es=[.str x]/\x.length<=640/\PySem.intText? x=some n/\k (.int n)
def zn6:vH A (λxs H Q=>∃x n,xs=[.str x]/\x.length<=640/\PySem.intText? x=some n/\Q (.int n) H) zX4:=by
 rintro os n rho sg H ds vs es ws k Q I rs ⟨x,m,rfl,h2,h3,q⟩ hQ;obtain⟨v,rfl,r⟩:=Zg rs
 exact⟨x,m,by rw[r.toS rfl];rfl,h2,h3,hQ _ H _ ⟨os,I.push (Rep.ofS rfl)⟩ q⟩
end
structure FlA(h:Heap)(a T:Addr)(cls fl:Value):Prop where
 ne:T≠a
 ex:∃(oe oT:Obj) (vs ts:Array Value) (a0:Value),h.get? a=some oe/\(oe.cls=cls/\vs[0]?=some a0)/\oe.data=.fields vs/\vs[1]?=some (.ref T)/\h.get? T=some oT/\oT.data=.fields ts/\ts[3]?=some fl
def FlA.of_traced{h h':Heap}{l:List Env}{hid:List Addr}{e:Addr}{cls a0 fl:Value}(ff:h'.FunFrames (W.hideAll h (hid++frs l)) l)(tr:h'.TracedAtW (W.hideAll h (hid++frs l)) e cls a0 fl):∃T,FlA h' e T cls fl/\(h.get? T=none\/T∈hid):=by
 obtain⟨oe,vs,T,oT,ts,h1,⟨h2,h3⟩,h4,h5,h6,h7,h8,h9,h10⟩:=tr;refine⟨T,⟨h7,oe,oT,vs,ts,a0,h1,⟨h2,h3⟩,h4,h5,h8,h9,h10⟩,?_⟩
 cases q:h.get? T with
 |none=>exact .inl rfl
 | some o =>
  refine .inr ?_
  by_cases hm:T∈hid++frs l
  ·rcases xU.mp hm with z | z
   ·exact z
   ·obtain⟨_,o',ho',hd'⟩:=ff.mem (b:=T) z;rw[h8] at ho';cases ho';exact absurd h9 (hd' ts)
  ·rw[W.hideAll_get _ q hm] at h6;cases h6
def QB(e:Value){env env':Env}(h:env.frame=env'.frame):noteFrame e env=noteFrame e env':=by
 unfold noteFrame PySem.frameOf;rw[h]
section
variable {M:Model}{A:Around}{E:Value->Shared->Prop}{s:Shared}{B:Heap}{env env':Env}{outer:List Env}{L e:Addr}{cls:Value}{Q:Unit->Shared->Prop}
def zL9{T:Addr}(hf:A.frames=some (env::outer))(ff:s.heap.FunFrames B (env::outer))(hL:env.frame=some L)(hfl:Fl s.heap e T cls)
  (q:∀(h':Heap) (T':Addr),Kp (env::outer) [e,T] s.heap h'->FlA h' e T' cls (rawInt L)->(s.heap.get? T'=none\/T'=T)->Q () { s with heap:=h' }) :
  wpAny M A (noteFrame (.ref e) env) Q E s:=by
 obtain⟨ne,oe,oT,vs,ts,a0,h1,⟨h2,h3⟩,h4,h5,h6,h7,h8⟩:=hfl;have ffb:=yG (b':=W.hideAll s.heap ([e,T]++frs (env::outer))) ff λx hx=>W.hideAll_none _ (zA _ hx)
 refine wpAny_noteFrame_onW (base:=W.hideAll s.heap ([e,T]++frs (env::outer))) (cls:=cls) (a0:=a0) hf ffb hL
  ⟨oe,vs,T,oT,ts,h1,⟨h2,h3⟩,h4,h5,W.hideAll_none _ (by simp),ne,h6,h7,h8⟩ kJ (W.hideAll_none _ (by simp)) λh' hl=>?_
 obtain⟨st,ff',tr,up⟩:=hl;obtain⟨T',fl,hT⟩:=FlA.of_traced ff' tr
 exact q h' T' (Kp.of ff st up) fl (hT.imp_right λz=>by
  rcases zi.mp z with z |z
  ·exact absurd z fl.ne
  ·simpa using z)
def zj3{T:Addr}{fl:Value}(hf:A.frames=some (env::outer))(ff:s.heap.FunFrames B (env::outer))(hL:env.frame=some L)(hfl:FlA s.heap e T cls fl)
  (q:∀(h':Heap) (T':Addr),Kp (env::outer) [e,T] s.heap h'->Fl h' e T' cls->(s.heap.get? T'=none\/T'=T)->Q () { s with heap:=h' }):wpAny M A (leaving env (.ref e)) Q E s:=by
 obtain⟨ne,oe,oT,vs,ts,a0,h1,⟨h2,h3⟩,h4,h5,h6,h7,h8⟩:=hfl;have ffb:=yG (b':=W.hideAll s.heap ([e,T]++frs (env::outer))) ff λx hx=>W.hideAll_none _ (zA _ hx)
 have nT:(W.hideAll s.heap ([e,T]++frs (env::outer))).get? T=none:=W.hideAll_none _ (by simp)
 have nE:(W.hideAll s.heap ([e,T]++frs (env::outer))).get? e=none:=W.hideAll_none _ (by simp)
 have ht:s.heap.TracedAtW (W.hideAll s.heap ([e,T]++frs (env::outer))) e cls a0 fl:=⟨oe,vs,T,oT,ts,h1,⟨h2,h3⟩,h4,h5,nT,ne,h6,h7,h8⟩
 have fin:∀h',(W.hideAll s.heap ([e,T]++frs (env::outer))).StaysIn h'->h'.FunFrames (W.hideAll s.heap ([e,T]++frs (env::outer))) (env::outer)->h'.TracedW (W.hideAll s.heap ([e,T]++frs (env::outer))) e cls a0 ->
   (∀(b:Addr) (o:Obj),s.heap.get? b=some o->(∀vs:Array Value,o.data≠.fields vs)->∃sl,h'.get? b=some { cls:=o.cls,dict:=o.dict,data:=o.data,slots:=sl })->Q () { s with heap:=h' }:=λh' st ff' tr up=>by
  obtain⟨T',fl,hT⟩:=Fl.of_traced ff' tr
  exact q h' T' (Kp.of ff st up) fl (hT.imp_right λz=>by
   rcases zi.mp z with z |z
   ·exact absurd z fl.ne
   ·simpa using z)
 by_cases hq:(fl == rawInt L)=true
 ·have eq : fl = rawInt L := by simpa using hq
  subst eq;unfold leaving;exact zc (wpAny_noteFrame_againW hL ht (wpAny_setFlight_noneW (l:=env::outer) kJ ffb ht λh' k1 k2 k3 k4=>fin h' k1 k2 k3 λb o hb hn=>⟨o.slots,k4 b o hb hn⟩))
 ·unfold leaving noteFrame;simp only[hL];refine zc (zc (xy h1 h4 h5 ?_))
  rw[if_pos (show(Value.ref T != Value.none)=true from by simp)]
  refine zc (xy h6 h7 h8 ?_);rw[if_neg hq];refine zc (wpAny_setField h6 h7 (wz.mp h8).1 ?_);have other:∀b,b≠T->(s.heap.update T (Obj.mapFields (·.setIfInBounds 3 Value.none))).get? b=s.heap.get? b:=λb hb=>wU _ _ (Ne.symm hb)
  have noRecord:∀b o,s.heap.get? b=some o->(∀vs,o.data≠.fields vs)->b≠T:=λb o hb hnf q=>by
   rw[q,h6] at hb;injection hb with hb;subst hb;exact hnf ts h7
  subst h2
  refine wpAny_newEntryW (base:=W.hideAll s.heap ([e,T]++frs (env::outer))) (a0:=a0) hf (ffb.of_keeps λb o hb hnf=>⟨o,(other b (noRecord b o hb hnf)).trans hb,rfl⟩) hL ((other e (Ne.symm ne)).trans h1)
   (λb o hbo=>(other b λq=>by rw[q,nT] at hbo;cases hbo).trans (kJ b o hbo)) nE h4 (wz.mp h5).1 h3
   λh' ⟨x1,x2,x3,x4⟩=>fin h' x1 x2 x3 λb o hb hnf=>x4 b o ((other b (noRecord b o hb hnf)).trans hb) hnf
def zJ8{α:Type}{T:Addr}{fl:Value}{what:String}{Qa:α->Shared->Prop}(hfl:FlA s.heap e T cls fl)(ff:s.heap.FunFrames B outer)
  (q:∀(h':Heap) fl',Kp outer [T] s.heap h'->FlA h' e T cls fl'->E (.ref e) { s with heap:=h' }):wpAny M A (PySem.passOn what (.ref e) env':Sem α) Qa E s:=by
 obtain⟨ne,oe,oT,vs,ts,a0,h1,⟨h2,h3⟩,h4,h5,h6,h7,h8⟩:=hfl;have hsz3:3<ts.size:=(wz.mp h8).1;unfold PySem.passOn setFlight;refine zc (xy h1 h4 h5 ?_)
 rw[if_neg (show ¬ ((Value.ref T == Value.none)=true) from by simp)]
 refine zc (zc (xy h1 h4 h5 ?_))
 rw[if_pos (show(Value.ref T != Value.none)=true from by simp)]
 refine wpAny_setField h6 h7 hsz3 ?_;have other:∀b f,b≠T->(s.heap.update T f).get? b=s.heap.get? b:=λb f hb=>wU _ _ (Ne.symm hb);have hT:=Heap.get?_update_self (Obj.mapFields (·.setIfInBounds 3 (env'.frame.elim Value.none λf=>rawInt f))) h6 (Obj.isFreed_of_fields (Obj.data_mapFields h7 _))
 refine wpAny_throw (q _ (env'.frame.elim Value.none λf=>rawInt f) ⟨λb o hb _ hn=>(other b _ (by simpa using hn)).trans hb,λb o hb hm=>?_⟩ ⟨ne,oe,_,vs,_,a0,(other e _ (Ne.symm ne)).trans h1,⟨h2,h3⟩,h4,h5,hT,Obj.data_mapFields h7 _,by simp[hsz3]⟩)
 refine⟨o.slots,(other b _ λz=>?_).trans hb⟩;subst z;obtain⟨_,o',ho',hd'⟩:=ff.mem (b:=b) hm;rw[h6] at ho';cases ho';exact hd' ts h7
end
section
variable {prog:Program}{w:World}{A:Around}{R:Result->Shared->Prop}{s:Shared}
def QN{EE:Value->Shared->Prop}{elt target iter:Expr}{ifs:List Expr}{scope:Scope}{pos:Pos}{it acc:Value}{env:Env}(hE:∀e s,EE e s->notedBy (model prog w) A env (λe s'=>R (.error e) s') e s)(J:Nat->Shared->Prop)
  (turn : ∀ n s, J n s -> wpAny (model prog w) A (pyNext it) (λr s1 => match r with
   |none=>R (.ok .next) s1
   | some v => wpAny (model prog w) A (letOwnedTupleGo target it v) (λ_ s2 => wpAny (model prog w) A (assign target env v) (λ_ s3 => wpAny (model prog w) A (zo6 ifs env) (λok s4 =>
     if ok=true then wpAny (model prog w) A (eval elt env) (λx s5=>wpAny (model prog w) A (call (.builtin "list.append") [acc,x]) (λ_ s6=>∃m,m<n/\J m s6) (λ_ _=>False) s5) EE s4
     else ∃m,m<n/\J m s4) (λ_ _=>False) s3) (λ_ _=>False) s2) (λ_ _=>False) s1) (λ_ _=>False) s)
  (n:Nat) (h:J n s):codeAny (model prog w) A (.compLoop (.ListComp elt [⟨target,iter,ifs,0⟩] scope pos) 0 it acc env) R s:=by
 refine codeAny_loop rfl J (λn s hJ=>?_) n h
 show wpAny _ A ((compTurn (.ListComp elt [⟨target,iter,ifs,0⟩] scope pos) 0 it acc env).onRaise (λx=>do noteFrame x env;theTreesLotGoes x)) _ _ s
 refine wpAny_noted ?_;rw[compTurn_list]
 have up:∀{α:Type}{t:Sem α}{Q Q':α->Shared->Prop}{E:Value->Shared->Prop}{s:Shared},wpAny (model prog w) A t Q (λ_ _=>False) s->(∀a s,Q a s->Q' a s)->wpAny (model prog w) A t Q' E s:=
  λh f=>wa h f λ_ _ z=>False.elim z
 refine zc (wy (zc (up (turn n s hJ) λr s1 h1=>?_)))
 cases r with
 |none=>exact zo h1
 |some v=>
  refine zc (up h1 λ_ s2 h2=>?_);refine zc (up h2 λ_ s3 h3=>?_);refine zc (up h3 λok s4 h4=>?_)
  cases ok with
  |false=>exact zo ⟨rfl,h4⟩
  |true=>exact zc (zc (wa h4 (λx s5 h5=>zc (up h5 λ_ s6 h6=>zo (zo ⟨rfl,h6⟩))) hE))
end
section
variable {fs ex:List Addr}{H H1:Hp}{h h1 h2:Heap}{l:List Env}{hid:List Addr}
def Un.more(u:Un fs [] H H1 h h1):Un fs ex H H1 h h1 where
 keep:=λb o e n hb _=>u.keep b o e n hb λz=>nomatch z
 slot:=λb o e n hb _=>u.slot b o e n hb λz=>nomatch z
 free:=λb o e n _=>u.free b o e n λz=>nomatch z
 there:=λb o e _=>u.there b o e λz=>nomatch z
 tups:=u.tups
 frzs:=u.frzs
 tbls:=u.tbls
def Un.kpx(u:Un fs ex H H1 h h1)(k:Kp l hid h1 h2)(hl:∀b∈frs l,b∈fs\/h.get? b=none)(hh:∀b∈hid,b∈ex\/h.get? b=none):Un fs ex H H1 h h2 where
 keep:=λb o e n hb hx=>k.keep b o (u.keep b o e n hb hx) (λz=>(hl b z).elim hb λq=>by rw[e] at q;cases q) λz=>(hh b z).elim hx λq=>by rw[e] at q;cases q
 slot:=λb o e n hb hx=>by
  obtain⟨sl,e1⟩:=u.slot b o e n hb hx
  by_cases hm:b∈frs l
  ·obtain⟨sl',e2⟩:=k.slot b _ e1 hm;exact⟨sl',e2⟩
  ·exact⟨sl,k.keep b _ e1 hm λz=>(hh b z).elim hx λq=>by rw[e] at q;cases q⟩
 free:=u.free
 there:=λb o e hx=>by
  obtain⟨o',e1⟩:=u.there b o e hx
  by_cases hm:b∈frs l
  ·obtain⟨sl',e2⟩:=k.slot b _ e1 hm;exact⟨_,e2⟩
  ·exact⟨_,k.keep b _ e1 hm λz=>(hh b z).elim hx λq=>by rw[e] at q;cases q⟩
 tups:=u.tups
 frzs:=u.frzs
 tbls:=u.tbls
end
def QQ(X:Cx)(EX:XK):Prop:=∀(pins:List (Addr × Obj)) (σ:St) (H:Hp) (s:Shared) (a T:Addr) (cls fl:Value),Inv X pins σ H s->FlA s.heap a T cls fl->X.s₀.heap.get? a=none->X.s₀.heap.get? T=none->H a=none->H T=none->EX cls none H->X.xe (.ref a) s
def xeB(X Y:Cx)(EX:XK):Value->Shared->Prop:=λe s'=>∃(pins:List (Addr × Obj)) (σ:St) (H1:Hp) (s1:Shared),Inv Y pins σ H1 s1/\CX1 X.prog X.w X.stack H1 s1 EX e s'
abbrev Yc(EX:XK)(X:Cx)(scope:Scope)(own M:List Str)(C:Addr)(s2:Shared)(H2:Hp)(fp:List Addr):Cx:=(yq X scope own M C s2 H2 fp).wish (xeB X (yq X scope own M C s2 H2 fp) EX)
def zf9{EX:XK}{X:Cx}{scope:Scope}{own M:List Str}{C:Addr}{s2:Shared}{H2:Hp}{fp:List Addr}:WJ (CX1 X.prog X.w) (Yc EX X scope own M C s2 H2 fp) EX:=λpins σ H s e s' I hq=>⟨pins,σ,H,s,I.unwish,hq⟩
section
variable {P:Program}{w:World}{K:W.Frag}{mg:Str->Option Value}{base:Heap}{N:List Str}{qual:Str}{scope:Scope}{f:Addr}{cd:Value}{A0:Around}{outer:List Env}{s:Shared}{H:Hp}{E:XK}{G:Option Addr}{Z:Addr->Prop}{C:Addr}{R:Nat->Prop}
def zu4(hE:∀H',XD ⟨K,G,Z,H⟩ C R (.ref C) none H'->E (.ref C) none H'):QQ (Jh (CX1 P w) P w K mg base N qual scope f cd A0 outer s H E) (XD ⟨K,G,Z,H⟩ C R):=by
 intro pins σ H2 s2 a T cls fl I2 hfl a0 T0 aH TH q;have un0:Un (frs outer) [] H H2 s.heap s2.heap:=I2.base;have fr:∀b∈frs (envOfC qual scope s.heap.objs.size f cd::outer),H2 b=none:=I2.stkFree;show wpAny _ _ (leaving (envOfC qual scope s.heap.objs.size f cd) (.ref a)) _ _ _;refine zj3 (s:=s2) (B:=base) (outer:=outer) (L:=s.heap.objs.size) I2.ok.frames I2.stack rfl hfl λh3 T' kp fl' hT'=>?_
 have T1:s.heap.get? T'=none:=by
  rcases hT' with hT' |rfl
  ·cases q : s.heap.get? T' with
   |none=>rfl
   |some o=>
    obtain⟨o',z⟩:=un0.there T' o q (λz=>nomatch z)
    rw[hT'] at z;cases z
  ·exact T0
 have T2:H2 T'=none:=by
  rcases hT' with hT' |rfl
  ·exact I2.hok.nil_at hT'
  ·exact TH
 obtain⟨rfl,q⟩:=q;refine⟨a,T',_,H2,rfl,I2.os,I2.bare,un0.kp kp (λb hb=>?_) (λb hb=>?_),I2.hok.kp kp fr (λb hb=>?_),fl',a0,T1,aH,T2,hE H2 ⟨rfl,q⟩⟩
 ·rcases zi.mp (I2.stkSub b hb) with z | z
  ·right
   rw[z];exact wL (zk _)
  ·exact .inl z
 ·rcases zi.mp hb with rfl | hb
  ·exact a0
  ·rw[xh.mp hb];exact T0
 ·rcases zi.mp hb with rfl | hb
  ·exact aH
  ·rw[xh.mp hb];exact TH
end
section
variable {X:Cx}{scope:Scope}{own M:List Str}{pins:List (Addr × Obj)}{σ:St}{H2:Hp}{s2:Shared}{tg iter elt:Expr}{ifs:List Expr}{pos:Pos}{g:TG}{tt:TT}{te:TE}
def WG{EX:XK}(hp:QQ X EX)(hex:X.ex=[])(hst:X.stack=X.env::X.outer)(hfr:X.env.frame=some X.env.locals)(ok:CompOk X scope M)(hc:X.calm=true)(hg:∀C s2 H2 fp,PG (yq X scope own M C s2 H2 fp) tg g)(ht:∀C s2 H2 fp,PTs (yq X scope own M C s2 H2 fp) ifs tt)(he:∀C s2 H2 fp,PE (Yc EX X scope own M C s2 H2 fp) elt te)
  (I2:Inv X pins σ H2 s2) {it:Addr}{fp:List Addr}{tn:Nat->Heap->Prop}{J:It} (T:Turn X.prog X.w X.K tg J fp it tn) (st2:tn 0 s2.heap) (f2:∀b∈fp,Km X pins H2 b)
  {W:Nat->Nat->List V->Hp->Prop} (w0:∃m,W 0 m [] H2) {Qf:V->Hp->Prop}
  (turn : ∀ i m acc H, W i m acc H -> (J.stop i H /\ acc.length <= sizeLine /\ ∀ D, H D = none -> Qf (.ref D) (upd H D (.lst acc))) \/
   (J.go i H /\ acc.length < sizeLine /\ ∀ x H', J.yld i H x H' -> g x (List.replicate own.length none ++ σ) H' λσ2 H2 => σ2.drop own.length = σ /\ tt σ2 H2 λc H3 =>
    if c=true then te σ2 H3 λv H4=>∃m',m'<m/\W (i+1) m' (acc++[v]) H4 else ∃m',m'<m/\W (i+1) m' acc H3))
  {RR:Value->Addr->Result->Shared->Prop}{E:Value->Shared->Prop}
  (hRR:∀acc C e (s':Shared),(∃m,s'.heap.Ns C m/\∀h',Heap.SameBut C s'.heap h'->∀cenv:Env,cenv.locals=C->wpAny (model X.prog X.w) X.A (PySem.passOn "comprehension.variables-let-go" e cenv:Sem Value) (λ_ _=>False) X.xe { s' with heap:=h' })->RR acc C (.error e) s')
  (fin:∀D C H' s' m,Inv X pins σ H' s'->Qf (.ref D) H'->s'.heap.Ns C m->H' C=none->C≠X.env.locals->X.s₀.heap.objs.size<=C->(∀x c,X.env.cells.lookup x=some c->c≠C)->(∀p∈X.pn++pins,p.1≠C)->RR (.ref D) C (.ok .next) s') :
  wpAny (model X.prog X.w) X.A (newList []) (λacc s3=>wpAny (model X.prog X.w) X.A (newFunctionEnv scope X.env.globals (qD X.env scope.names []) [] X.env.qual none .none (some X.env)) (λcenv s4=>
   codeAny (model X.prog X.w) X.A (.compStart (.ListComp elt [⟨tg,iter,ifs,0⟩] scope pos) 0 (.ref it) acc { cenv with scope:=relabel scope X.env }) (RR acc cenv.locals) s4) E s3) E s2:=by
 refine xM (Xu ?_);have zC:(s2.heap.push { cls:=.type "list",dict:=none,data:=.seq ([]:List Value).toArray }).objs.size=s2.heap.objs.size+1:=wd ..;dsimp only;rw[zC];generalize hC:s2.heap.objs.size+1=C;generalize hh:pushCells ((s2.heap.push { cls:=.type "list",dict:=none,data:=.seq ([]:List Value).toArray }).push { cls:=.type "dict",data:=.dict #[] }) scope.names=h4
 have fpl:∀b∈fp,Km X pins H2 b/\b<s2.heap.objs.size:=λb hb=>by
  obtain⟨o,e,_⟩:=T.obj 0 _ st2 b hb;exact⟨f2 b hb,zt e⟩
 have I4:Inv (yq X scope own M C s2 H2 fp) [] (replicate own.length none++σ) H2 { s2 with heap:=h4 }:=JP ok hc I2 fpl hC.symm hh.symm;generalize hX:yq X scope own M C s2 H2 fp=X' at I4
 have keep4:∀b o,s2.heap.get? b=some o->h4.get? b=some o:=λb o e=>by
  rw[<- hh];exact pushCells_keeps _ _ _ _ (zg _ (zg _ e))
 have hD4:h4.get? s2.heap.objs.size=some { cls:=.type "list",dict:=none,data:=.seq ([]:List Value).toArray }:=by
  rw[<- hh];exact pushCells_keeps _ _ _ _ (zg _ (zw _ rfl))
 have st4:tn 0 h4:=T.keep _ _ _ st2 λb hb o e=>keep4 b o e
 have gg:PG X' tg g:=by rw[<- hX];exact hg C s2 H2 fp
 have gt:PTs X' ifs tt:=by rw[<- hX];exact ht C s2 H2 fp
 have ge:PE (X'.wish (xeB X X' EX)) elt te:=by rw[<- hX];exact he C s2 H2 fp
 have xP:X'.prog=X.prog:=by rw[<- hX];rfl
 have xw:X'.w=X.w:=by rw[<- hX];rfl
 have xK:X'.K=X.K:=by rw[<- hX];rfl
 have xA:X'.A=X.A:=by rw[<- hX];rfl
 have xc:X'.calm=true:=by rw[<- hX];exact hc
 have xpn:X'.pn=[]:=by rw[<- hX];rfl
 have xs:X'.s₀=s2:=by rw[<- hX];rfl
 have xH:X'.H₀=H2:=by rw[<- hX];rfl
 have xL:X'.env.locals=C:=by rw[<- hX];rfl
 have xfs:X'.fs=frs X.stack:=by rw[<- hX];rfl
 have xex:X'.ex=fp:=by rw[<- hX];rfl
 have xe:X'.xe=λ_ _=>False:=by rw[<- hX];rfl
 have xenv:({ newEnv scope C X.env.globals (cellsFrom (C+1) scope.names (qD X.env scope.names [])) X.env.qual none .none (some X.env) builtinsNs with scope:=relabel scope X.env }:Env)=X'.env:=by rw[<- hX];rfl
 have Dlt:s2.heap.objs.size<C:=by rw[<- hC];exact Nat.lt_succ_self _
 have fpb:∀{pl:List (Addr × Obj)}{H:Hp},(∀b∈fp,H b=none)->(∀p∈pl,p.1 ∉ fp)->∀b∈fp,Km X' pl H b:=λ{pl H} hn hpl b hb=>by
  refine⟨hn b hb,?_,?_,.inl (by rw[xex];exact hb),λx c e=>(I4.ok.exf b (by rw[xex];exact hb)).2 x c e,λp hp z=>?_⟩
  ·exact(I4.ok.exf b (by rw[xex];exact hb)).1
  ·exact I4.ok.exfs b (by rw[xex];exact hb)
  ·rw [xpn, yf] at hp
   exact hpl p hp (by rw[z];exact hb)
 have Dfp:s2.heap.objs.size ∉ fp:=λz=>xx _ (fpl _ z).2;have DC:s2.heap.objs.size≠C:=zG Dlt
 have Dcell:∀x c,X'.env.cells.lookup x=some c->c≠s2.heap.objs.size:=λx c e z=>by
  obtain⟨v,o,q,hd⟩:=I4.cell x c e;rw[z] at q;have q':h4.get? s2.heap.objs.size=some o:=q;rw[hD4] at q';cases q';cases hd
 have Dfs:s2.heap.objs.size ∉ X'.fs:=λz=>by
  obtain⟨_,o,ho,_⟩:=I4.ok.funs.mem (by exact z)
  rw[xs] at ho;exact xx _ (zt ho)
 have hEE:∀e s',xeB X X' EX e s'->notedBy (model X.prog X.w) X.A X'.env (λe s''=>RR (.ref s2.heap.objs.size) C (.error e) s'') e s':=by
  rintro e s' ⟨pins1,σ1,H1,s1,I1,a,T,cls,H',rfl,hos,hbare,un,hok,fl,a0,T0,aH,TH,q⟩
  have xfr:X'.env.frame=X.env.frame:=by rw[<- hX];rfl
  have un1:Un (frs X.stack) fp H2 H1 s2.heap s1.heap:=by
   have:=I1.base;rw[xfs,xex,xH,xs] at this;exact this
  have un2:Un (frs X.stack) fp H2 H' s2.heap s'.heap:=un1.trans un.more
  have fresh:∀{b},s1.heap.get? b=none->b∈fp\/s2.heap.get? b=none:=λ{b} hb=>by
   by_cases hf:b∈fp
   ·exact .inl hf
   ·cases z : s2.heap.get? b with
    |none=>exact .inr rfl
    |some o=>
     obtain⟨o',z'⟩:=un1.there b o z hf;rw[hb] at z';cases z'
  have os:s'.os=s2.os:=hos.trans (by rw[I1.os,xs])
  have hch:∀b∈fp,(b∈X.ex\/X.s₀.heap.objs.size<=b)/\b≠X.env.locals/\(∀x c,X.env.cells.lookup x=some c->c≠b)/\∀p∈X.pn++pins,p.1≠b:=λb hb=>by
   obtain⟨_,f1,_,f3,f4,f5⟩:=f2 b hb;exact⟨f3,f1,f4,f5⟩
  have IX:Inv X pins σ H' s':=I2.call' os un2 hok hbare hch;obtain⟨m,hm,_⟩:=I1.loc;rw[xL] at hm
  have hC1:H1 C=none:=by have:=I1.free;rw[xL] at this;exact this
  have Cfr:C ∉ frs X.stack:=λz=>by
   obtain⟨_,o,ho,_⟩:=I2.stack.mem (b:=C) z;exact xx _ (Nat.lt_trans (zt ho) Dlt)
  obtain⟨oC,es,ep,hoC,hrC⟩:=hm
  have hoC':s'.heap.get? C=some oC:=un.keep C oC hoC hC1 Cfr λz=>nomatch z
  have hCH:H' C=none:=un.free C oC hoC hC1 λz=>nomatch z
  have aC:a≠C:=λz=>by rw[z,hoC] at a0;cases a0
  have TC:T≠C:=λz=>by rw[z,hoC] at T0;cases T0
  have ffr:X.A.frames=some (X.env::X.outer):=by rw[<- hst];exact I2.ok.frames
  have ff':s'.heap.FunFrames X.base (X.env::X.outer):=by rw[<- hst];exact IX.stack
  show wpAny _ _ (noteFrame (.ref a) X'.env) _ _ s';rw[QB _ xfr];refine zL9 (outer:=X.outer) (B:=X.base) ffr ff' hfr fl λh3 T3 kp3 fl3 hT3=>?_
  have n3:(T3∈fp\/s2.heap.get? T3=none)/\H' T3=none/\T3≠C:=by
   rcases hT3 with z |rfl
   ·refine ⟨?_, hok.nil_at z, λy => by rw [y, hoC'] at z; cases z⟩
    by_cases hf:T3∈fp
    ·exact .inl hf
    ·cases y : s2.heap.get? T3 with
     |none=>exact .inr rfl
     |some o=>
      obtain⟨o',z'⟩:=un2.there T3 o y hf;rw[z] at z';cases z'
   ·exact⟨fresh T0,TH,TC⟩
  have hC3:h3.get? C=some oC:=kp3.keep C oC hoC' (by rw[<- hst];exact Cfr) (by simp[Ne.symm aC,Ne.symm TC])
  refine hRR _ _ _ _ ⟨m,⟨oC,es,ep,hC3,hrC⟩,λh4 hs4 cenv hcv=>?_⟩
  have kp4:Kp (X.env::X.outer) [C] h3 h4:=⟨λb o hb _ hn=>hs4.extBut b o (by simpa using hn) hb,λb o hb hm=>⟨o.slots,hs4.extBut b o (λz=>Cfr (by rw[hst,<- z];exact hm)) hb⟩⟩
  have fl4:FlA h4 a T3 cls (rawInt X.env.locals):=by
   obtain⟨ne,oe,oT,vs,ts,a1,h1,h2,h4',h5,h6,h7⟩:=fl3;exact⟨ne,oe,oT,vs,ts,a1,hs4.extBut _ _ aC h1,h2,h4',h5,hs4.extBut _ _ n3.2.2 h6,h7⟩
  have mk:∀(h':Heap) (hid:List Addr),Kp (X.env::X.outer) hid s'.heap h'->(∀b∈hid,(b∈fp\/s2.heap.get? b=none)/\H' b=none)->Inv X pins σ H' { s' with heap:=h' }:=λh' hid kp hh=>
   I2.call' (s':={ s' with heap:=h' }) os (un2.kpx kp (λb hb=>.inl (by rw[hst];exact hb)) λb hb=>(hh b hb).1) (hok.kp kp (λb hb=>IX.stkFree b (by rw[hst];exact hb)) λb hb=>(hh b hb).2) hbare hch
  have hCn:(C∈fp\/s2.heap.get? C=none)/\H' C=none:=⟨.inr (wL (Nat.le_of_lt Dlt)),hCH⟩
  have hh4:∀b∈[a,T]++[C],(b∈fp\/s2.heap.get? b=none)/\H' b=none:=λb hb=>by
   simp only[wR,yf,zi,List.mem_nil_iff,or_false] at hb
   rcases hb with rfl |rfl |rfl
   ·exact⟨fresh a0,aH⟩
   ·exact⟨fresh T0,TH⟩
   ·exact hCn
  have ff4:h4.FunFrames X.base (X.env::X.outer):=by rw[<- hst];exact(mk h4 _ (kp3.trans kp4) hh4).stack
  refine zJ8 (s:={ s' with heap:=h4 }) (outer:=X.env::X.outer) (B:=X.base) fl4 ff4 λh5 fl5 kp5 fl5'=>?_
  have far:∀{b:Addr},(b∈fp\/s2.heap.get? b=none)->X.s₀.heap.get? b=none:=λ{b} hb=>by
   cases z:X.s₀.heap.get? b with
   |none=>rfl
   | some o =>
    obtain⟨o',z'⟩:=I2.base.there b o z (by rw[hex];exact λy=>nomatch y)
    rcases hb with hb |hb
    ·rcases (hch b hb).1 with y | y
     ·rw[hex] at y;cases y
     ·exact absurd (zt z) (Nat.not_lt.mpr y)
    ·rw[hb] at z';cases z'
  refine hp pins σ H' _ a T3 cls fl5 (mk h5 _ ((kp3.trans kp4).trans kp5) λb hb=>?_) fl5' (far (fresh a0)) (far n3.1) aH n3.2.1 q
  rcases xU.mp hb with hb |hb
  ·exact hh4 b hb
  ·rw[xh.mp hb];exact⟨n3.1,n3.2.1⟩
 rw[xenv]
 have goal:∀s5:Shared,s5={ s2 with heap:=h4 }->codeAny (model X.prog X.w) X.A (.compLoop (.ListComp elt [⟨tg,iter,ifs,0⟩] scope pos) 0 (.ref it) (.ref s2.heap.objs.size) X'.env) (RR (.ref s2.heap.objs.size) C) s5:=by
  rintro s5 rfl;obtain⟨m0,w0⟩:=w0
  refine QN (EE:=xeB X X' EX) hEE (λn s'=>∃i acc σ' H' its k,Inv X' [] σ' H' s'/\σ'.drop own.length=σ/\tn i s'.heap/\(∀b∈fp,H' b=none)/\H' s2.heap.objs.size=none /\
   s'.heap.get? s2.heap.objs.size=some { cls:=.type "list",data:=.seq (List.toArray its) k }/\Vals acc its/\W i n acc H') ?_ m0
   ⟨0,[],_,H2,[],0,I4,by simp,st4,λb hb=>(f2 b hb).1,I2.hok.fresh (zk _),hD4,.nil,w0⟩
  rintro n s3 ⟨i,acc,σ3,H3,its,k,I3,hσ,st3,fr3,hD,hDo,rv,w3⟩
  have pinD:∀{H:Hp}{s:Shared}{σ:St},Inv X' [] σ H s->H s2.heap.objs.size=none->s.heap.get? s2.heap.objs.size=some { cls:=.type "list",data:=.seq (List.toArray its) k } ->
    Inv X' [(s2.heap.objs.size,{ cls:=.type "list",data:=.seq (List.toArray its) k })] σ H s:=λ{H s σ} I hn ho=>I.pins_of λp hp=>by
   have e:p=(s2.heap.objs.size,{ cls:=.type "list",data:=.seq (List.toArray its) k }):=by simpa using hp
   subst e
   exact⟨ho,hn,by rw[xL];exact DC,Dfs,λv z=>by cases z⟩
  have plD:∀p∈[((s2.heap.objs.size,{ cls:=.type "list",data:=.seq (List.toArray its) k }):Addr × Obj)],p.1 ∉ fp:=λp hp=>by
   have e:p=(s2.heap.objs.size,{ cls:=.type "list",data:=.seq (List.toArray its) k }):=by simpa using hp
   subst e;exact Dfp
  have I3':=pinD I3 hD hDo
  rcases turn i n acc H3 w3 with ⟨stop,hsz,q⟩ |⟨go,hsz,step⟩
  ·have := T.done X' xP xw xK xc i _ s3 σ3 H3 (λ_ _ => False) I3' (fpb fr3 plD) st3 stop;rw[xA] at this;refine thn this λr s4 ⟨hr,I5⟩=>?_;subst hr
   have hDo5:=(I5.pin (s2.heap.objs.size,{ cls:=.type "list",data:=.seq (List.toArray its) k }) (by rw[xpn];simp)).1
   have un:Un (frs X.stack) fp H2 H3 s2.heap s4.heap:=by
    have:=I5.base;rw[xfs,xex,xH,xs] at this;exact this
   have os:s4.os=s2.os:=by rw[I5.os,xs]
   have hok:HOk X.prog X.w H3 s4.heap:=by have:=I5.hok;rw[xP,xw] at this;exact this
   have IX:Inv X pins σ H3 s4:=I2.call' os un hok I5.bare λb hb=>by
    obtain⟨_,f1,_,f3,f4,f5⟩:=f2 b hb;exact⟨f3,f1,f4,f5⟩
   have old:∀{b:Addr},s2.heap.objs.size<=b->(X.s₀.heap.objs.size<=b/\b≠X.env.locals/\(∀x c,X.env.cells.lookup x=some c->c≠b)/\∀p∈X.pn++pins,p.1≠b):=λ{b} hb=>by
    obtain⟨_,f1,_,f3,f4,f5⟩:=I2.fpOk (H':=λ_=>none) hb rfl;exact⟨zm I2.sz hb,f1,f4,f5⟩
   obtain⟨d1,d2,d3,d4⟩:=old (zk s2.heap.objs.size);obtain⟨c1,c2,c3,c4⟩:=old (b:=C) (Nat.le_of_lt Dlt);have IY:Inv X pins σ (upd H3 s2.heap.objs.size (.lst acc)) s4:=IX.track hD d1 d2 d3 d4 ⟨hsz,its,k,rv,hDo5⟩;obtain⟨m,hm,_⟩:=I5.loc;rw[xL] at hm
   have hCn:H3 C=none:=by have:=I5.free;rw[xL] at this;exact this
   exact fin _ C _ s4 m IY (q _ hD) hm (by rw[xW (Ne.symm DC)];exact hCn) c2 c1 c3 c4
  ·have := T.item X' xP xw xK xc i _ s3 σ3 H3 (λ_ _ => False) I3' (fpb fr3 plD) st3 go;rw[xA] at this;refine thn this λr s4 ⟨u,hr,h4⟩=>?_;subst hr;refine thn h4 λ_ s5 ⟨x,H5,I5,r5,y5,st5,fr5⟩=>?_
   have hσn:∀(j:Nat) v,(replicate own.length none++σ)[j]?=some (some v)->σ3[j]?=some (some v):=λj v e=>by
    by_cases hlt:j<own.length
    ·rw [xu (by simpa using hlt), xr, if_pos hlt] at e
     cases e
    ·have hle := Nat.le_of_not_lt hlt
     rw[xp (by simpa using hle),xJ,<- hσ,getElem?_drop] at e
     rw[show own.length+(j-own.length)=j by lia] at e
     exact e
   have hlen:(replicate own.length none++σ).length=σ3.length:=by
    have e1:σ3.length=X'.N.length:=I5.len;have e2:=I4.len;exact e2.trans e1.symm
   have I5w:Inv X' _ (replicate own.length none++σ) H5 s5:=I5.weak hlen hσn;have I5p:=I5w.pinned (fpb fr5 plD) (T.obj _ _ st5);have a1:=gg _ s5 _ H5 x u _ I5p r5 (step x H5 y5);rw[xP,xw,xA,xe] at a1;refine thn a1 λ_ s6 ⟨σ6,H6,I6,d6,q6⟩=>?_;have a2:=gt _ s6 σ6 H6 _ I6 q6;rw[xP,xw,xA,xe] at a2;refine thn a2 λb s7 ⟨H7,I7,q7⟩=>?_
   have pin7:∀{H:Hp}{s:Shared},Inv X' ([((s2.heap.objs.size,{ cls:=.type "list",data:=.seq (List.toArray its) k }):Addr × Obj)]++Wt fp s5.heap) σ6 H s ->
     (tn (i+1) s.heap/\(∀b∈fp,H b=none)/\H s2.heap.objs.size=none/\s.heap.get? s2.heap.objs.size=some { cls:=.type "list",data:=.seq (List.toArray its) k }/\Inv X' [] σ6 H s):=λ{H s} I=>by
    refine⟨T.keep _ _ _ st5 λb hb o e=>(I.pin (b,o) (zA _ (zA _ (kB hb e)))).1,λb hb=>?_,?_,?_,I.pins_of λp hp=>by simp at hp⟩
    ·obtain⟨o,e,d⟩:=T.obj _ _ st5 b hb;exact(I.pin (b,o) (zA _ (zA _ (kB hb e)))).2.1
    ·exact(I.pin (s2.heap.objs.size,{ cls:=.type "list",data:=.seq (List.toArray its) k }) (by rw[xpn];simp)).2.1
    ·exact(I.pin (s2.heap.objs.size,{ cls:=.type "list",data:=.seq (List.toArray its) k }) (by rw[xpn];simp)).1
   cases b with
   |false=>
    obtain⟨p1,p2,p3,p4,p5⟩:=pin7 I7;obtain⟨m',hm,w7⟩:=q7;exact⟨m',hm,i+1,acc,σ6,H7,its,k,p5,d6,p1,p2,p3,p4,rv,w7⟩
   |true=>
    rw[if_pos rfl] at q7 ⊢;have a3:wpAny (model X'.prog X'.w) X'.A (eval elt X'.env) _ (xeB X X' EX) s7:=ge _ s7 σ6 H7 _ (I7.wish _) q7;rw[xP,xw,xA] at a3;refine wa a3 (λy s8 ⟨v,H8,I8',r8,q8⟩=>?_) λ_ _ z=>z;have I8:=I8'.unwish;obtain⟨p1,p2,p3,p4,p5⟩:=pin7 I8;obtain⟨m',hm,w8⟩:=q8;have hl:=rv.length
    refine wpAny_list_append_plain (items:=List.toArray its) ⟨k,p4⟩ (λh' hpl hs=>?_) (by simp;lia)
    obtain⟨k',hpl⟩:=hpl
    have I9:Inv X' [] σ6 H8 { s8 with heap:=h' }:=p5.turned (t':=s8.toks) (λb o hb e=>hs.extBut b o hb e) p3 (by rw[xL];exact DC) (.inr (by rw[xs];exact zk _)) Dcell (λp hp=>by rw[xpn] at hp;simp at hp)
    refine⟨m',hm,i+1,acc++[v],σ6,H8,its++[y],k',I9,d6,T.keep _ _ _ p1 λb hb o e=>hs.extBut b o (λz=>Dfp (by rw[<- z];exact hb)) e,p2,p3,?_,rv.append (.cons r8 .nil),w8⟩
    rw[hpl];simp
 exact codeAny_compStart_list (goal _ rfl) (T.self _ 0 _ _ _ st4 (goal _ rfl))
def zt8{EX:XK}{wi:TI}(hp:QQ X EX)(hex:X.ex=[])(hst:X.stack=X.env::X.outer)(hfr:X.env.frame=some X.env.locals)(ok:CompOk X scope M)(hc:X.calm=true)(hi:PI X tg iter wi)(hg:∀C s2 H2 fp,PG (yq X scope own M C s2 H2 fp) tg g)(ht:∀C s2 H2 fp,PTs (yq X scope own M C s2 H2 fp) ifs tt)
  (he:∀C s2 H2 fp,PE (Yc EX X scope own M C s2 H2 fp) elt te) (hs:∀x,foldedSetIterable iter X.env x=pure x:=by intro _;rfl) :
  PE X (.ListComp elt [⟨tg,iter,ifs,0⟩] scope pos) (Qo wi own.length g tt te):=by
 intro pins s σ H Q I h;rw[eval_ListComp]
 refine wK (use:=none) rfl hs (YS (ok.cells I)) ok.kind (λx hx hl=>by rw[ok.uniq x hx,hl]) ?_
 refine thn (hi pins s σ H _ I h) λv s1 h1=>thn h1 λitv s2 h2=>?_;obtain⟨it,fp,tn,J,H2,e,I2,T,st2,f2,W,w0,turn⟩:=h2;subst e;refine WG (Qf:=Q) hp hex hst hfr ok hc hg ht he I2 T st2 f2 w0 turn (λ_ _ _ _ z=>z) λD C H' s' m IY q hm hCn c2 c1 c3 c4=>⟨m,hm,λh' hs'=>?_⟩;exact⟨.ref D,H',IY.turned (t':=s'.toks) (λb o hb e=>hs'.extBut b o hb e) hCn c2 (.inr c1) c3 c4,rfl,q⟩
def KF{EX:XK}{wi:TI}(hp:QQ X EX)(hex:X.ex=[])(hst:X.stack=X.env::X.outer)(hfr:X.env.frame=some X.env.locals){i:Nat}{x:Str}{pos' spos:Pos}(hN:X.N.Nodup)(hix:X.N[i]?=some x)(hx:Loc X.env.scope x)(ok:CompOk X scope M)(hc:X.calm=true)(hi:PI X tg iter wi)(hg:∀C s2 H2 fp,PG (yq X scope own M C s2 H2 fp) tg g)
  (ht:∀C s2 H2 fp,PTs (yq X scope own M C s2 H2 fp) ifs tt) (he:∀C s2 H2 fp,PE (Yc EX X scope own M C s2 H2 fp) elt te)
  (hsw:swapsWith (.ListComp elt [⟨tg,iter,ifs,0⟩] scope pos) (some (.Name x pos')) spos.line X.env=pure true:=by rfl) (hf:X.fn x=true\/X.env.scope.names.lookup x=some .local:=by first |exact .inl rfl |exact .inr rfl |assumption)
  (hs:∀x,foldedSetIterable iter X.env x=pure x:=by intro _;rfl):PS X (.Assign [.Name x pos'] (.ListComp elt [⟨tg,iter,ifs,0⟩] scope pos) spos) (xa7 (Qo wi own.length g tt te) (QL i)):=by
 intro pins s σ H D I h;rw[exec_Assign_Name_used _ _ _ _ hsw];refine zc (wy (zc ?_))
 show wpAny _ _ (do let _ <- comprehension (.ListComp elt [⟨tg,iter,ifs,0⟩] scope pos) scope X.env _ (newList []) false (eval iter X.env) (some (assign (.Name x pos') X.env))) _ _ s
 refine zc (thn (wK (use:=some (assign (.Name x pos') X.env)) (Q:=λ_ s'=>SP X pins D .next s') rfl hs (YS (ok.cells I)) ok.kind (λx hx hl=>by rw[ok.uniq x hx,hl]) ?_)
  λ_ s' hq=>zo (zo hq))
 refine thn (hi pins s σ H _ I h) λv s1 h1=>thn h1 λitv s2 h2=>?_;obtain⟨it,fp,tn,J,H2,e,I2,T,st2,f2,W,w0,turn⟩:=h2;subst e;refine WG (Qf:=λx H1=>QL i x σ H1 D.nx) hp hex hst hfr ok hc hg ht he I2 T st2 f2 w0 turn (λ_ _ _ _ z=>z) λD' C H' s' m IY q hm hCn c2 c1 c3 c4=>?_;show wpAny _ _ (assign (.Name x pos') X.env (.ref D')) _ _ s';refine wpAny_assign_Name (YY IY hN hix hx (v:=.ref D') rfl (λs'' I'' ⟨a,hsb,ha⟩=>?_) hf)
 have hCa:C≠a:=by
  rcases ha with z |z
  ·rw[z];exact c2
  ·exact λe=>c3 x a z e.symm
 exact⟨m,hm.sameBut hsb hCa,λh' hs'=>⟨_,H',I''.turned (t':=s''.toks) (λb o hb e=>hs'.extBut b o hb e) hCn c2 (.inr c1) c3 c4,q⟩⟩
end
section
variable {A:AC}{X:Cx}{scope:Scope}{own M:List Str}{tg iter elt:Expr}{ifs:List Expr}{pos:Pos}{it:TID}{g:TGD}{tt:TBD}{te:TD}{C:Addr}{R:Nat->Prop}
def Vi(hp:QQ X (XD A C R))(ok:CompOk X scope M)(hc:X.calm=true)(hi:PID A X tg iter it)(hg:∀C s2 H2 fp,PGD A (yq X scope own M C s2 H2 fp) own.length tg g)(ht:∀C s2 H2 fp,PTs (yq X scope own M C s2 H2 fp) ifs (zp3 A tt))
  (he:∀C' s2 H2 fp,PD A (Yc (XD A C R) X scope own M C' s2 H2 fp) elt te) (hex:X.ex=[]:=by rfl) (hst:X.stack=X.env::X.outer:=by rfl) (hfr:X.env.frame=some X.env.locals:=by rfl) (hs:∀x,foldedSetIterable iter X.env x=pure x:=by intro _;rfl):PD A X (.ListComp elt [⟨tg,iter,ifs,0⟩] scope pos) (UX it own.length g tt te):=by exists (zt8 hp hex hst hfr ok hc hi hg ht he hs).imp λ_ _ _=>YK
def Ur{i:Nat}{x:Str}{pos' spos:Pos}(hp:QQ X (XD A C R))(hN:X.N.Nodup)(hix:X.N[i]?=some x)(hx:Loc X.env.scope x)(ok:CompOk X scope M)(hc:X.calm=true)(hi:PID A X tg iter it)
  (hg:∀C s2 H2 fp,PGD A (yq X scope own M C s2 H2 fp) own.length tg g) (ht:∀C s2 H2 fp,PTs (yq X scope own M C s2 H2 fp) ifs (zp3 A tt)) (he:∀C' s2 H2 fp,PD A (Yc (XD A C R) X scope own M C' s2 H2 fp) elt te)
  (hex:X.ex=[]:=by rfl) (hst:X.stack=X.env::X.outer:=by rfl) (hfr:X.env.frame=some X.env.locals:=by rfl)
  (hsw:swapsWith (.ListComp elt [⟨tg,iter,ifs,0⟩] scope pos) (some (.Name x pos')) spos.line X.env=pure true:=by rfl) (hf:X.fn x=true\/X.env.scope.names.lookup x=some .local:=by first |exact .inl rfl |exact .inr rfl |assumption)
  (hs:∀x,foldedSetIterable iter X.env x=pure x:=by intro _;rfl):PSD A X (.Assign [.Name x pos'] (.ListComp elt [⟨tg,iter,ifs,0⟩] scope pos) spos) (zQ9 i (UX it own.length g tt te)):=by
 exists (KF hp hex hst hfr hN hix hx ok hc hi hg ht he hsw hf hs).imp λE sg H h=>by
    obtain⟨rho,n,F,ds,vs,I,⟨hl,ht⟩,ok⟩:=h;exact YK (A:=A) ⟨rho,n,_,ds,vs,I,ht,λv H' n' d ⟨os,J⟩ k=>ok.nx _ _ _ _ ⟨_,J.set hl⟩ k⟩
end
section
variable {A:AC}{X:Cx}
def zR7:RD2:=λd1 d2 k=>∃(z:Str) (i:Int) (c:Nat),d1=.str z/\d2=.int i/\z.length<=sizeLine/\atI z.cps.toList i=some c/\k (.str ⟨#[c]⟩)
@[simp] theorem xh4{z:Str}{i:Int}{k:D->Prop}:zR7 (.str z) (.int i) k↔∃c,z.length<=sizeLine/\atI z.cps.toList i=some c/\k (.str ⟨#[c]⟩):=⟨fun⟨_,_,c,e,e',h⟩=>by cases e;cases e';exact⟨c,h⟩,fun⟨c,h⟩=>⟨_,_,c,rfl,rfl,h⟩⟩
def zR3:kf A (rIx A.K) zR7:=by
 rintro os n rho sg H ds vs d1 d2 v1 v2 k Q I ⟨z,i,c,rfl,rfl,hz,h2,q⟩ hQ;obtain⟨I1,r2⟩:=I.pop;obtain⟨I2,r1⟩:=I1.pop;exact .inr (.inr ⟨z,i,c,r1.toS rfl,r2.int_inv,hz,h2,hQ _ H _ ⟨os,I2.push (Rep.ofS (d:=.str _) rfl)⟩ q⟩)
end
def ke:List Nat->List Nat
 |45::r=>r
 |l=>l
def wc(c:Nat):Bool:=decide (48<=c/\c<=57)
def Yn(l:List Nat):Nat:=l.foldl (λa c=>10*a+(c-48)) 0
def zS(l:List Nat):Option Int:=
 if ke l=[]\/(ke l).all wc=false\/((ke l).head?=some 48/\l≠[48]) then none
 else some (if l.head?=some 45 then -(Yn (ke l):Int) else Yn (ke l))
def vS{l:List Nat}(h:l.head?=some 45):l=45::ke l:=by
 cases l with
 |nil=>simp at h
 |cons a r=>
  simp at h;subst h;rfl
def vz{l:List Nat}(h:l.head?≠some 45):ke l=l:=by
 cases l with
 |nil=>rfl
 |cons a r=>
  have:a≠45:=λz=>h (by rw[z];rfl)
  unfold ke
  split
  ·rename_i e;cases e;exact absurd rfl this
  ·rfl
def YT(l:List Nat):PySem.NumText.digitsVal l=Yn l:=by
 unfold PySem.NumText.digitsVal Yn
 congr 1
 funext a c
 lia
def JQ{l:List Nat}{i:Int}(h:zS l=some i)(hl:l.length<=640):PySem.intText? (tx l)=some i:=by
 unfold zS at h
 split at h
 ·cases h
 ·rename_i hc;simp only[not_or,Bool.not_eq_false] at hc;obtain⟨h1,h2,h3⟩:=hc
  have hd:PySem.NumText.AllDigits (ke l):=λc hm=>by
   have:=zZ.mp h2 c hm
   simpa [wc] using this
  cases h
  by_cases hm:l.head?=some 45
  ·rw [if_pos hm, <- YT]
   exact PySem.intText_neg (vS hm) hd h1 (by rw[xQ];lia)
  ·rw [if_neg hm, <- YT];have e:=vz hm;rw[e] at hd h1 ⊢
   exact PySem.intText_digits (x:=tx l) hd h1 (by rw[xQ];lia)
def zp6(l sg rest c1 c2:List Nat):Option (Option (Int × Bool)):=
 if l=[45] then some none else if sg≠c1/\sg≠c2 then none else(zS rest).map λi=>some (i,decide (sg=c1))
def ki(l:List Nat):Option (Option (Int × Bool)):=zp6 l (l.take 1) (l.drop 1) [91] [40]
def vm(l:List Nat):Option (Option (Int × Bool)):=zp6 l (l.drop (l.length-1)) l.dropLast [93] [41]
def VN:List Nat->Option (List Nat × List Nat)
 |[]=>none
 |c::r=>if c=46/\r.head?=some 46 then some ([],r.tail) else(VN r).map λp=>(c::p.1,p.2)
theorem kK:∀{l a b:List Nat},VN l=some (a,b)->l=a++46::46::b/\∀i,i<a.length->¬ (l[i]?=some 46/\l[i+1]?=some 46)
 |[],_,_,h=>by cases h
 | c :: r, a, b, h => by
  unfold VN at h
  split at h
  ·rename_i hc;cases h;obtain⟨rfl,h2⟩:=hc
   cases r with
   |nil=>cases h2
   |cons d r=>
    have:d=46:=by simpa using h2
    subst this;exact⟨rfl,λi hi=>absurd hi (Nat.not_lt_zero _)⟩
  ·rename_i hc
   cases e:VN r with
   |none=>rw[e] at h;cases h
   | some p =>
    obtain⟨a',b'⟩:=p;rw[e] at h;cases h;obtain⟨e1,e2⟩:=kK e
    refine⟨by rw[e1];rfl,λi hi=>?_⟩
    cases i with
    |zero=>
     rintro⟨z1,z2⟩
     refine hc ⟨by simpa using z1,?_⟩
     cases r with
     |nil=>simp at z2
     |cons d r=>simpa using z2
    |succ i=>simpa using e2 i (by simpa using hi)
theorem UY:∀{l:List Nat},VN l=none->∀i:Nat,¬ (l[i]?=some 46/\l[i+1]?=some 46)
 |[],_,i=>by simp
 | c :: r, h, i => by
  unfold VN at h
  split at h
  ·cases h
  ·rename_i hc
   have e:VN r=none:=by simpa using h
   cases i with
   |zero=>
    rintro⟨z1,z2⟩
    refine hc ⟨by simpa using z1,?_⟩
    cases r with
    |nil=>simp at z2
    |cons d r=>simpa using z2
   |succ i=>simpa using UY e i
def at2{l:List Nat}{c d i:Nat}:StrLaws.At (tx l) (tx [c,d]) (tx l).length i↔l[i]?=some c/\l[i+1]?=some d:=by
 rw[Qd]
 have e:(tx l).cps.extract i (i+(tx [c,d]).length)=((l.drop i).take 2).toArray:=by
  show l.toArray.extract i (i+2)=_;simp
 rw[e];show i+2<=l.length/\((l.drop i).take 2).toArray=[c,d].toArray↔_
 have h0:l[i]?=(l.drop i)[0]?:=by simp
 have h1:l[i+1]?=(l.drop i)[1]?:=by simp
 have hlen:(l.drop i).length=l.length-i:=wo ..;rw[h0,h1];generalize l.drop i=m at hlen ⊢
 match m,hlen with
 |[],hl=>simp at hl ⊢
 |[x],hl=>simp at hl ⊢
 |x::y::r,hl=>
  simp at hl ⊢;lia
def Vr(l:List Nat):(∃a b r,VN l=some (a,b)/\Builtin.Str.occurrences (tx l) (tx [46,46]) 0 (tx l).length 1=a.length::r)\/(VN l=none/\Builtin.Str.occurrences (tx l) (tx [46,46]) 0 (tx l).length 1=[]):=by
 rcases StrLaws.occ_head (tx l) (tx [46,46]) 1 (zk _) with ⟨e,q⟩ |⟨i,r,e,q1,q2⟩
 ·refine .inr ⟨?_, e⟩
  cases hc:VN l with
  |none=>rfl
  |some p=>
   obtain⟨a,b⟩:=p;obtain⟨e1,_⟩:=kK hc;refine absurd (at2.mpr ?_) (q a.length);rw[e1];simp
 ·refine .inl ?_
  cases hc:VN l with
  |none=>exact absurd (at2.mp q1) (UY hc i)
  | some p =>
   obtain⟨a,b⟩:=p;obtain⟨e1,e2⟩:=kK hc
   have hi:i=a.length:=by
    rcases Nat.lt_trichotomy i a.length with z |z |z
    ·exact absurd (at2.mp q1) (e2 i z)
    ·exact z
    ·refine absurd (at2.mpr ?_) (q2 _ z);rw[e1];simp
   exact⟨a,b,r,rfl,by rw[e,hi]⟩
def zg1{l a b:List Nat}(h:VN l=some (a,b)):Txt.partition (tx l) (tx [46,46])=(tx a,tx [46,46],tx b):=by
 rcases Vr l with ⟨a',b',r,h',e⟩ |⟨h',_⟩
 ·rw [h] at h';cases h';obtain⟨el,_⟩:=kK h;unfold Txt.partition;rw[e];show(Builtin.Str.strSub _ 0 a.length,tx [46,46],Builtin.Str.strSub _ (a.length+2) _)=_;unfold Builtin.Str.strSub
  have e1:(tx l).cps.extract 0 a.length=a.toArray:=by
   show l.toArray.extract 0 a.length=a.toArray;rw[el];simp
  have e2:(tx l).cps.extract (a.length+2) (tx l).length=b.toArray:=by
   show l.toArray.extract (a.length+2) l.length=b.toArray;rw[el];simp
   exact zQ w6
  rw[e1,e2];rfl
 ·rw[h] at h';cases h'
def zg2{l:List Nat}(h:VN l=none):Txt.partition (tx l) (tx [46,46])=(tx l,tx [],tx []):=by
 rcases Vr l with ⟨a',b',r,h',e⟩ |⟨_,e⟩
 ·rw[h] at h';cases h'
 ·unfold Txt.partition;rw[e];rfl
def zl6{l a b:List Nat}(h:VN l=some (a,b)):Txt.find (tx l) (tx [46,46])=a.length:=by
 rcases Vr l with ⟨a',b',r,h',e⟩ |⟨h',_⟩
 ·rw[h] at h';cases h';unfold Txt.find;rw[e]
 ·rw[h] at h';cases h'
def zl7{l:List Nat}(h:VN l=none):Txt.find (tx l) (tx [46,46])=-1:=by
 rcases Vr l with ⟨a',b',r,h',e⟩ |⟨_,e⟩
 ·rw[h] at h';cases h'
 ·unfold Txt.find;rw[e]
def zb4(l:List Nat){k:Int}{m:Nat}(e:k=m)(h:m<=l.length):Txt.slice (tx l) (some k) none=tx (l.drop m):=by
 subst e
 rw[QM (slice_closes_from (x:=tx l) (i:=(m:Int)) ⟨w6,by rw[kg];lia⟩),kg]
 show tx _=tx _
 congr 1
 exact zQ (by simp)
def xe7(l:List Nat){k:Int}{m:Nat}(e:k=m)(h:m<=l.length):Txt.slice (tx l) none (some k)=tx (l.take m):=by
 subst e
 rw[QM (slice_closes_to (x:=tx l) (j:=(m:Int)) ⟨w6,by rw[kg];lia⟩),kg]
 show tx _=tx _
 congr 1
def YL(l:List Nat):Txt.slice (tx l) none (some 1)=tx (l.take 1):=by
 cases l with
 |nil=>decide +kernel
 |cons a l=>exact zQ6 a l
def Xa(l:List Nat):Txt.slice (tx l) (some 1) none=tx (l.drop 1):=by
 cases l with
 |nil=>decide +kernel
 |cons a l=>exact zq9 a l
def zb5(l:List Nat):Txt.slice (tx l) (some (-1)) none=tx (l.drop (l.length-1)):=by
 rcases wk l with rfl |⟨m,a,rfl⟩
 ·decide +kernel
 ·rw[wl,zF2];simp
def Ks(l:List Nat):Txt.slice (tx l) none (some (-1))=tx l.dropLast:=by
 rcases wk l with rfl |⟨m,a,rfl⟩
 ·decide +kernel
 ·rw[wl,zF3];simp
def kC(l:List Nat)(c:Nat):Txt.startswith (tx l) (tx [c])=decide (l.head?=some c):=by
 cases l with
 |nil=>rw[Qq];simp
 |cons a l=>rw[zE8];simp
theorem zA0{p:Nat->Bool}:∀l:List Nat,(∀c∈l,p c=true)->l.takeWhile p=l
 |[],_=>rfl
 |c::l,h=>by rw[List.takeWhile_cons,if_pos (h c (by simp)),zA0 l λd hd=>h d (zh _ hd)]
def Wl(l:List Nat):(Txt.stripChars (tx l) (tx figL)=tx [])↔l.all wc=true:=by
 have hg:∀c,(tx figL).cps.contains c=wc c:=λc=>by
  show figL.toArray.contains c=wc c
  by_cases h:48<=c/\c<=57
  ·rw [show wc c = true from xm h]
   obtain⟨k,hk⟩:∃k,c=48+k:=⟨c-48,w6⟩
   have hk9:k<=9:=w6
   subst hk;rw[List.contains_toArray,List.contains_eq_mem]
   have:∀k:Nat,k<=9->(48+k)∈figL:=w9
   exact xm (this k hk9)
  ·rw [show wc c = false from zO h];rw[List.contains_toArray,List.contains_eq_mem];refine zO λz=>h ?_
   have:∀d∈figL,48<=d/\d<=57:=w9
   exact this c z
 unfold Txt.stripChars;have eg:(tx figL).cps.contains=wc:=funext hg;rw[eg,stripBy_eq];unfold Builtin.Str.strSub PySem.stripLo PySem.stripHi;simp only[if_true,kg]
 constructor
 ·intro h;apply Classical.byContradiction;intro hn
  have hne:∃c∈l,wc c=false:=by
   apply Classical.byContradiction;intro z
   exact hn (zZ.mpr λc hc=>by
    cases q:wc c
    ·exact absurd ⟨c,hc,q⟩ z
    ·rfl)
  have dl:l.dropWhile wc≠[]:=λz=>by
   obtain⟨c,hc,q⟩:=hne;rw[<- wI (p:=wc) (l:=l),z,xv] at hc;rw[zZ.mp (List.all_takeWhile (p:=wc) (l:=l)) c hc] at q;cases q
  have el:(l.takeWhile wc).length+(l.dropWhile wc).length=l.length:=by
   rw[<- zE,wI]
  have ed:l.drop (l.takeWhile wc).length=l.dropWhile wc:=by
   have e0:=wI (p:=wc) (l:=l)
   calc l.drop (l.takeWhile wc).length=(l.takeWhile wc++l.dropWhile wc).drop (l.takeWhile wc).length:=by rw[e0]
    _=l.dropWhile wc:=List.drop_left
  have lt:((l.dropWhile wc).reverse.takeWhile wc).length<(l.dropWhile wc).length:=by
   have hle:((l.dropWhile wc).reverse.takeWhile wc).length<=(l.dropWhile wc).reverse.length:=(List.takeWhile_prefix _).length_le;rw[List.length_reverse] at hle;refine Nat.lt_of_le_of_ne hle λz=>?_
   have e1:(l.dropWhile wc).reverse.takeWhile wc=(l.dropWhile wc).reverse:=(List.takeWhile_prefix _).eq_of_length (by rw[z,List.length_reverse])
   have hall:=List.all_takeWhile (p:=wc) (l:=(l.dropWhile wc).reverse);rw[e1,List.all_reverse] at hall
   cases hd:l.dropWhile wc with
   |nil=>exact dl hd
   |cons c r=>
    have:=zZ.mp hall c (by rw[hd];simp)
    have h2:=List.head?_dropWhile_not wc l;rw[hd] at h2;simp[this] at h2
  have hs:=congrArg Str.length h;rw[ed] at hs;have hs':(l.toArray.extract (l.takeWhile wc).length (l.length-((l.dropWhile wc).reverse.takeWhile wc).length)).size=0:=hs;simp at hs';lia
 ·intro h;have e:l.takeWhile wc=l:=zA0 l λc hc=>zZ.mp h c hc;rw[e];show(⟨l.toArray.extract l.length _⟩:Str)=⟨#[]⟩
  congr 1
  simp
@[simp] theorem xg9{i j:Str}{k:D->Prop}:zG3 (.str i) (.str j) k↔k (.bl (!decide (i=j))):=by
 unfold zG3
 have e:(ofS (.str i)=ofS (.str j))=(i=j):=propext ⟨λh=>by injection h,λh=>by rw[h]⟩
 simp only[e];exact⟨λh=>h.2.2.2,λh=>⟨rfl,rfl,rfl,h⟩⟩
def xI(l:List Nat):Option (Option (Int × Bool) × Option (Int × Bool)):=
 match VN l with
 |none=>none
 |some (a,b)=>match ki a,vm b with
  |some x,some y=>some (x,y)
  |_,_=>none
def Short(l:List Nat):Prop:=∀a b c:List Nat,l=a++b++c->b.all wc=true->b.length<=18
def Short.mid{a b c:List Nat}(h:Short (a++b++c)):Short b:=λx y z e hy=>h (a++x) y (z++c) (by rw[e];simp) hy
def Short.take{l:List Nat}(h:Short l)(k:Nat):Short (l.take k):=Short.mid (a:=[]) (b:=l.take k) (c:=l.drop k) (by simpa using h)
def Short.drop{l:List Nat}(h:Short l)(k:Nat):Short (l.drop k):=Short.mid (a:=l.take k) (b:=l.drop k) (c:=[]) (by simpa using h)
def Short.nil:Short []:=λa b c e _=>by
 have:b=[]:=by
  have:=congrArg List.length e;simp at this
  exact xO.mp w6
 rw[this];decide
theorem jq{c:List Nat}:∀{ws:List (List Nat)}{w:List Nat},w∈ws->∃a b,wW c ws=a++w++b
 |[x],w,h=>by
  have:w=x:=by simpa using h
  exact⟨[],[],by simp[wW,this]⟩
 | x :: y :: r, w, h => by
  rcases zi.mp h with rfl |h
  ·exact⟨[],c++wW c (y::r),by simp[wW]⟩
  ·obtain ⟨a, b, e⟩ := jq (c := c) h
   exact⟨x++c++a,b,by show x++c++wW c (y::r)=_;rw[e];simp⟩
def Zc(l:List Nat):Nat:=l.foldl (λr c=>if wc c then r+1 else 0) 0
def Wo(l:List Nat)(c:Nat):Zc (l++[c])=if wc c then Zc l+1 else 0:=by
 unfold Zc;rw[List.foldl_append];rfl
def List.reverseRecOn'{p:List Nat->Prop}(b:List Nat)(nil:p [])(snoc:∀b c,p b->p (b++[c])):p b:=by
 have:∀n (l:List Nat),l.length=n->p l:=by
  intro n
  induction n with
  |zero=>intro l h;rw[xO.mp h];exact nil
  | succ n ih =>
   intro l h
   rcases wk l with rfl |⟨m,a,rfl⟩
   ·exact nil
   ·rw [wl] at h ⊢
    exact snoc m a (ih m (by simpa using h))
 exact this _ b rfl
def Ug:∀(b a:List Nat),b.all wc=true->b.length<=Zc (a++b):=by
 intro b
 induction b using List.reverseRecOn' with
 |nil=>intro a _;exact Nat.zero_le _
 |snoc b c ih=>
  intro a h;rw[all_append,zv] at h
  have hc:wc c=true:=by simpa using h.2
  rw[<- append_assoc,Wo,if_pos hc,zE];have:=ih a h.1;simp only[xE];lia
def Short.snoc{l:List Nat}{c:Nat}(h:Short l)(hr:Zc (l++[c])<=18):Short (l++[c]):=λx y z e hy=>by
 rcases wk z with rfl |⟨z',d,rfl⟩
 ·rw[xv] at e;have:=Ug y x hy;rw[<- e] at this;lia
 ·rw [wl] at e
  have e2:l++[c]=(x++y++z')++[d]:=by rw[e];simp
  have:=List.append_inj_left' e2 rfl;exact h x y z' this hy
def zM4:List Str->List Int->List (TE × TE)
 |k::ks,i::is=>(tC (.str k),tC (.int i))::zM4 ks is
 |_,_=>[]
def UH:List Str->List Int->List (Key × V)
 |k::ks,i::is=>(.inr k,.int i)::UH ks is
 |_,_=>[]
theorem Uv{σ:St}{H:Hp}:∀{ks:List Str}{is:List Int}{Q:List (V × V)->Hp->Prop},Q ((UH ks is).map λkv=>(kV kv.1,kv.2)) H->Ju (zM4 ks is) σ H Q
 |[],_,Q,h=>h
 |_::_,[],Q,h=>h
 |k::ks,i::is,Q,h=>Uv (ks:=ks) (is:=is) (Q:=λps H3=>Q ((.str k,.int i)::ps) H3) h
theorem JN:∀(ks:List Str) (is:List Int),UH ks is=QH (ks.map Sum.inr) (is.map V.int)
 |[],[]=>rfl
 |[],_::_=>rfl
 |_::_,[]=>rfl
 |k::ks,i::is=>by
  show(Sum.inr k,V.int i)::UH ks is=(Sum.inr k,V.int i)::QH (ks.map Sum.inr) (is.map V.int);rw[JN ks is]
section
variable {A:AC}{X:Cx}{p:Pos}
def zJ6{ks:List Str}{is:List Int}{keys:List (Option Expr)}{vals:List Expr}(hp:PPs X p keys vals (zM4 ks is))(h0:keys≠[])(hm:Wy [] (UH ks is)=UH ks is)(h15':(UH ks is).length<=15)
  (hall:keys.all (·.isSome)=true:=by rfl) (hl:keys.length=vals.length:=by rfl) (h15:keys.length<=15:=by decide):PD A X (.Dict keys vals p) (dC (.dct (ks.map Sum.inr) (is.map D.int))):=by
 exists (zI7 hp hall hl h0 h15).imp λsg H Q h=>by
   obtain⟨rho,n,P,ds',vs,⟨os,I⟩,ht,hQ⟩:=h;intro q hq;refine Uv ⟨wZ,UH ks is,rfl,h15',?_⟩;rw[hm,JN]
   have e:upd (upd H q (.dK [])) q (.dK (QH (ks.map Sum.inr) (is.map V.int)))=upd H q (.dK (QH (ks.map Sum.inr) (is.map V.int))):=by
    funext b
    by_cases hb:b=q
    ·subst hb;rw[wZ,wZ]
    ·rw[xW hb,xW hb,xW hb]
   rw[e];exact hQ _ _ n _ ⟨os,I.newDct (es:=is.map D.int) Ze hq⟩ ht
end
@[simp] theorem xi2{ks:List Key}{ds:List D}{x:Str}{k:D->Prop}:xa9 (.dct ks ds) (.str x) k↔∃d,atK ks ds (Sum.inr x)=some d/\k d:=⟨fun⟨_,_,_,d,e,e',h⟩=>by cases e;cases e';exact⟨d,h⟩,fun⟨d,h⟩=>⟨_,_,_,d,rfl,rfl,h⟩⟩
@[simp] theorem xb4{neg:Bool}{ks:List Key}{ds:List D}{x:Str}{k:D->Prop}:zG6 neg (.str x) (.dct ks ds) k↔k (.bl ((atK ks ds (Sum.inr x)).isSome != neg)):=⟨fun⟨_,_,_,e,e',h⟩=>by cases e;cases e';exact h,λh=>⟨_,_,_,rfl,rfl,h⟩⟩
def vI{α β:Type}(f:α->Option β):List α->Option (List β)
 |[]=>some []
 |a::r=>(f a).bind λb=>(vI f r).map λbs=>b::bs
theorem kz{α β:Type}{f:α->Option β}:∀{xs:List α}{ys:List β},vI f xs=some ys->ys.length=xs.length
 |[],ys,h=>by cases h;rfl
 | a :: r, ys, h => by
  unfold vI at h
  cases e:f a with
  |none=>rw[e] at h;cases h
  | some b =>
   rw[e] at h
   cases e2:vI f r with
   |none=>rw[e2] at h;cases h
   |some bs=>
    rw[e2] at h;cases h;rw[zr,zr,kz e2]
theorem UG{α β:Type}{f:α->Option β}:∀{xs:List α}{x:α},x∈xs->f x=none->vI f xs=none
 | a :: r, x, hx, h => by
  unfold vI
  rcases zi.mp hx with rfl |hx
  ·rw[h];rfl
  ·rw [UG hx h]
   cases f a<;>rfl
theorem Zo{α β:Type}{f:α->Option β}:∀{xs:List α}{ys:List β}{x:α}{y:β},vI f xs=some ys->f x=some y->vI f (xs++[x])=some (ys++[y])
 |[],ys,x,y,h,hy=>by
  cases h;show(f x).bind _=_;rw[hy];rfl
 | a :: r, ys, x, y, h, hy => by
  unfold vI at h
  cases e:f a with
  |none=>rw[e] at h;cases h
  | some b =>
   rw[e] at h
   cases e2:vI f r with
   |none=>rw[e2] at h;cases h
   |some bs=>
    rw[e2] at h;cases h;show(f a).bind (λb=>(vI f (r++[x])).map λbs=>b::bs)=_;rw[e,Zo e2 hy];rfl
def jX{own:Nat}{g:TGD}{te:TD}{rho:Rho}{n:Nat}{P:D->Nat->Prop}{α β:Type}{Rf:Prop}(enc:α->D)(f:α->Option β)(out:β->D)(xs:List α)
  (hz:xs.length<=sizeLine) (he:∀x∈xs,∀Q:D->Nat->Prop,(∀y,f x=some y->Q (out y) n)->(f x=none->Rf)->g (enc x) (replicate own none++rho) λrho'=>rho'.drop own=rho/\te rho' n Q)
  (no:vI f xs=none->Rf) (hP:∀ys,vI f xs=some ys->P (.lst (ys.map out)) n):JZ own g zP5 te rho P (xs.map enc) n:=by
 refine⟨by simpa using hz,λi acc n'=>n'=n/\∃ys,vI f (xs.take i)=some ys/\acc=ys.map out,⟨rfl,[],rfl,rfl⟩,?_,?_⟩
 ·rintro i d acc n' e ⟨rfl, ys, e1, rfl⟩;rw[xn] at e
  cases q:xs[i]? with
  |none=>rw[q] at e;cases e
  |some x=>
   rw[q] at e;cases e;have hm:x∈xs:=xb q
   refine he x hm (λe n3=>n3=n'/\∃zs,vI f (xs.take (i+1))=some zs/\ys.map out++[e]=zs.map out) (λy hy=>⟨rfl,ys++[y],?_,by simp⟩) λhx=>no (UG hm hx)
   rw[xN,q];exact Zo e1 hy
 ·rintro acc n' ⟨rfl,ys,e1,rfl⟩;rw[zj,wn] at e1;exact hP ys e1
section
variable {A:AC}{X:Cx}{e:Expr}{t1:TAD}{pos:Pos}
end
def Qw{c:Nat}{l:List Nat}(h:c ∉ l):Txt.partition (tx l) (tx [c])=(tx l,tx [],tx []):=by
 have nat:∀i,¬ StrLaws.At (tx l) (tx [c]) (tx l).length i:=λi z=>by
  rw[Qd] at z
  have e1:((tx l).cps.extract i (i+(tx [c]).length))[0]?=some c:=by rw[z.2];rfl
  have:(l.toArray.extract i (i+1))[0]?=some c:=e1;rw[Array.getElem?_extract] at this;simp at this;exact h (xb this.2)
 unfold Txt.partition
 rcases StrLaws.occ_head (tx l) (tx [c]) 1 (zk _) with ⟨e,_⟩ |⟨i,r,e,q1,_⟩
 ·rw[e];rfl
 ·exact absurd q1 (nat i)
def atS:List Str->List D->Str->Option D
 |k::ks,d::ds,x=>if k=x then some d else atS ks ds x
 |_,_,_=>none
structure EntOk(w:World)(K:W.Frag)(e:DictEntry)(k:Str)(d:D):Prop where
 key:∃t,e.key=.str k t
 hash:e.hash=xm0 w (.inr k)
 val:∃v,RelV v e.val/\∀G Z H,Rep K G Z H d v
def Ki(w:World)(K:W.Frag):List DictEntry->List Str->List D->Prop
 |[],[],[]=>True
 |e::es,k::ks,d::ds=>EntOk w K e k d/\Ki w K es ks ds
 |_,_,_=>False
def xa4(w:World)(K:W.Frag)(mg:Str->Option Value)(x:Str)(ks:List Str)(ds:List D):Prop:=
 ∃(a:Addr) (o:Obj) (es:Array DictEntry) (ep:Nat),mg x=some (.ref a)/\(a == sysModules)=false/\K.lookup a=some o/\o.ExactDict/\o.data=.dict es ep/\Ki w K es.toList ks ds
def WA(x k:Str)(t:Tok):YE (.inr x) (.str k t)=decide (k=x):=by
 by_cases h:k=x
 ·subst h;rw[XB];simp
 ·cases e : YE (.inr x) (.str k t) with
  |false=>simp[h]
  |true=>
   rcases yF e with ⟨i,u,e1,e2⟩ |⟨y,u,e1,e2⟩
   ·cases e1
   ·cases e1;injection e2 with e2 _;exact absurd e2 h
def UW{w:World}{K:W.Frag}:∀{es:List DictEntry}{ks:List Str}{ds:List D},Ki w K es ks ds->∀x:Str,
  match atS ks ds x with
  |some d=>∃u v,(es.find? λe=>YE (.inr x) e.key).map (·.val)=some u/\RelV v u/\∀G Z H,Rep K G Z H d v
  |none=>(es.find? λe=>YE (.inr x) e.key).map (·.val)=none
 |[],[],[],_,x=>rfl
 | e :: es, k :: ks, d :: ds, h, x => by
  obtain⟨⟨⟨t,hk⟩,_,v,r1,r2⟩,h2⟩:=h;unfold atS
  by_cases c:k=x
  ·rw [if_pos c];refine⟨e.val,v,?_,r1,r2⟩
   rw[List.find?_cons_of_pos (by rw[hk,WA];simp[c])];rfl
  ·rw [if_neg c, List.find?_cons_of_neg (by rw [hk, WA]; simp [c])]
   exact UW h2 x
 |[],[],_::_,h,_=>h.elim
 |[],_::_,_,h,_=>h.elim
 |_::_,[],_,h,_=>h.elim
 |_::_,_::_,[],h,_=>h.elim
theorem UV{w:World}{K:W.Frag}:∀{es:List DictEntry}{ks:List Str}{ds:List D},Ki w K es ks ds->∀e∈es,∃k:Key,YE k e.key=true/\e.hash=xm0 w k
 |[],[],[],_,e,he=>by simp at he
 |e::es,k::ks,d::ds,h,e',he=>by
  obtain⟨⟨⟨t,hk⟩,hh,_⟩,h2⟩:=h
  rcases zi.mp he with rfl |he
  ·exact⟨.inr k,by rw[hk];exact XB k t,hh⟩
  ·exact UV h2 e' he
 |[],[],_::_,h,_,_=>h.elim
 |[],_::_,_,h,_,_=>h.elim
 |_::_,[],_,h,_,_=>h.elim
 |_::_,_::_,[],h,_,_=>h.elim
def zx9{P:Program}{w:World}{K:W.Frag}{h:Heap}{a:Addr}{o:Obj}{es:Array DictEntry}{ep:Nat}{ks:List Str}{ds:List D}(X:K.In h)(hk:K.lookup a=some o)(hx:o.ExactDict)(hd:o.data=.dict es ep)(he:Ki w K es.toList ks ds) :
  h.MapOf (yS P w) a (findBy (yS P w).is es):=
 ⟨o,es,ep,X a o hk,hx,hd,λe hm=>UV he e (Array.mem_toList_iff.mpr hm),λ_=>rfl⟩
def zl8{P:Program}{w:World}(es:Array DictEntry)(x:Str):findBy (yS P w).is es (.inr x)=(es.toList.find? λe=>YE (.inr x) e.key).map (·.val):=by
 unfold findBy;rw[<- Array.find?_toList];rfl
section
variable {X:Cx}{A:AC}{a b:Expr}{ta tb:TD}{pos p:Pos}{g:Str}{ks:List Str}{ds:List D}
def xu2(ks:List Str)(ds:List D)(tb:TD):TD:=λrho n P=>tb rho n λd n1=>∃x d',d=.str x/\atS ks ds x=some d'/\P d' n1
@[simp] theorem xr3{tb:TD}{rho:Rho}{n:Nat}{P:D->Nat->Prop}:xu2 ks ds tb rho n P=tb rho n λd n1=>∃x d',d=.str x/\atS ks ds x=some d'/\P d' n1:=rfl
def zf6(hG:xa4 X.w X.K X.mg g ks ds)(hK:X.K=A.K)(hb:PD A X b tb)(hs:xd3 b)(hg:Gl X g:=by rfl)(hd:(g == ("__debug__" : Str))=false:=by decide):PD A X (.Subscript (.Name g p) b pos) (xu2 ks ds tb):=by
 exists (by
   obtain⟨ad,o,es,ep,hmg,hsys,hk,hex,hdat,he⟩:=hG;intro pins s σ H Q I h;obtain⟨rho,n,P,ds',vs,J0,ht,hQ⟩:=h;refine za9 PySem.F.slot_dict_getitem.lookup hs (thn (ze9 (v:=.ref ad) hg hmg rfl hd pins s σ H (λx H1=>x=.ref ad/\H1=H) I ⟨rfl,rfl⟩) λu s1 ⟨x,H1,I1,rx,e1,e2⟩=>?_);subst e1 e2;cases rx;refine thn (hb pins s1 σ _ (λy H2=>∃n' d' k,y=.str k/\Am A n' rho σ H2 (.str k::ds') (y::vs)/\atS ks ds k=some d'/\P d' n') I1 ⟨rho,n,_,ds',vs,J0,ht,λv H' n' d J k=>?_⟩) λiv s2 ⟨y,H2,I2,ry,n',d',k,ey,J,hat,hP⟩=>?_
   ·obtain⟨x,d',rfl,hat,k⟩:=k;obtain⟨os,J⟩:=J;have e:=(J.pop.2).toS rfl;exact⟨n',d',x,e,⟨os,J⟩,hat,k⟩
   ·subst ey;have hm:=zx9 (P:=X.prog) I2.kIn hk hex hdat he;refine⟨hm.typeIs,?_⟩;have hf:=UW he k;rw[hat] at hf;obtain⟨u,v,h1,h2,h3⟩:=hf
    refine wpAny_getItem_of (knd:=yS X.prog X.w) (k:=.inr k) (zj8 (k:=.inr k) ry) hm (by rw[zl8];exact h1) ?_
    obtain⟨os,J⟩:=J
    exact⟨v,H2,I2.tok _,h2,hQ v H2 n' d' ⟨os,J.pop.1.push (by rw[<- hK];exact h3 _ _ _)⟩ hP⟩)
end
def Hnd(X:Cx)(h:ExceptHandler)(pins:List (Addr × Obj))(D:Ends):Value->Shared->Prop:=λev s2=>
 wpAny (model X.prog X.w) X.A (noteFrame ev X.env) (λ_ s₂=>wpAny (model X.prog X.w) X.A (setFlight ev none) (λ_ s₃=>wpAny (model X.prog X.w) X.A (handleBy ev X.env [h]) (SP X pins D) X.xe s₃) X.xe s₂) X.xe s2
def PSx(X:Cx)(h:ExceptHandler)(sts:List Stmt)(t:TS):Prop:=
 ∀(pins:List (Addr × Obj)) (s:Shared) (σ:St) (H:Hp) (D:Ends),Inv X pins σ H s->t D σ H->wpAny (model X.prog X.w) X.A (execs sts X.env) (SP X pins D) (Hnd X h pins D) s
section
variable {X:Cx}{k i:Nat}{f C CB:Addr}{fd:FuncData}{ps:List Str}{sp:Sp}{x xB n:Str}{p pos apos np hpos tpos:Pos}{e:Expr}{es:List Expr}{ta:TA}{ts:TS}{b0:Stmt}{suite:List Stmt}{h:ExceptHandler}{sts:List Stmt}{t u:TS}
def zH5(b:PSx X h sts t):PS X (.Try sts [h] [] [] tpos) t:=by
 intro pins s σ H D I q;refine wpAny_Try_except (wa (b pins s σ H D I q) (λf s1 hq=>?_) λe s1 hq=>hq)
 cases f with
 |next=>exact yd hq
 |brk=>exact hq
 |cont=>exact hq
 |ret u=>exact hq
def zd8{s:Shared}{pins:List (Addr × Obj)}{D:Ends}{E:Value->Shared->Prop}{st:Stmt}(q:wpAny (model X.prog X.w) X.A (exec st X.env) (SP X pins D) E s):wpAny (model X.prog X.w) X.A (execs [st] X.env) (SP X pins D) E s:=by
 refine wpAny_execs_cons (wa q (λf s1 hq=>?_) λ_ _ z=>z)
 cases f with
 |next=>exact yd hq
 |brk=>exact hq
 |cont=>exact hq
 |ret u=>exact hq
def zT2{c:Expr}{a b:List Stmt}{tc:TT}(hc:PT X.nox c tc)(ha:PSx X h a t)(hb:PSx X h b u):PSx X h [.If c a b pos] (xn8 tc t u):=by
 intro pins s σ H D I q;refine zd8 (wpAny_If (wa (hc pins s σ H _ (I.wish _) q) (λd s1 ⟨H1,I1',q1⟩=>?_) λ_ _ z=>False.elim z));have I1:Inv X pins σ H1 s1:=I1'.unwish
 cases d with
 |true=>exact ha pins s1 σ H1 D I1 q1
 |false=>exact hb pins s1 σ H1 D I1 q1
def zH1{j:Nat}{y:Str}{yp:Pos}(F:FnOk X.prog X.w X.K X.mg X.base (CX1 X.prog X.w) k f fd ps sp)(hr:Room k X.A)(hg:Gl X x)(hm:X.mg x=some (.ref f))(hk:W.keepIn X.K (.ref f)=true)(hb:Binds X.K fd ps [])(ha:PA X.nox (e::es) ta)
  (hj:X.N[j]?=some y) (hy:X.env.scope.names.lookup y=some .local)
  (hgB:Gl X xB) (hmB:X.mg xB=some (.ref CB)) (hex:W.exmOne X.K (.ref C) (.ref CB)=some true) (hN:X.N.Nodup) (hi:X.N[i]?=some n) (hl:X.env.scope.names.lookup n=some .local)
  (hst:X.stack=X.env::X.outer) (hfr:X.env.frame=some X.env.locals) (hs:∀ev,PSs (X.suite ev) (b0::suite) ts)
  (hdb:(x == ("__debug__" : Str))=false:=by decide) (hdB:(xB == ("__debug__" : Str))=false:=by decide) (he:starEach (e::es) X.env=(false,eval e X.env)::starEach es X.env:=by rfl) (hpl:(backTo pos (starEach es X.env)).any (·.1)=false:=by rfl)
  (hsw:swapsWith (.Call (.Name x p) (e::es) [] pos) (some (.Name y yp)) apos.line X.env=pure false:=by rfl) :
  PSx X (.ExceptHandler (some (.Name xB np)) (some n) (b0::suite) hpos) [.Assign [.Name y yp] (.Call (.Name x p) (e::es) [] pos) apos] (xd5 C j i sp ta ts):=by
 intro pins s σ H D I h;refine zd8 (wpAny_Assign_Name ?_ hsw);refine wpAny_Call_Name_kw (jS I hg hm ?_ hdb);refine W.callWith_K (h₀:=X.base) I.ok.mod.kin hk (wa (ha pos pins s σ H _ (I.wish _) h) (λus s1 ⟨vs,H1,I1',r,q⟩=>?_) λ_ _ z=>False.elim z) he hpl;have I1:Inv X pins σ H1 s1:=I1'.unwish;refine⟨I1.kIn,?_⟩
 have hlen:us.length=ps.length:=by rw[<- r.length];exact F.len _ _ _ _ q
 refine wpAny_call (codeAny_mono (F.run X.A X.stack s1 H1 ⟨us,[]⟩ us vs _ _ hr I1.env0 (by have:=hb s1 us I1.kIn (by simpa using hlen);simpa using this) r q) λrr s2 hq=>?_)
 cases rr with
 | ok fl =>
  cases fl with
  |ret u=>
   obtain⟨v,H2,I2,rv,q2⟩:=I1.after hq;exact vW I2 hN hj (.inl hy) rv (λs3 I3=>⟨_,H2,I3,q2⟩) (.inr hy)
  |next=>exact False.elim hq
  |brk=>exact False.elim hq
  |cont=>exact False.elim hq
 |error ev=>exact zl2 I1 hq hgB hmB hex hN hi hl hst hfr hs hdB
def PSx.imp{t t':TS}(b:PSx X h sts t)(hi:∀E sg H,t' E sg H->t E sg H):PSx X h sts t':=λpins s sg H Q I q=>b pins s sg H Q I (hi _ _ _ q)
end
section
variable {A:AC}{X:Cx}{C:Addr}{h:ExceptHandler}{sts:List Stmt}{t u:TSD}{pos tpos:Pos}
@[irreducible] def xa2(A:AC)(X:Cx)(h:ExceptHandler)(s:List Stmt)(t:TSD):Prop:=PSx X h s (sOf A t)
def zs8(b:xa2 A X h sts t):PSD A X (.Try sts [h] [] [] tpos) t:=by exists (zH5 b)
def zd7{c:Expr}{sa sb:List Stmt}{tc:TBD}(hc:PTD A X.nox c tc)(ha:xa2 A X h sa t)(hb:xa2 A X h sb u):xa2 A X h [.If c sa sb pos] (sIf tc t u):=by
 exists (zT2 hc ha hb).imp λE sg H h=>by
   obtain⟨rho,n,F,ds,vs,I,ht,ok⟩:=h;refine⟨rho,n,_,ds,vs,I,ht,λc H' n' J k=>?_⟩
   cases c with
   |true=>exact⟨rho,n',F,ds,vs,J,k,ok⟩
   |false=>exact⟨rho,n',F,ds,vs,J,k,ok⟩
def Vd{kk k i j:Nat}{CB:Addr}{t:TFX}{tsd:TSD}{t1:TAD}{x xB n y:Str}{p pos apos np hpos yp:Pos}{e:Expr}{es:List Expr}{b0:Stmt}{suite:List Stmt}(F:FnX X.prog X.w X.K X.mg X.base x kk k C t)(hr:Room kk X.A)(hK:X.K=A.K)(ha:PAD A X.nox (e::es) t1)
  (hmB:X.mg xB=some (.ref CB)) (hex:W.exmOne X.K (.ref C) (.ref CB)=some true) (hN:X.N.Nodup) (hj:X.N[j]?=some y) (hy:X.env.scope.names.lookup y=some .local) (hi:X.N[i]?=some n) (hl:X.env.scope.names.lookup n=some .local) (hs:∀ev,Qg A (X.suite ev) (b0::suite) tsd)
  (hst:X.stack=X.env::X.outer:=by rfl) (hfr:X.env.frame=some X.env.locals:=by rfl)
  (hg:Gl X x:=by rfl) (hgB:Gl X xB:=by rfl) (hdb:(x == ("__debug__" : Str))=false:=by decide) (hdB:(xB == ("__debug__" : Str))=false:=by decide) (he:starEach (e::es) X.env=(false,eval e X.env)::starEach es X.env:=by rfl) (hpl:(backTo pos (starEach es X.env)).any (·.1)=false:=by rfl)
  (hsw:swapsWith (.Call (.Name x p) (e::es) [] pos) (some (.Name y yp)) apos.line X.env=pure false:=by rfl) :
  xa2 A X (.ExceptHandler (some (.Name xB np)) (some n) (b0::suite) hpos) [.Assign [.Name y yp] (.Call (.Name x p) (e::es) [] pos) apos] (zr3 C j i k t t1 tsd):=by
 obtain⟨f,fd,ps,h1,h2,h3,h4⟩:=F.ex
 exists (zH1 (C:=C) h1 hr hg h2 h3 h4 ha hj hy hgB hmB hex hN hi hl hst hfr hs hdb hdB he hpl hsw).imp λE sg H h=>by
   obtain⟨rho,n0,F,ds,vs,I,ht,ok⟩:=h;refine⟨rho,n0,_,ds,vs,I,ht,λws H' n' es' ⟨os,J⟩ hl' kq=>?_⟩;obtain⟨J1,rs⟩:=J.split hl';rw[hK];refine⟨A.G,Zof A os,n',_,_,es',kq.1,rs,J1.st,λa z=>.inl (J1.gz a z),J1.zH,kq.2,λv H2 n2 d fr st r q=>ok.nx _ _ _ _ ⟨_,((J1.called fr st).push r).set q.1⟩ q.2,λH2 n2 fr st q=>⟨rfl,λa hn=>?_⟩⟩;have J2:=(J1.called fr st).newExc (C:=C) hn;refine⟨_,n2,_,ds,vs,⟨_,J2.set q.1⟩,q.2,⟨λrho' n3 sg' H3 ⟨os',J3⟩ q3=>?_,λ_ _ _ _ _ _ _ z=>z.elim,λ_ _ _ _ _ z=>z.elim,λ_ _ _ _ _ z=>z.elim⟩⟩;obtain⟨⟨d,hd⟩,q3⟩:=q3;obtain⟨v,hv,_⟩:=J3.slot i d hd;exact⟨⟨v,hv⟩,ok.nx _ _ _ _ ⟨os',J3.unset i⟩ q3⟩
end
section
variable {X:Cx}{x0 x1 x2:Str}{p0 p1 p2 pos:Pos}{f f0 f1 f2:Addr}
def Vh{x:Str}(hg:Gl X x)(hm:X.mg x=some (.ref f))(hdb:(x == ("__debug__" : Str))=false:=by decide):PE X (.Name x pos) λ_ H Q=>Q (.ref f) H:=by
 intro pins s σ H Q I h;exact jS I hg hm ⟨.ref f,H,I,rfl,h⟩ hdb
def zQ3(i:Nat)(f0 f1 f2:Addr)(s0 s1 s2:Sp)(ta:TA):TE:=λσ H Q=>∃j:Nat,j<3/\σ[i]?=some (some (.int (j:Int)))/\∀p,H p=none->ta σ (upd H p (.lst [.ref f0,.ref f1,.ref f2])) λvs H1=>
 (j=0/\s0 vs H1 Q λ_ _ _=>False)\/(j=1/\s1 vs H1 Q λ_ _ _=>False)\/(j=2/\s2 vs H1 Q λ_ _ _=>False)
variable {k0 k1 k2 i:Nat}{fd0 fd1 fd2:FuncData}{ps0 ps1 ps2:List Str}{s0 s1 s2:Sp}{ix:Str}{ip lp sp:Pos}{e:Expr}{es:List Expr}{ta:TA}
def zt5(F0:FnOk X.prog X.w X.K X.mg X.base CX0 k0 f0 fd0 ps0 s0)(F1:FnOk X.prog X.w X.K X.mg X.base CX0 k1 f1 fd1 ps1 s1)(F2:FnOk X.prog X.w X.K X.mg X.base CX0 k2 f2 fd2 ps2 s2)(hr0:Room k0 X.A)(hr1:Room k1 X.A)(hr2:Room k2 X.A)
  (g0:Gl X x0) (g1:Gl X x1) (g2:Gl X x2) (m0:X.mg x0=some (.ref f0)) (m1:X.mg x1=some (.ref f1)) (m2:X.mg x2=some (.ref f2)) (q0:W.keepIn X.K (.ref f0)=true) (q1:W.keepIn X.K (.ref f1)=true) (q2:W.keepIn X.K (.ref f2)=true)
  (b0:Binds X.K fd0 ps0 []) (b1:Binds X.K fd1 ps1 []) (b2:Binds X.K fd2 ps2 []) (hN:X.N[i]?=some ix) (hv:Vis X.env.scope ix) (ha:PA X (e::es) ta)
  (hd0:(x0 == ("__debug__" : Str))=false:=by decide) (hd1:(x1 == ("__debug__" : Str))=false:=by decide) (hd2:(x2 == ("__debug__" : Str))=false:=by decide) (hdi:(ix == ("__debug__" : Str))=false:=by decide) (hci:(ix == ("__classdict__" : Str))=false:=by decide)
  (he:starEach (e::es) X.env=(false,eval e X.env)::starEach es X.env:=by rfl) (hpl:(backTo pos (starEach es X.env)).any (·.1)=false:=by rfl) :
  PE X (.Call (.Subscript (.List [.Name x0 p0,.Name x1 p1,.Name x2 p2] lp) (.Name ix ip) sp) (e::es) [] pos) (zQ3 i f0 f1 f2 s0 s1 s2 ta):=by
 intro pins s σ H Q I h;obtain⟨j,h3,hj,h⟩:=h
 have arm:eval (.Call (.Subscript (.List [.Name x0 p0,.Name x1 p1,.Name x2 p2] lp) (.Name ix ip) sp) (e::es) [] pos) X.env=(do
   callWith pos (<- eval (.Subscript (.List [.Name x0 p0,.Name x1 p1,.Name x2 p2] lp) (.Name ix ip) sp) X.env) [] (backTo pos (starEach (e::es) X.env)) (backToKw pos (keywordEach [] X.env))):=rfl
 rw[arm];have pl:=zt6 (pos:=sp) (Vz (X:=X)) (ze8 (pos:=lp) (vt (Vh (pos:=p0) g0 m0 hd0) (vt (Vh (pos:=p1) g1 m1 hd1) (vt (Vh (pos:=p2) g2 m2 hd2) Xr)))) (Xl (pos:=ip) hN hv hdi hci) (λ_ _=>rfl);refine zc (thn (pl pins s σ H (λv H1=>∃(p:Addr) (f:Addr),v=.ref f/\H p=none/\H1=upd H p (.lst [.ref f0,.ref f1,.ref f2])/\((j=0/\f=f0)\/(j=1/\f=f1)\/(j=2/\f=f2))) I ?_) ?_)
 ·refine ⟨yA (by simp), λp hp => ⟨.int (j : Int), hj, p, [.ref f0, .ref f1, .ref f2], (j : Int), ?_⟩⟩
  rcases(show j=0\/j=1\/j=2 by lia) with rfl |rfl |rfl
  ·exact⟨.ref f0,rfl,rfl,SqL.of wZ,rfl,p,f0,rfl,hp,rfl,.inl ⟨rfl,rfl⟩⟩
  ·exact⟨.ref f1,rfl,rfl,SqL.of wZ,rfl,p,f1,rfl,hp,rfl,.inr (.inl ⟨rfl,rfl⟩)⟩
  ·exact⟨.ref f2,rfl,rfl,SqL.of wZ,rfl,p,f2,rfl,hp,rfl,.inr (.inr ⟨rfl,rfl⟩)⟩
 ·rintro u s1' ⟨v, H1, I1, rv, p, f, rfl, hp, rfl, hf⟩;cases rv
  rcases hf with ⟨rfl,rfl⟩ |⟨rfl,rfl⟩ |⟨rfl,rfl⟩
  ·refine W.callWith_K (h₀ := X.base) I.ok.mod.kin q0 (thn (ha pos pins s1' σ _ _ I1 (h p hp)) λus s2' ⟨vs, H2, I2, r, q⟩ => ⟨I2.kIn, ?_⟩) he hpl
   rcases q with ⟨_,q⟩ |⟨z,_⟩ |⟨z,_⟩
   ·exact Jw F0 hr0 b0 .nil zg0 I2 r (by rw[xv];exact q)
   ·cases z
   ·cases z
  ·refine W.callWith_K (h₀ := X.base) I.ok.mod.kin q1 (thn (ha pos pins s1' σ _ _ I1 (h p hp)) λus s2' ⟨vs, H2, I2, r, q⟩ => ⟨I2.kIn, ?_⟩) he hpl
   rcases q with ⟨z,_⟩ |⟨_,q⟩ |⟨z,_⟩
   ·cases z
   ·exact Jw F1 hr1 b1 .nil zg0 I2 r (by rw[xv];exact q)
   ·cases z
  ·refine W.callWith_K (h₀ := X.base) I.ok.mod.kin q2 (thn (ha pos pins s1' σ _ _ I1 (h p hp)) λus s2' ⟨vs, H2, I2, r, q⟩ => ⟨I2.kIn, ?_⟩) he hpl
   rcases q with ⟨z,_⟩ |⟨z,_⟩ |⟨_,q⟩
   ·cases z
   ·cases z
   ·exact Jw F2 hr2 b2 .nil zg0 I2 r (by rw[xv];exact q)
end
section
variable {A:AC}{X:Cx}{x0 x1 x2 ix:Str}{p0 p1 p2 pos ip lp sp:Pos}{k0 k1 k2 i:Nat}{t0 t1 t2:TF}{e:Expr}{ta:TAD}
def zD2(i:Nat)(t0 t1 t2:TF)(ta:TAD):TD:=λrho n P=>∃j:Nat,j<3/\rho[i]?=some (some (.int (j:Int)))/\ta rho n λds n1=>ds.length=1/\((j=0/\t0 ds n1 P)\/(j=1/\t1 ds n1 P)\/(j=2/\t2 ds n1 P))
@[simp] theorem xc5{rho n P}:zD2 i t0 t1 t2 ta rho n P=∃j:Nat,j<3/\rho[i]?=some (some (.int (j:Int)))/\ta rho n λds n1=>ds.length=1/\((j=0/\t0 ds n1 P)\/(j=1/\t1 ds n1 P)\/(j=2/\t2 ds n1 P)):=rfl
def zu1(F0:Fn X.prog X.w X.K X.mg X.base x0 k0 1 t0)(F1:Fn X.prog X.w X.K X.mg X.base x1 k1 1 t1)(F2:Fn X.prog X.w X.K X.mg X.base x2 k2 1 t2)(hr0:Room k0 X.A)(hr1:Room k1 X.A)(hr2:Room k2 X.A)(hK:X.K=A.K)
  (hN:X.N[i]?=some ix) (hv:Vis X.env.scope ix) (ha:PAD A X [e] ta) (g0:Gl X x0:=by rfl) (g1:Gl X x1:=by rfl) (g2:Gl X x2:=by rfl)
  (hd0:(x0 == ("__debug__" : Str))=false:=by decide) (hd1:(x1 == ("__debug__" : Str))=false:=by decide) (hd2:(x2 == ("__debug__" : Str))=false:=by decide) (hdi:(ix == ("__debug__" : Str))=false:=by decide) (hci:(ix == ("__classdict__" : Str))=false:=by decide)
  (he:starEach [e] X.env=(false,eval e X.env)::starEach [] X.env:=by rfl) (hpl:(backTo pos (starEach [] X.env)).any (·.1)=false:=by rfl) :
  PD A X (.Call (.Subscript (.List [.Name x0 p0,.Name x1 p1,.Name x2 p2] lp) (.Name ix ip) sp) [e] [] pos) (zD2 i t0 t1 t2 ta):=by
 obtain⟨f0,fd0,ps0,a0,m0,q0,b0⟩:=F0.ex;obtain⟨f1,fd1,ps1,a1,m1,q1,b1⟩:=F1.ex;obtain⟨f2,fd2,ps2,a2,m2,q2,b2⟩:=F2.ex
 exists (zt5 a0 a1 a2 hr0 hr1 hr2 g0 g1 g2 m0 m1 m2 q0 q1 q2 b0 b1 b2 hN hv ha hd0 hd1 hd2 hdi hci he hpl).imp λsg H Q h=>by
   obtain⟨rho,n,R,ds,vs,⟨os,I⟩,⟨j,h3,hj,ht⟩,hQ⟩:=h;obtain⟨v,e1,e2⟩:=I.slot i _ hj;have e3:v=.int (j:Int):=e2;subst e3;refine⟨j,h3,e1,λp hp=>⟨rho,n,_,ds,vs,⟨os,I.grow hp⟩,ht,λws H' n' es' ⟨os,J⟩ hl kq=>?_⟩⟩;obtain⟨J1,rs⟩:=J.split hl;rw[hK];obtain⟨hk,kq⟩:=kq
   rcases kq with ⟨z,kq⟩ |⟨z,kq⟩ |⟨z,kq⟩
   ·exact .inl ⟨z,A.G,Zof A os,n',R,es',hk,rs,J1.st,λa z=>.inl (J1.gz a z),J1.zH,kq,λv H2 n2 d fr st r q=>hQ v H2 n2 d ⟨os,(J1.called fr st).push r⟩ q⟩
   ·exact .inr (.inl ⟨z,A.G,Zof A os,n',R,es',hk,rs,J1.st,λa z=>.inl (J1.gz a z),J1.zH,kq,λv H2 n2 d fr st r q=>hQ v H2 n2 d ⟨os,(J1.called fr st).push r⟩ q⟩)
   ·exact .inr (.inr ⟨z,A.G,Zof A os,n',R,es',hk,rs,J1.st,λa z=>.inl (J1.gz a z),J1.zH,kq,λv H2 n2 d fr st r q=>hQ v H2 n2 d ⟨os,(J1.called fr st).push r⟩ q⟩)
end
end L2
set_option maxHeartbeats 1000000
open L2
namespace K77
abbrev qZ0:List Str:=["thing"]
abbrev qZ1:List Str:=["thing","d"]
abbrev qZ2:List Str:=["text"]
abbrev qZ3:List Str:=["_law_script","_law_k"]
abbrev qZ4:List Str:=["text","d"]
abbrev qZ5:List Str:=["_law_word"]
abbrev qZ6:List Str:=["_law_left_here"]
abbrev qZ7:List Str:=["_law_found","_law_due"]
abbrev qZ8:List Str:=["text","bracket","number","brackets"]
abbrev qZ9:List Str:=["thing","kind","d"]
abbrev xl3:List Str:=["_law_left_here","_law_kind","_law_d"]
abbrev xl2:List Str:=["_law_kind","_law_text_here","_law_d"]
def top(i:Nat):Stmt:=PySem.Challenge.pw_boxlayers_k77_whole_any_pieces.main.body.getD i (.Pass ⟨0,0,0,0⟩)
abbrev End:=Option (Int × Bool)
abbrev js:=End × End
def vK:End->D
 |none=>.non
 |some (n,s)=>.tup [.int n,.bl s]
def kn(s:js):D:=.tup [vK s.1,vK s.2]
def wX(b:List js):D:=.tup (b.map kn)
def wx(p:List Int):D:=.tup (p.map D.int)
@[simp] theorem xd1:vK none=.non:=rfl
@[simp] theorem xd0{n:Int}{s:Bool}:vK (some (n,s))=.tup [.int n,.bl s]:=rfl
def zi6(e:End):xR (vK e)=true:=by rcases e with _ |⟨n,s⟩<;>rfl
section
variable {P:Program}{w:World}{K:W.Frag}{mg:Str->Option Value}{base:Heap}{f:Addr}{fd:FuncData}
end
def qU(c:Nat):(zr6 0 c).length=c:=by unfold zr6;rw[zj,List.length_range]
def zA7{c i:Nat}{d:D}(h:(zr6 0 c)[i]?=some d):i<c/\d=.int (i:Int):=by
 have hi:i<c:=by have:=(zM.mp h).1;rw[qU] at this;exact this
 refine⟨hi,?_⟩;unfold zr6 at h;rw[xn,List.getElem?_range hi] at h;have:=xk h;rw[<- this];simp
def XO{own:Nat}{g:TGD}{te:TD}{rho:Rho}{P:D->Nat->Prop}(items:List D)(n1:Nat)(Good:D->D->Prop)(hz:items.length<=sizeLine)
  (he:∀(i:Nat) (d:D),items[i]?=some d->∀Q:D->Nat->Prop,(∀e,Good d e->Q e n1)->g d (replicate own none++rho) λrho'=>rho'.drop own=rho/\te rho' n1 Q)
  (hP:∀es,Paired Good items es->P (.lst es) n1):JZ own g zP5 te rho P items n1:=by
 refine⟨hz,λi acc n=>Paired Good (items.take i) acc/\n=n1,⟨.nil,rfl⟩,?_,?_⟩
 ·rintro i d acc n e ⟨h1,rfl⟩;refine he i d e (λe n3=>Paired Good (items.take (i+1)) (acc++[e])/\n3=n) λc hg=>⟨?_,rfl⟩;rw[xN,e];exact Paired.snoc h1 hg
 ·rintro acc n ⟨h1,rfl⟩;rw[wn] at h1;exact hP acc h1
section
variable {P:Program}{w:World}{K:W.Frag}{mg:Str->Option Value}{base:Heap}{f:Addr}{fd:FuncData}
abbrev qa:Stmt:=top 52
abbrev Wi:List Str:=["_law_script","_law_k"]
def Xe:FnScope Wi qZ3 (zL qa):=⟨rfl,rfl,rfl,x5,rfl,x5,x5⟩
def YX:TF:=λds n Q=>∃(ns:List Int) (j:Int),ds=[wm ns,.int j]/\0<=j/\∀x:Int,Q (.int x) n
def QA(T:Blt mg)(F:Fun K "_law_cell_at" "_law_cell_at" qa f fd):FnOk P w K mg base CX0 1 f fd qZ3 (spD K 2 YX):=by
 refine Fun.okD F Xe (λ_ _ _ s H E G Z hr=>(zq (wt (xg zu6 zs2 (ze 1) (xq we ko T.len kr (zb (ze 0) zf)) (xz _)) (zu (zP (yk wb yn (ze 0) (ze 1) (λ_ _=>rfl)))) xt)
  (zu (zP zK)))) ?_
 rintro ds n Q hl ⟨ns,j,rfl,hj,q⟩;simp[xj,wm]
 split
 ·rename_i h
  obtain⟨d,e,m⟩:=zZ9 (xs:=ns.map D.int) hj (by simpa using h)
  obtain⟨x,_,rfl⟩:=zN.mp m;exact⟨_,e,q x⟩
 ·exact q 0
abbrev jP:Stmt:=top 53
abbrev Jp:List Str:=["_law_script","_law_k","_law_cell","_law_seed"]
def qM:FnScope Jp qZ3 (zL jP):=⟨rfl,rfl,rfl,x5,rfl,x5,x5⟩
def za5:TF:=λds n Q=>∃(ns:List Int) (j:Int),ds=[wm ns,.int j]/\ns.length<=63/\0<=j/\j<1000/\∀x y:Int,0<=x->0<=y->y<2147483647->Q (.lst [.int x,.int y]) n
def zL0(T:Blt mg)(ND:base.NoDigits)(F:Fun K "_law_left" "_law_left" jP f fd)(Y_cell_at:Fn P w K mg base "_law_cell_at" 1 2 YX):FnOk P w K mg base CX0 2 f fd qZ3 (spD K 2 za5):=by
 refine Fun.okD F qM (λ_ _ _ s H E G Z hr=>(zq (xZ (i:=2) qM.nd rfl (lo rfl) (xX Y_cell_at (hr.mono w9) rfl (zb (ze 0) (zb (Yt (ze 1) (xq (Ka rfl) zn5 T.max zD6 (zb zK (zb (xq we ko T.len kr (zb (ze 0) zf)) zf)))) zf))))
  (zq (xZ (i:=3) qM.nd rfl (lo rfl) (Yt (Xo (qB (qB (Yt (ze 2) zK) (Xo (Xo zK (ze 1)) (ze 1))) zK) zK) zK))
  (zu (zP (ka (zb (Yt (Xo (ze 2) (wO jc XJ T.int jC (zb (vJ zg8 zc6 (ze 2) (zB8 zK zK) (xz _)) zf))) (wO (VB ND) zO3 T.int jC (zb (vA wC yW zJ (vA zK1 zF9 zJ zK)) zf))) (zb (ze 3) zf)))))))) ?_
 rintro ds n Q hl ⟨ns,j,rfl,hns,hj0,hj1,q⟩;have cm:∀{i j:Int},(-(2^64)<i/\i<2^64)->CMul i j:=λh=>.inl h;have cm':∀{i j:Int},(-(2^64)<j/\j<2^64)->CMul i j:=λh=>.inr h
 obtain⟨big,hb0,hb1,hb2,hb3⟩:=Jd 4000 w9 w9
 have hlen:(Str.ofString "1").length+(Txt.mul (Str.ofString "0") 4000).length<=sizeLine:=by
  have ec:=XN 4000 w9
  have e1:(Str.ofString "1").length=1:=x5
  have e2:(Str.ofString "1" ++ Txt.mul (Str.ofString "0") 4000).cps.toList.length=(Str.ofString "1").cps.toList.length+(Txt.mul (Str.ofString "0") 4000).cps.toList.length:=by
   rw[<- zE,<- Array.toList_append];rfl
  rw[ec,zr,xJ] at e2;have e3:∀x:Str,x.cps.toList.length=x.length:=λx=>ww;rw[e3,e3] at e2;rw[sizeLine_eq];lia
 simp[xj,wm]
 refine⟨by split<;>lia,ns,_,rfl,yj _ (by split<;>lia),λx=>?_⟩
 have h7:0<=7919*j*j:=Int.mul_nonneg w6 hj0
 have h8:7919*j*j<=7919*j*1000:=Int.mul_le_mul_of_nonneg_left w6 w6
 simp
 refine⟨cm ⟨w9,w9⟩,cm ⟨w6,w6⟩,cm' ⟨w9,w9⟩,⟨w9,w9,w9⟩,cm' ⟨by split<;>decide,by split<;>decide⟩,UD 4000 w9 w9,hlen,?_⟩
 refine⟨_,big,rfl,hb1,hb2,hb3,?_⟩;simp
 exact⟨hb0,q _ _ (yj _ w6) (yj _ w9) (Int.emod_lt_of_pos _ w9)⟩
abbrev jO:Stmt:=top 54
abbrev Jo:List Str:=["_law_left_here","_law_many","_law_digit"]
def Yo:FnScope Jo ["_law_left_here","_law_many"] (zL jO):=⟨rfl,rfl,rfl,x5,rfl,x5,x5⟩
def YU:TF:=λds n Q=>∃m:Int,ds=[.st,.int m]/\n=2/\0<m/\m<10000000/\∀k:Int,0<=k->k<m->Q (.int k) n
def zK7(F:Fun K "_law_pick" "_law_pick" jO f fd):FnOk P w K mg base CX0 1 f fd ["_law_left_here","_law_many"] (spD K 2 YU):=by
 refine Fun.okD F Yo (λ_ _ _ s H E G Z hr=>(zq (wt (xg zg7 zc5 (ZV (i:=0) zK (λ_ _=>rfl)) zK (xz _)) (zq (xZ (i:=2) Yo.nd rfl (lo rfl) (Yt (ZV (i:=0) zK (λ_ _=>rfl)) (ze 1)))
  (zq (Uq (i:=0) (zV0 (ZV (i:=0) zK (λ_ _=>rfl)) (ze 1)) zK)
  (zu (zP (ze 2))))) xt)
  (zq (Uq (i:=0) (Yt (qB (Xo (ZV (i:=0) zK (λ_ _=>rfl)) zK) zK) zK) zK)
  (zu (zP (Yt (Yt (Xo (ZV (i:=0) zK (λ_ _=>rfl)) (ZV (i:=0) zK (λ_ _=>rfl))) zK) (ze 1))))))) ?_
 rintro ds n Q hl ⟨m,rfl,rfl,hm,hm2,q⟩;have cm:∀{i j:Int},(-(2^64)<i/\i<2^64)->CMul i j:=λh=>.inl h;simp[xj];intro z0 h0
 split
 ·intro z hz
  exact⟨hm,λz1 hz1=>⟨⟨hm,w6⟩,Int.ediv_nonneg hz1 w6,q _ (yj _ w6) (Int.emod_lt_of_pos _ hm)⟩⟩
 ·intro z hz hz2
  exact⟨cm ⟨w6,w6⟩,yj _ w9,Int.emod_lt_of_pos _ w9,λy hy hy2 z1 h1 h1'=>⟨cm ⟨w6,w6⟩,hm,q _ (yj _ w6) (Int.emod_lt_of_pos _ hm)⟩⟩
def yb{m:Int}{Q:D->Nat->Prop}(h0:0<m)(h1:m<10000000)(h:∀k:Int,0<=k->k<m->Q (.int k) 2):YU [.st,.int m] 2 Q:=⟨m,rfl,rfl,h0,h1,h⟩
end
def KW(e:End):Prop:=∀i b,e=some (i,b)->i.natAbs<1000000000000000000
def Wu(s:js):Prop:=KW s.1/\KW s.2
abbrev Thing:=Int × List Int × Int
def wF(t:Thing):D:=.tup [.int t.1,wx t.2.1,.int t.2.2]
structure OkTh(d:Nat)(t:Thing):Prop where
 nm:0<=t.1
 big:t.1.natAbs<1000000000000000000
 ln:t.2.1.length=d
 each:∀x∈t.2.1,x.natAbs<1000000000000000000
 wr:t.2.2.natAbs<1000000000000000000
def zW5:End->List Nat
 |none=>[45]
 |some (i,b)=>(if b then 91 else 40)::jo i
def zk8:End->List Nat
 |none=>[45]
 |some (i,b)=>jo i++[if b then 93 else 41]
def YB(s:js):List Nat:=zW5 s.1++46::46::zk8 s.2
def zD7(b:List js):List Nat:=wW [32] (b.map YB)
def yZ{i:Int}(h:i.natAbs<1000000000000000000):(jo i).length<=19:=by
 have:=zm4 (n:=i.natAbs) (by simpa using h)
 unfold jo
 split
 ·simp;lia
 ·lia
def ZY{i:Int}(h:i.natAbs<1000000000000000000):i.natAbs.log2<1920:=by
 by_cases h0:i.natAbs=0
 ·rw[h0];decide
 ·refine zD ((Nat.log2_lt h0).mpr (zD h (by decide:1000000000000000000<=2^60))) w9
def JM{e:End}(h:KW e):(zW5 e).length<=20:=by
 rcases e with _ |⟨i,b⟩
 ·decide
 ·have:=yZ (h i b rfl);simp[zW5];lia
def UR{e:End}(h:KW e):(zk8 e).length<=20:=by
 rcases e with _ |⟨i,b⟩
 ·decide
 ·have:=yZ (h i b rfl);simp[zk8];lia
def VZ{s:js}(h:Wu s):(YB s).length<=42:=by
 have h1:=JM h.1;have h2:=UR h.2;simp[YB];lia
theorem qX{c:List Nat}{m:Nat}:∀{ws:List (List Nat)},(∀w∈ws,w.length<=m)->(wW c ws).length<=ws.length*(m+c.length)
 |[],_=>by simp[wW]
 |[a],h=>by
  have:=h a (by simp)
  simp[wW];lia
 |a::b::r,h=>by
  have h1:=h a (by simp)
  have h2:=qX (c:=c) (ws:=b::r) λw hw=>h w (zh _ hw);show(a++c++wW c (b::r)).length<=_;rw[zE,zE,zr,Nat.succ_mul];lia
def vn:Str.ofString "-" = tx [45]:=x5
def Yb:Str.ofString ".." = tx [46,46]:=x5
def yU:Str.ofString " " = tx [32]:=x5
def Zs:Str.ofString "" = tx []:=x5
def QZ:Str.ofString "0" = tx [48]:=x5
def zb0:Str.ofString "[" = tx [91]:=x5
def zr5:Str.ofString "(" = tx [40]:=x5
def VX:Str.ofString "]" = tx [93]:=x5
def Jx:Str.ofString ")" = tx [41]:=x5
def vf{c:List Nat}{ws:List (List Nat)}{k:D->Prop}(m:Nat)(hc:c.length<=16)(hm:∀w∈ws,w.length<=m)(hs:ws.length*(m+1)<=1048576)(h:k (.str (tx (wW c ws)))):Uo (tx c) [.lst (ws.map λw=>D.str (tx w))] k:=by
 refine⟨ws.map tx,by rw[zF];rfl,by rw[xQ];exact hc,?_,by rw[zk0];exact h⟩
 rw[zF,zj]
 have:(ws.map ((λx=>x.length)∘tx)).sum<=ws.length*m:=by
  clear hs h
  induction ws with
  |nil=>simp
  |cons w ws ih=>
   have h1:=hm w (by simp)
   have h2:=ih λv hv=>hm v (zh _ hv);rw[zR,List.sum_cons,zr,Nat.succ_mul];show(tx w).length+_<=_;rw[xQ];lia
 rw[Nat.mul_add,Nat.mul_one] at hs;lia
def yX{l m:List Nat}{k:D->Prop}(hz:l.length+m.length<=1000)(h:k (.str (tx (l++m)))):zd1 (.str (tx l)) (.str (tx m)) k:=by
 simp
 refine⟨yA (by rw[xQ,xQ];exact hz),by rw[Za];exact h⟩
section
variable {P:Program}{w:World}{K:W.Frag}{mg:Str->Option Value}{base:Heap}{f:Addr}{fd:FuncData}
abbrev qm:Stmt:=top 43
abbrev VH:List Str:=["number","at_once","rest","rows","row"]
def vX:FnScope VH ["number"] (zL qm):=⟨rfl,rfl,rfl,x5,rfl,x5,x5⟩
def yC:TF:=λds n Q=>∃i:Int,ds=[.int i]/\i.natAbs<1000000000000000000/\Q (.str (tx (jo i))) n
def Wa(T:Blt mg)(F:Fun K "show_number" "show_number" qm f fd):FnOk P w K mg base CX0 1 f fd ["number"] (spD K 1 yC):=by
 refine Fun.okD F vX (λ_ _ _ s H E G Z hr=>(zq (xZ (i:=1) vX.nd rfl (lo rfl) (zB8 zK zK))
  (zq (xZ (i:=2) vX.nd rfl (lo rfl) (xq zy9 zZ6 T.abs zZ8 (zb (ze 0) zf)))
  (zq (Ve (i:=3) vX.nd rfl (lo rfl) zf)
  (zq (zd9 PassesOwn.never (xg zg8 zc6 (ze 2) (ze 1) (xz _))
  (zq Us
  (zu Us)))
  (zq (jm (i:=3) (zb (wO jb zn4 T.str XR (zb (ze 2) zf)) zf) rfl)
  (zu (Vf 3 (zP (vA wC yW (qW (xg zu6 zs2 (ze 0) zK (xz _)) zJ zJ) (qc rfl zJ (zb (zJ1 rfl (ze 3)) zf)))))))))))) ?_
 rintro ds n Q hl ⟨i,rfl,hi,q⟩
 have ea:(if i<0 then -i else i)=(i.natAbs:Int):=by split<;>lia
 have hl2:=ZY hi;simp[xj]
 refine⟨⟨w9,w9,w9⟩,λ_ rho' n'=>n'=n/\rho'=[some (.int i),some (.int 1000000000000000000),some (.int (if i<0 then -i else i)),some (.own []),none],⟨0,rfl,rfl⟩,?_⟩
 rintro m rho n' ⟨rfl,rfl⟩;rw[ea]
 have hge:¬ ((1000000000000000000:Int)<=(i.natAbs:Int)):=w6
 have hnn:((i.natAbs:Int)).natAbs=i.natAbs:=w6
 have en:Str.ofString (toString (i.natAbs:Int))=tx (dg i.natAbs):=by
  rw[str_int];unfold jo
  rw[if_neg w6,hnn]
 have hd:=zm4 (n:=i.natAbs) (by simpa using hi)
 have jn:∀k:D->Prop,k (.str (tx (dg i.natAbs)))->Uo (Str.ofString "") [.lst [.str (Str.ofString (toString (i.natAbs:Int)))]] k:=λk h=>by
  rw[Zs,en]
  exact vf (ws:=[dg i.natAbs]) 18 (by simp) (by simpa using hd) (by simp) h
 simp[hge,hnn,hl2]
 refine⟨lt_size w9,?_⟩
 unfold jo at q
 split
 ·rename_i h;rw[if_pos h] at q;refine jn _ ?_;rw[vn]
  exact yX (by simp;lia) q
 ·rename_i h;rw[if_neg h] at q;refine jn _ ?_;rw[Zs]
  exact yX (by simp;lia) q
abbrev ZE:Stmt:=top 44
abbrev QR:List Str:=["end"]
def Kt:FnScope QR ["end"] (zL ZE):=⟨rfl,rfl,rfl,x5,rfl,x5,x5⟩
def Zw:TF:=λds n Q=>∃e:End,ds=[vK e]/\KW e/\Q (.str (tx (zW5 e))) n
def KI(T:Blt mg)(F:Fun K "show_low" "show_low" ZE f fd)(F_show_number:Fn P w K mg base "show_number" 1 1 yC):FnOk P w K mg base CX0 2 f fd ["end"] (spD K 1 Zw):=by
 refine Fun.okD F Kt (λ_ _ _ s H E G Z hr=>(zu (zP (qW (xg kI kH (ze 0) wA (xz _)) zJ (vA wC yW (qW (wG (yk wb yn (ze 0) zK (λ_ _=>rfl))) zJ zJ) (xX F_show_number (hr.mono w9) rfl (zb (yk wb yn (ze 0) zK (λ_ _=>rfl)) zf))))))) ?_
 rintro ds n Q hl ⟨e,rfl,he,q⟩
 rcases e with _ |⟨i,b⟩
 ·simp[xj,yt];rw[vn];exact q
 ·have hn := yZ (he i b rfl);cases b
  ·simp [xj, yt];refine⟨i,rfl,he i _ rfl,?_⟩;rw[zr5]
   exact yX (by simp;lia) q
  ·simp [xj, yt];refine⟨i,rfl,he i _ rfl,?_⟩;rw[zb0]
   exact yX (by simp;lia) q
abbrev jI:Stmt:=top 45
abbrev Jk:List Str:=["end"]
def Ud:FnScope Jk ["end"] (zL jI):=⟨rfl,rfl,rfl,x5,rfl,x5,x5⟩
def jE:TF:=λds n Q=>∃e:End,ds=[vK e]/\KW e/\Q (.str (tx (zk8 e))) n
def Uy(T:Blt mg)(F:Fun K "show_high" "show_high" jI f fd)(F_show_number:Fn P w K mg base "show_number" 1 1 yC):FnOk P w K mg base CX0 2 f fd ["end"] (spD K 1 jE):=by
 refine Fun.okD F Ud (λ_ _ _ s H E G Z hr=>(zu (zP (qW (xg kI kH (ze 0) wA (xz _)) zJ (vA wC yW (xX F_show_number (hr.mono w9) rfl (zb (yk wb yn (ze 0) zK (λ_ _=>rfl)) zf)) (qW (wG (yk wb yn (ze 0) zK (λ_ _=>rfl))) zJ zJ)))))) ?_
 rintro ds n Q hl ⟨e,rfl,he,q⟩
 rcases e with _ |⟨i,b⟩
 ·simp[xj,yt];rw[vn];exact q
 ·have hn := yZ (he i b rfl);cases b
  ·simp [xj, yt];refine⟨i,rfl,he i _ rfl,?_⟩;simp;rw[Jx]
   exact JA.mp (yX (l:=jo i) (m:=[41]) (k:=λd=>Q d n) (by simp;lia) q)
  ·simp [xj, yt];refine⟨i,rfl,he i _ rfl,?_⟩;simp;rw[VX]
   exact JA.mp (yX (l:=jo i) (m:=[93]) (k:=λd=>Q d n) (by simp;lia) q)
abbrev ZF:Stmt:=top 46
abbrev Yh:List Str:=["box"]
def Ku:FnScope Yh ["box"] (zL ZF):=⟨rfl,rfl,rfl,x5,rfl,x5,x5⟩
def Zl:("low" :: "high" :: Yh:List Str).Nodup:=x5
def jj:TF:=λds n Q=>∃b:List js,ds=[wX b]/\b.length<=4/\(∀s∈b,Wu s)/\Q (.str (tx (zD7 b))) n
def KJ(T:Blt mg)(F:Fun K "show_box" "show_box" ZF f fd)(F_show_low:Fn P w K mg base "show_low" 2 1 Zw)(F_show_high:Fn P w K mg base "show_high" 2 1 jE):FnOk P w K mg base CX0 3 f fd ["box"] (spD K 1 jj):=by
 refine Fun.okD F Ku (λ_ _ _ s H E G Z hr=>(zu (zP (qc rfl zJ (zb (vF (own:=["low","high"]) (M:=Yh) (vi (by rfl)) rfl (vc rfl (ze 0)) (λ_ _ _ _=>(vE (k:=2) rfl rfl (xo (zV (i:=0) Zl rfl (lo rfl) w9) (xo (zV (i:=1) Zl rfl (lo rfl) w9) yH)))) (λ_ _ _ _=>wS) (λ_ _ _ _=>(vA wC yW (vA wC yW (xX F_show_low (hr.mono w9) rfl (zb (ze 0) zf)) zJ) (xX F_show_high (hr.mono w9) rfl (zb (ze 1) zf))))) zf))))) ?_
 rintro ds n Q hl ⟨b,rfl,hb,ho,q⟩;have nb:xR (wX b)=true:=id rfl;simp[xj,nb]
 refine⟨_,.inr rfl,yc kn (λs=>.str (tx (YB s))) b (yA w6) (λs hs R hR=>?_) ?_⟩
 ·have h1 := JM (ho s hs).1;have h2:=UR (ho s hs).2;simp[kn,zi6];refine⟨s.1,rfl,(ho s hs).1,?_⟩;rw[Yb]
  refine yX (by simp;lia) ?_
  refine⟨s.2,rfl,(ho s hs).2,?_⟩
  refine yX (by simp;lia) ?_
  rw[append_assoc];exact hR
 rw[yU]
 have e:(b.map λs=>D.str (tx (YB s)))=(b.map YB).map λw=>D.str (tx w):=by rw[zF];rfl
 rw[e]
 refine vf 42 (by simp) (λw hw=>?_) (by rw[zj];lia) q
 obtain⟨s,hs,rfl⟩:=zN.mp hw;exact VZ (ho s hs)
abbrev ZK:Stmt:=top 2
abbrev QU:List Str:=["thing"]
def Kx:FnScope QU qZ0 (zL ZK):=⟨rfl,rfl,rfl,x5,rfl,x5,x5⟩
def jD:TF:=λds n Q=>∃i:Int,ds=[.int i]/\Q (.bl true) n
def zu8(T:Blt mg)(F:Fun K "is_whole" "is_whole" ZK f fd):FnOk P w K mg base CX0 1 f fd qZ0 (spD K 1 jD):=by
 refine Fun.okD F Kx (λ_ _ _ s H E G Z hr=>(zu (zP (vy (xq yx vL T.isi vj (zb (ze 0) (zb (qC (hm:=T.int) (hv:=jC)) zf))) (qi (zU9 (xq yx vL T.isi vj (zb (ze 0) (zb (qC (hm:=T.bool) (hv:=Yg)) zf))))))))) ?_;rintro ds n Q hl ⟨i,rfl,q⟩;simp[xj,Yw,vB];exact q
abbrev zc1:Stmt:=top 5
abbrev xa3:List Str:=["thing"]
def zF4:FnScope xa3 qZ0 (zL zc1):=⟨rfl,rfl,rfl,x5,rfl,x5,x5⟩
def VT:TF:=λds n Q=>∃d:Int,ds=[.int d]/\Q (.bl (decide (1<=d/\d<=4))) n
def zL3(G_MOST_NUMBERS:zp7 K mg "MOST_NUMBERS" (.int 4))(F:Fun K "is_d" "is_d" zc1 f fd)(F_is_whole:Fn P w K mg base "is_whole" 1 1 jD):FnOk P w K mg base CX0 2 f fd qZ0 (spD K 1 VT):=by
 refine Fun.okD F zF4 (λ_ _ _ s H E G Z hr=>(zu (zP (vy (xX F_is_whole (hr.mono w9) rfl (zb (ze 0) zf)) (qi (zu3 zV6 zV6 zK (ze 0) (Xp G_MOST_NUMBERS rfl))))))) ?_
 rintro ds n Q hl ⟨d,rfl,q⟩;simp[xj];refine⟨d,rfl,?_⟩
 by_cases h1:1<=d
 ·by_cases h4 : d <= 4
  ·simp[h1,h4] at q ⊢;exact q
  ·simp[h1,h4] at q ⊢;exact q
 ·simp[h1] at q ⊢;exact q
abbrev qp:Stmt:=top 6
abbrev VJ:List Str:=["thing","length"]
def XY:FnScope VJ ["thing","length"] (zL qp):=⟨rfl,rfl,rfl,x5,rfl,x5,x5⟩
def qF:TF:=λds n Q=>∃(es:List D) (k:Nat),ds=[.tup es,.int k]/\Q (.bl (decide (es.length=k))) n
def zu9(T:Blt mg)(F:Fun K "is_tuple_of" "is_tuple_of" qp f fd):FnOk P w K mg base CX0 1 f fd ["thing","length"] (spD K 2 qF):=by
 refine Fun.okD F XY (λ_ _ _ s H E G Z hr=>(zu (zP (vy (xq yx vL T.isi vj (zb (ze 0) (zb (qC (hm:=T.tuple) (hv:=va)) zf))) (qi (vJ km kj (xq we ko T.len kr (zb (ze 0) zf)) (ze 1) (xz _))))))) ?_;rintro ds n Q hl ⟨es,k,rfl,q⟩
 have e:decide ((es.length:Int)=(k:Int))=decide (es.length=k):=by congr 1;apply propext;lia
 simp[xj,Yw,vB]
 first |exact q |(rw[e];exact q)
abbrev WW:Stmt:=top 9
abbrev zz6:List Str:=["thing"]
def zb8:FnScope zz6 qZ0 (zL WW):=⟨rfl,rfl,rfl,x5,rfl,x5,x5⟩
def WN:TF:=λds n Q=>∃e:End,ds=[vK e]/\Q (.bl true) n
def zh8(T:Blt mg)(F:Fun K "is_end" "is_end" WW f fd)(F_is_whole:Fn P w K mg base "is_whole" 1 1 jD)(F_is_tuple_of:Fn P w K mg base "is_tuple_of" 1 2 qF):FnOk P w K mg base CX0 2 f fd qZ0 (spD K 1 WN):=by
 refine Fun.okD F zb8 (λ_ _ _ s H E G Z hr=>(zq (wt (xg kI kH (ze 0) wA (xz _)) (zu (zP Zj)) xt)
  (zu (zP (vy (xX F_is_tuple_of (hr.mono w9) rfl (zb (ze 0) (zb zK zf))) (vy (xX F_is_whole (hr.mono w9) rfl (zb (yk wb yn (ze 0) zK (λ_ _=>rfl)) zf)) (qi (xq yx vL T.isi vj (zb (yk wb yn (ze 0) zK (λ_ _=>rfl)) (zb (qC (hm:=T.bool) (hv:=Yg)) zf)))))))))) ?_
 rintro ds n Q hl ⟨e,rfl,q⟩
 rcases e with _ |⟨i,b⟩
 ·simp[xj,yt];exact q
 ·simp[xj,yt];refine⟨[.int i,.bl b],2,rfl,?_⟩;simp;refine⟨i,rfl,?_⟩;simp[Yw,vB];exact q
abbrev Xg:Stmt:=top 10
abbrev zp1:List Str:=["thing"]
def Qr:FnScope zp1 qZ0 (zL Xg):=⟨rfl,rfl,rfl,x5,rfl,x5,x5⟩
def YV:TF:=λds n Q=>∃s:js,ds=[kn s]/\Q (.bl true) n
def Qy(F:Fun K "is_span" "is_span" Xg f fd)(F_is_end:Fn P w K mg base "is_end" 2 1 WN)(F_is_tuple_of:Fn P w K mg base "is_tuple_of" 1 2 qF):FnOk P w K mg base CX0 3 f fd qZ0 (spD K 1 YV):=by
 refine Fun.okD F Qr (λ_ _ _ s H E G Z hr=>(zu (zP (vy (xX F_is_tuple_of (hr.mono w9) rfl (zb (ze 0) (zb zK zf))) (vy (xX F_is_end (hr.mono w9) rfl (zb (yk wb yn (ze 0) zK (λ_ _=>rfl)) zf)) (qi (xX F_is_end (hr.mono w9) rfl (zb (yk wb yn (ze 0) zK (λ_ _=>rfl)) zf)))))))) ?_
 rintro ds n Q hl ⟨⟨a,c⟩,rfl,q⟩;have e:kn (a,c)=.tup [vK a,vK c]:=rfl;rw[e];simp[xj];refine⟨[vK a,vK c],2,rfl,?_⟩;simp;refine⟨a,rfl,?_⟩;simp;exact⟨c,rfl,q⟩
abbrev WX:Stmt:=top 11
abbrev VL:List Str:=["thing","d"]
def zb9:FnScope VL qZ1 (zL WX):=⟨rfl,rfl,rfl,x5,rfl,x5,x5⟩
def KY:("span" :: VL:List Str).Nodup:=x5
def YJ:TF:=λds n Q=>∃(b:List js) (d:Nat),ds=[wX b,.int (d:Int)]/\1<=d/\d<=4/\b.length<=1000000/\Q (.bl (decide (b.length=d))) n
def zh9(T:Blt mg)(F:Fun K "is_box" "is_box" WX f fd)(F_is_d:Fn P w K mg base "is_d" 2 1 VT)(F_is_tuple_of:Fn P w K mg base "is_tuple_of" 1 2 qF)(F_is_span:Fn P w K mg base "is_span" 3 1 YV):FnOk P w K mg base CX0 4 f fd qZ1 (spD K 2 YJ):=by
 refine Fun.okD F zb9 (λ_ _ _ s H E G Z hr=>(zu (zP (vy (xX F_is_d (hr.mono w9) rfl (zb (ze 1) zf)) (vy (xX F_is_tuple_of (hr.mono w9) rfl (zb (ze 0) (zb (ze 1) zf))) (qi (xq (qy rfl) XM T.all XS (zb (vF (own:=["span"]) (M:=VL) (vi (by rfl)) rfl (vc rfl (ze 0)) (λ_ _ _ _=>(zV (i:=0) KY rfl (lo rfl) w9)) (λ_ _ _ _=>wS) (λ_ _ _ _=>(xX F_is_span (hr.mono w9) rfl (zb (ze 0) zf)))) zf)))))))) ?_
 rintro ds n Q hl ⟨b,d,rfl,hd1,hd4,hb,q⟩;have nb:xR (wX b)=true:=id rfl
 have hd:(1:Int)<=(d:Int)/\(d:Int)<=4:=w6
 simp[xj,nb];refine⟨(d:Int),rfl,?_⟩;simp[hd.1,hd.2,nb];refine⟨b.map kn,d,rfl,?_⟩;rw[zj]
 by_cases h:b.length=d
 ·simp [h, nb] at q ⊢
  refine⟨_,.inr rfl,yc kn (λ_=>.bl true) b (zm hb w9) (λs hs R hR=>?_) ?_⟩
  ·have ns:xR (kn s)=true:=id rfl;simp[ns];exact⟨s,rfl,hR⟩
  ·refine ⟨b.map λ_ => true, by rw [zF]; rfl, ?_⟩
   have e:(b.map λ_=>true).all id=true:=by simp
   rw[e];exact q
 ·simp[h] at q ⊢;exact q
end
def byO{α:Type}(o:Option α)(k:α->Prop)(r:Prop):Prop:=match o with |some a=>k a |none=>r
@[simp] theorem kA{α:Type}{a:α}{k:α->Prop}{r:Prop}:byO (some a) k r=k a:=rfl
@[simp] theorem qz{α:Type}{k:α->Prop}{r:Prop}:byO none k r=r:=rfl
def yz{n:Nat}(h:n<=1000000):n<=sizeLine:=zm h w9
structure JRn(hd:List (Option D))(l:List Nat)(n i:Nat)(rho:Rho)(m:Nat):Prop where
 e:m=n
 r:∃z:Option D,rho=hd++[some (.int (((l.take i).foldl (λa c=>10*a+(c-48)) 0:Nat):Int)),z]
section
variable {P:Program}{w:World}{K:W.Frag}{mg:Str->Option Value}{base:Heap}{f:Addr}{fd:FuncData}
abbrev qo:Stmt:=top 33
abbrev VI:List Str:=["text","figures","number","figure"]
def vd:FnScope VI qZ2 (zL qo):=⟨rfl,rfl,rfl,x5,rfl,x5,x5⟩
def YD:("figure" :: ["text","figures","number","figure'"]:List Str).Nodup:=x5
def yL:TFX:=λds n Q R=>∃l:List Nat,ds=[.str (tx l)]/\l.length<=200000/\byO (zS l) (λi=>Q (.int i) n) (R n)
def Wb{C:Addr}(T:Blt mg)(CN_NoText:ClsX K mg "NoText" C)(G_FIGURES:zp7 K mg "FIGURES" (.str (tx figL)))(F:Fun K "read_number" "read_number" qo f fd):FnOk P w K mg base (CX1 P w) 1 f fd qZ2 (spX K C 1 yL):=by
 refine Fun.okX (C:=C) F vd (λcdv A0 outer s H E G Z R hr hE=>(zq (xZ (i:=1) vd.nd rfl (lo rfl) (qW (wG (Xm (ze 0) (zb zJ zf))) (qh (ze 0) (wT zK) yr) (ze 0)))
  (zq (wt (PWD.pt (vZ (xg km kj (ze 1) zJ (xz _)) (vQ (vq (wG (xq (qy rfl) XM T.all XS (zb (vF (own:=["figure"]) (M:=["text","figures","number","figure'"]) (vi (by rfl)) rfl (ze6 (ze 1)) (λ_ _ _ _=>(zV (i:=0) YD rfl (lo rfl) w9)) (λ_ _ _ _=>wS) (λ_ _ _ _=>(vJ zg6 zR4 (ze 0) (Xp G_FIGURES rfl) (by with_unfolding_all rfl)))) zf))))))) (zu (vg CN_NoText (xok hE))) xt)
  (zq (wt (PWD.pt (qb (wG (Xm (ze 1) (zb zJ zf))) (kT (xg Xs Xj (ze 0) zJ (xz _))))) (zu (vg CN_NoText (xok hE))) xt)
  (zq (xZ (i:=2) vd.nd rfl (lo rfl) zK)
  (zq (ZT (m:=4) PassesOwn.leaving rfl (ze6 (ze 1)) (zV (i:=3) vd.nd rfl (lo rfl) w9)
  (zu (xZ (i:=2) vd.nd rfl (lo rfl) (qB (Xo zK (ze 2)) (zf7 (Xp G_FIGURES rfl) (zb (ze 3) zf))))))
  (zu (zP (qW (wG (Xm (ze 0) (zb zJ zf))) (Xn (ze 2)) (ze 2)))))))))) ?_
 rintro ds n Q R hl ⟨l,rfl,hlen,q⟩
 with_reducible generalize hS:zp4 (sIf (bOr _ _) _ _) _=S
 have hfl:(ke l).length<=l.length:=by
  unfold ke
  split
  ·simp
  ·exact zk _
 have main:∀F:EndsD,F.rt=Q->S F [some (.str (tx l)),some (.str (tx (ke l))),none,none] n:=λF hF=>by
  subst hS;have i0:Str.ofString "" = tx []:=Zs
  by_cases h0:ke l=[]
  ·have hq : zS l = none := by unfold zS; rw [if_pos (.inl h0)]
   rw[hq,qz] at q;simp[i0,h0,Yp];exact q
  have ne:¬ (tx (ke l)=tx []):=by rw[qE];exact h0
  simp[i0,QZ,vn,ne];rw[zr0]
  refine yc (λc=>D.str (tx [c])) (λc=>.bl (wc c)) (ke l) (yz w6) (λc hc R hR=>?_) ?_
  ·have h:(!(Builtin.Str.occurrences (tx figL) (tx [c]) 0 (tx figL).length 1).isEmpty)=wc c:=zY8 c;simp[h];exact hR
  refine⟨(ke l).map wc,by rw[zF];rfl,?_⟩
  have eA:((ke l).map wc).all id=(ke l).all wc:=by rw[all_map];rfl
  rw[eA];cases hall:(ke l).all wc
  ·have hq : zS l = none := by unfold zS; rw [if_pos (.inr (.inl hall))]
   rw[hq,qz] at q;simp[Yp];exact q
  simp;rw[kC]
  have hd:∀c∈ke l,48<=c/\c<=57:=λc hc=>by
   have:=zZ.mp hall c hc
   simpa [wc] using this
  with_reducible generalize hL:zC2 (zl3 3) _ _ _ _ n=L
  have loop:(((ke l).head?=some 48->l=[48]))->L:=λhz=>by
   have hq:zS l=some (if l.head?=some 45 then -(Yn (ke l):Int) else Yn (ke l)):=by
    unfold zS;rw[if_neg]
    rintro(z |z |⟨z,y⟩)
    ·exact h0 z
    ·rw[hall] at z;cases z
    ·exact y (hz z)
   rw[hq,kA] at q;subst hL;refine⟨JRn [some (.str (tx l)),some (.str (tx (ke l)))] (ke l) n,⟨rfl,none,rfl⟩,?_,?_⟩
   ·rintro j d rho m' he ⟨rfl, z, rfl⟩;rw[xn] at he
    cases hc:(ke l)[j]? with
    |none=>rw[hc] at he;cases he
    |some c=>
     rw[hc] at he;cases he;obtain⟨r,hr⟩:=zY9 (hd c (xb hc));simp
     refine⟨.inl ⟨w9,w9⟩,c-48,⟨r,hr⟩,?_⟩
     refine⟨rfl,some (.str (tx [c])),?_⟩;rw[xN,hc];simp
   ·rintro rho m' ⟨rfl, z, rfl⟩;rw[zj,wn];rw[<- hF] at q
    by_cases hn:l.head?=some 45
    ·rw[if_pos hn] at q;simp[kC,hn];exact q
    ·rw[if_neg hn] at q;simp[kC,hn];exact q
  by_cases hc:(ke l).head?=some 48
  ·by_cases hz : l = [48]
   ·have ez : tx l = tx [48] := by rw [hz]
    simp[hc,ez];exact loop λ_=>hz
   ·have hq : zS l = none := by unfold zS; rw [if_pos (.inr (.inr ⟨hc, hz⟩))]
    rw[hq,qz] at q
    have nz:¬ (tx l=tx [48]):=by rw[qE];exact hz
    simp[hc,nz,Yp];exact q
  ·simp[hc];exact loop λz=>absurd z hc
 by_cases hn:l.head?=some 45
 ·have el := vS hn
  have es:Txt.slice (tx l) (some 1) none=tx (ke l):=by rw[Xa,el];rfl
  simp[xj,vn,kC,hn,es]
  exact⟨yz (by rw[xQ];lia),main _ rfl⟩
 ·have el:=vz hn;simp[xj,vn,kC,hn];rw[el] at main;exact main _ rfl
def zW4{sg c1 c2:List Nat}{k:D->Prop}(h:k (.bl (decide (sg≠c1/\sg≠c2)))):zp5 true (.str (tx sg)) (.tup [.str (tx c1),.str (tx c2)]) k:=by
 refine⟨rfl,_,.inl rfl,rfl,?_⟩
 by_cases h1:sg=c1
 ·subst h1;simp[inD,eqD] at h ⊢;exact h
 ·by_cases h2 : sg = c2
  ·subst h2;simp[inD,eqD] at h ⊢;exact h
  ·have n1 : ¬ tx c1 = tx sg := by rw [qE]; exact λz => h1 z.symm
   have n2:¬ tx c2=tx sg:=by rw[qE];exact λz=>h2 z.symm
   have m1:¬ tx sg=tx c1:=by rw[qE];exact h1
   have m2:¬ tx sg=tx c2:=by rw[qE];exact h2
   have b1:(tx c1 == tx sg)=false:=beq_eq_false_iff_ne.mpr n1;have b2:(tx c2 == tx sg)=false:=beq_eq_false_iff_ne.mpr n2;simp[inD,eqD,h1,h2,b1,b2] at h ⊢;exact h
abbrev ZH:Stmt:=top 34
abbrev QS:List Str:=["text","bracket","number","brackets"]
def Kv:FnScope QS qZ8 (zL ZH):=⟨rfl,rfl,rfl,x5,rfl,x5,x5⟩
def Zy:TFX:=λds n Q R=>∃l sg rest c1 c2:List Nat,ds=[.str (tx l),.str (tx sg),.str (tx rest),.tup [.str (tx c1),.str (tx c2)]]/\rest.length<=200000/\byO (zp6 l sg rest c1 c2) (λe=>Q (vK e) n) (R n)
def KL{C:Addr}(CN_NoText:ClsX K mg "NoText" C)(F:Fun K "read_end" "read_end" ZH f fd)(FX_read_number:FnX P w K mg base "read_number" 1 1 C yL):FnOk P w K mg base (CX1 P w) 2 f fd qZ8 (spX K C 4 Zy):=by
 refine Fun.okX (C:=C) F Kv (λcdv A0 outer s H E G Z R hr hE=>(zq (wt (xg km kj (ze 0) zJ (xz _)) (zu (zP wA)) xt)
  (zq (wt (xg kc (KD (neg:=true)) (ze 1) (ze 3) (by with_unfolding_all rfl)) (zu (vg CN_NoText (xok hE))) xt)
  (zu (zP (yK (zb (kb FX_read_number (YC hE) (hr.mono w9) rfl (zb (ze 2) zf)) (zb (vJ km kj (ze 1) (yk wb yn (ze 3) zK (λ_ _=>rfl)) (xz _)) zf)))))))) ?_
 rintro ds n Q R hl ⟨l,sg,rest,c1,c2,rfl,hlen,q⟩;unfold zp6 at q
 by_cases h0:l=[45]
 ·subst h0;simp[xj,vn];exact q
 rw[if_neg h0] at q
 have ne:¬ (tx l=tx [45]):=by rw[qE];exact h0
 simp[xj,vn,ne];refine zW4 ?_
 by_cases hb:sg≠c1/\sg≠c2
 ·rw[if_pos hb] at q;rw[xm hb];simp[Yp];exact q
 rw[if_neg hb] at q;rw[zO hb];simp;refine⟨rest,rfl,hlen,?_⟩
 cases hn:zS rest with
 |none=>rw[hn] at q;exact q
 |some i=>
  rw[hn] at q
  have e:decide (tx sg=tx c1)=decide (sg=c1):=decide_eq_decide.mpr ⟨Jr,λh=>by rw[h]⟩
  rw[kA];simp[e];exact q
abbrev jJ:Stmt:=top 35
abbrev Jm:List Str:=["text","low","dots","high"]
def kQ:FnScope Jm qZ2 (zL jJ):=⟨rfl,rfl,rfl,x5,rfl,x5,x5⟩
def jF:TFX:=λds n Q R=>∃l:List Nat,ds=[.str (tx l)]/\l.length<=200000/\byO (xI l) (λs=>Q (kn s) n) (R n)
def Uz{C:Addr}(F:Fun K "read_span" "read_span" jJ f fd)(FX_read_end:FnX P w K mg base "read_end" 2 4 C Zy):FnOk P w K mg base (CX1 P w) 3 f fd qZ2 (spX K C 1 jF):=by
 refine Fun.okX (C:=C) F kQ (λcdv A0 outer s H E G Z R hr hE=>(zq (qr (m:=4) (zf5 (ze 0) (zb zJ zf)) (vE (k:=3) rfl rfl (xo (zV (i:=1) kQ.nd rfl (lo rfl) w9) (xo (zV (i:=2) kQ.nd rfl (lo rfl) w9) (xo (zV (i:=3) kQ.nd rfl (lo rfl) w9) yH)))))
  (zu (zP (yK (zb (kb FX_read_end (YC hE) (hr.mono w9) rfl (zb (ze 1) (zb (qh (ze 1) yr (wT zK)) (zb (qh (ze 1) (wT zK) yr) (zb (yK (zb zJ (zb zJ zf))) zf))))) (zb (kb FX_read_end (YC hE) (hr.mono w9) rfl (zb (ze 3) (zb (qh (ze 3) (wT (Xn zK)) yr) (zb (qh (ze 3) yr (wT (Xn zK))) (zb (yK (zb zJ (zb zJ zf))) zf))))) zf))))))) ?_
 rintro ds n Q R hl ⟨l,rfl,hlen,q⟩
 cases hc:VN l with
 |none=>
  have hq:xI l=none:=by unfold xI;rw[hc]
  rw[hq,qz] at q;simp[xj,Yb,zg2 hc,YL,Xa,zb5,Ks,zb0,zr5,VX,Jx,xQ]
  have z:=yz (n:=l.length) w6
  refine⟨z,w6,w6,l,l.take 1,l.drop 1,[91],[40],by rw[drop_one],by simp;lia,?_⟩
  cases zp6 l (l.take 1) (l.drop 1) [91] [40] with
  |none=>exact q
  |some e=>exact⟨[],[],[],[93],[41],rfl,w9,q⟩
 | some p =>
  obtain⟨a,b⟩:=p;obtain⟨el,_⟩:=kK hc;simp[xj,Yb,zg1 hc,YL,Xa,zb5,Ks,zb0,zr5,VX,Jx,xQ]
  have hz:a.length+b.length+2=l.length:=by rw[el];simp;lia
  have z:=yz (n:=l.length) w6
  refine⟨z,w6,w6,a,a.take 1,a.drop 1,[91],[40],by rw[drop_one],by simp;lia,?_⟩
  have er:xI l=match ki a,vm b with
   |some x,some y=>some (x,y)
   |_,_=>none:=by
   unfold xI;rw[hc]
   try rfl
  rw[er] at q;show byO (ki a) _ _
  cases ha:ki a with
  |none=>rw[ha] at q;exact q
  |some x=>
   rw[kA]
   refine⟨w6,w6,b,b.drop (b.length-1),b.dropLast,[93],[41],rfl,by simp;lia,?_⟩
   show byO (vm b) _ _;rw[ha] at q
   cases hb:vm b with
   |none=>rw[hb] at q;exact q
   |some y=>rw[hb] at q;exact q
abbrev qR:Stmt:=top 36
abbrev jg:List Str:=["words","d","box"]
def Zb:FnScope jg ["words","d"] (zL qR):=⟨rfl,rfl,rfl,x5,rfl,x5,x5⟩
def Xx:("word" :: jg:List Str).Nodup:=x5
def xa(ws:List (List Nat))(d:Nat):Option (List js):=if (ws.filterMap xI).length=ws.length/\ws.length=d then some (ws.filterMap xI) else none
def UT{ws:List (List Nat)}(h:∀w∈ws,∃s,xI w=some s):(ws.filterMap xI).length=ws.length:=by
 induction ws with
 |nil=>rfl
 |cons w ws ih=>
  obtain⟨s,e⟩:=h w (by simp)
  rw[List.filterMap_cons_some e,zr,zr,ih λv hv=>h v (zh _ hv)]
def XG{ws:List (List Nat)}{w:List Nat}(hw:w∈ws)(h:xI w=none):(ws.filterMap xI).length≠ws.length:=by
 induction ws with
 |nil=>cases hw
 | cons v ws ih =>
  have hle:(ws.filterMap xI).length<=ws.length:=List.length_filterMap_le ..
  rcases zi.mp hw with rfl |hw
  ·rw[List.filterMap_cons_none h,zr];lia
  ·have := ih hw
   cases e:xI v with
   |none=>rw[List.filterMap_cons_none e,zr];lia
   |some s=>rw[List.filterMap_cons_some e,zr,zr];lia
def kO:TFX:=λds n Q R=>∃(ws:List (List Nat)) (d:Nat),ds=[.lst (ws.map λw=>D.str (tx w)),.int (d:Int)]/\1<=d/\d<=4/\ws.length<=200001/\(∀w∈ws,w.length<=200000)/\byO (xa ws d) (λb=>Q (wX b) n) (R n)
structure JSp(ws:List (List Nat))(n i:Nat)(acc:List D)(m:Nat):Prop where
 e:m=n
 a:acc=((ws.take i).filterMap xI).map kn
 s:∀w∈ws.take i,∃s,xI w=some s
def Vn{C:Addr}(T:Blt mg)(CN_NoText:ClsX K mg "NoText" C)(F:Fun K "read_spans" "read_spans" qR f fd)(FX_read_span:FnX P w K mg base "read_span" 3 1 C jF)(F_is_box:Fn P w K mg base "is_box" 4 2 YJ):FnOk P w K mg base (CX1 P w) 5 f fd ["words","d"] (spX K C 2 kO):=by
 refine Fun.okX (C:=C) F Zb (λcdv A0 outer s H E G Z R hr hE=>(zq (xZ (i:=2) Zb.nd rfl (lo rfl) (wO yO qx T.tuple va (zb (Vi (zu4 hE) (own:=["word"]) (M:=jg) (vi (by rfl)) rfl (vc rfl (ze 0)) (λ_ _ _ _=>(zV (i:=0) Xx rfl (lo rfl) w9)) (λ_ _ _ _=>wS) (λ_ _ _ _=>(kb FX_read_span zf9 (hr.mono w9) rfl (zb (ze 0) zf)))) zf)))
  (zq (wt (vq (wG (xX F_is_box (hr.mono w9) rfl (zb (ze 2) (zb (ze 1) zf))))) (zu (vg CN_NoText (xok hE))) xt)
  (zu (zP (ze 2)))))) ?_
 rintro ds n Q R hl ⟨ws,d,rfl,hd1,hd4,hlen,hw,q⟩;simp[xj]
 refine⟨yz (by rw[zj];lia),JSp ws n,⟨rfl,rfl,λw hw=>by simp at hw⟩,?_,?_⟩
 ·rintro i dd acc m he ⟨rfl, rfl, hs⟩;rw[xn] at he
  cases hc:ws[i]? with
  |none=>rw[hc] at he;cases he
  | some w =>
   rw[hc] at he;cases he;have hm:=xb hc;simp;refine⟨w,rfl,hw w hm,?_⟩
   cases er:xI w with
   | none =>
    have:xa ws d=none:=by
     unfold xa;rw[if_neg];exact λz=>XG hm er z.1
    rw[this] at q;exact q
   | some sp =>
    rw[kA];refine⟨rfl,?_,λv hv=>?_⟩
    ·rw[xN,hc];simp[er]
    ·rw [xN, hc] at hv
     rcases xU.mp hv with hv |hv
     ·exact hs v hv
     ·have : v = w := by simpa using hv
      exact⟨sp,by rw[this];exact er⟩
 ·rintro acc m ⟨rfl, rfl, hs⟩
  have et:ws.take (ws.map λw=>D.str (tx w)).length=ws:=zQ (by rw[zj];exact zk _)
  rw[et] at hs ⊢;have hfl:=UT hs;have eb:D.tup ((ws.filterMap xI).map kn)=wX (ws.filterMap xI):=rfl;have nb:xR (wX (ws.filterMap xI))=true:=id rfl;simp only[Zh];rw[eb];simp[nb]
  refine⟨ws.filterMap xI,d,rfl,hd1,hd4,w6,?_⟩
  by_cases hd:ws.length=d
  ·have : xa ws d = some (ws.filterMap xI) := by unfold xa; rw [if_pos ⟨hfl, hd⟩]
   rw[this] at q;simp[hfl,hd,nb];exact q
  ·have : xa ws d = none := by unfold xa; rw [if_neg λz => hd z.2]
   rw[this] at q;simp[hfl,hd,Yp];exact q
abbrev WU:Stmt:=top 32
abbrev zz5:List Str:=["text","sign"]
def zb7:FnScope zz5 ["text","sign"] (zL WU):=⟨rfl,rfl,rfl,x5,rfl,x5,x5⟩
def zX(c:Nat)(l:List Nat):List (List Nat):=(Txt.split (tx l) (tx [c])).map λx=>x.cps.toList
def yP(c:Nat)(l:List Nat):Txt.split (tx l) (tx [c])=(zX c l).map tx:=by
 unfold zX;rw[zF];exact(map_id'' (λx=>(Yz x).symm) _).symm
def xC(c:Nat)(l:List Nat):wW [c] (zX c l)=l:=by
 obtain⟨ps,e,_,_,h⟩:=vo c l
 have:zX c l=ps:=by
  unfold zX;rw[e,zF];exact map_id'' (λ_=>rfl) _
 rw[this,h]
theorem wM{c:Nat}:∀ws:List (List Nat),ws.length<=(wW [c] ws).length+1/\∀w∈ws,w.length<=(wW [c] ws).length
 |[]=>⟨by simp,λw h=>by cases h⟩
 |[a]=>⟨by simp,λw h=>by
  have:w=a:=by simpa using h
  rw[this];exact zk _⟩
 | a :: b :: r => by
  obtain⟨h1,h2⟩:=wM (c:=c) (b::r)
  have e:(wW [c] (a::b::r)).length=a.length+1+(wW [c] (b::r)).length:=by
   show(a++[c]++wW [c] (b::r)).length=_;rw[zE,zE];rfl
  refine⟨by rw[e];simp only[zr] at h1 ⊢;lia,λw h=>?_⟩
  rcases zi.mp h with rfl |h
  ·lia
  ·have:=h2 w h;lia
def qK:TFX:=λds n Q R=>(∃(l:List Nat) (c:Nat),ds=[.str (tx l),.str (tx [c])]/\l.length<=200000/\Q (.lst ((zX c l).map λw=>D.str (tx w))) n)\/∃x y:D,ds=[x,y]/\xR x=true/\vB x=true/\Yw "str" x=false/\R n
def Qx{C:Addr}(T:Blt mg)(CN_NoText:ClsX K mg "NoText" C)(F:Fun K "parted" "parted" WU f fd):FnOk P w K mg base (CX1 P w) 1 f fd ["text","sign"] (spX K C 2 qK):=by
 refine Fun.okX (C:=C) F zb7 (λcdv A0 outer s H E G Z R hr hE=>(zq (wt (vq (wG (xq yx vL T.isi vj (zb (ze 0) (zb (qC (hm:=T.str) (hv:=XR)) zf))))) (zu (vg CN_NoText (xok hE))) xt)
  (zu (zP (kW (ze 0) (zb (ze 1) zf)))))) ?_
 rintro ds n Q R hl (⟨l,c,rfl,hlen,q⟩ |⟨x,y,rfl,hn,h1,h2,q⟩)
 ·have hs := wM (c := c) (zX c l);rw[xC] at hs;simp[xj,Yw,vB];rw[yP]
  refine⟨by rw[xQ];simp,yz (by rw[xQ];lia),yz (by rw[zj];lia),?_⟩
  rw[zF];exact q
 ·simp[xj,hn,h1,h2,Yp];exact q
abbrev ZI:Stmt:=top 37
abbrev QT:List Str:=["text","d"]
def Kw:FnScope QT qZ4 (zL ZI):=⟨rfl,rfl,rfl,x5,rfl,x5,x5⟩
def Zz:TFX:=λds n Q R=>(∃(l:List Nat) (d:Nat),ds=[.str (tx l),.int (d:Int)]/\l.length<=200000/\1<=d/\d<=4/\byO (xa (zX 32 l) d) (λb=>Q (wX b) n) (R n))\/∃x y:D,ds=[x,y]/\xR x=true/\vB x=true/\Yw "str" x=false/\R n
def KM{C:Addr}(F:Fun K "read_box" "read_box" ZI f fd)(FX_parted:FnX P w K mg base "parted" 1 2 C qK)(FX_read_spans:FnX P w K mg base "read_spans" 5 2 C kO):FnOk P w K mg base (CX1 P w) 6 f fd qZ4 (spX K C 2 Zz):=by
 refine Fun.okX (C:=C) F Kw (λcdv A0 outer s H E G Z R hr hE=>(zu (zP (kb FX_read_spans (YC hE) (hr.mono w9) rfl (zb (kb FX_parted (YC hE) (hr.mono w9) rfl (zb (ze 0) (zb zJ zf))) (zb (ze 1) zf)))))) ?_
 rintro ds n Q R hl (⟨l,d,rfl,hlen,hd1,hd4,q⟩ |⟨x,y,rfl,hn,h1,h2,q⟩)
 ·have hs := wM (c := 32) (zX 32 l);rw[xC] at hs;simp[xj,yU];refine .inl ⟨l,32,rfl,hlen,?_⟩;simp
  exact⟨zX 32 l,d,rfl,hd1,hd4,w6,λw hw=>zm (hs.2 w hw) hlen,q⟩
 ·simp[xj,hn,yU];exact .inr ⟨x,_,rfl,hn,h1,h2,q⟩
abbrev jN:Stmt:=top 62
abbrev jZ:List Str:=["_law_found","_law_due"]
def Uf:FnScope jZ qZ7 (zL jN):=⟨rfl,rfl,rfl,x5,rfl,x5,x5⟩
def jB:("_law_one" :: "_law_other" :: jZ:List Str).Nodup:=x5
def Js:Nat->TF
 |0=>λ_ _ _=>False
 |j+1=>λds n Q=>∃d,ds=[d,d]/\okT d j=true/\Q (.bl true) n
def zK6(T:Blt mg)(F:Fun K "_law_same" "_law_same" jN f fd)(hm:mg "_law_same" = some (.ref f))(hk:W.keepIn K (.ref f)=true)(hb:Binds K fd ["_law_found","_law_due"] []):∀j:Nat,FnOk P w K mg base CX0 j f fd qZ7 (spD K 2 (Js j)):=by
 intro j
 induction j with
 |zero=>exact FnOk.bot λds n Q h=>h
 | succ j ih =>
  have Y_same:Fn P w K mg base "_law_same" j 2 (Js j):=⟨f,fd,_,ih,hm,hk,hb⟩
  refine Fun.okD F Uf (λ_ _ _ s H E G Z hr=>(zq (wt (wG (xq yx vL T.isi vj (zb (ze 1) (zb (qC (hm:=T.tuple) (hv:=va)) zf)))) (zq (wt (PWD.pt (vZ (vq (wG (xq yx vL T.isi vj (zb (ze 0) (zb (qC (hm:=T.tuple) (hv:=va)) zf))))) (vQ (xg Xs Xj (xq we ko T.len kr (zb (ze 0) zf)) (xq we ko T.len kr (zb (ze 1) zf)) (xz _))))) (zu (zP Zj)) xt)
  (zu (zP (xq (qy rfl) XM T.all XS (zb (vF (own:=["_law_one","_law_other"]) (M:=jZ) (vi (by rfl)) rfl (Vg rfl T.zip (zb (ze 0) (zb (ze 1) zf))) (λ_ _ _ _=>(vE (k:=2) rfl rfl (xo (zV (i:=0) jB rfl (lo rfl) w9) (xo (zV (i:=1) jB rfl (lo rfl) w9) yH)))) (λ_ _ _ _=>wS) (λ_ _ _ _=>(xX Y_same hr rfl (zb (ze 0) (zb (ze 1) zf))))) zf))))) xt)
  (zq (wt (xg kI kH (ze 1) wA (xz _)) (zu (zP (vJ kI kH (ze 0) wA (xz _)))) xt)
  (zq (wt (wG (xq yx vL T.isi vj (zb (ze 1) (zb (qC (hm:=T.str) (hv:=XR)) zf)))) (zu (zP (vy (xq yx vL T.isi vj (zb (ze 0) (zb (qC (hm:=T.str) (hv:=XR)) zf))) (qi (vJ km kj (ze 0) (ze 1) (xz _)))))) xt)
  (zq (wt (PWD.pt (vZ (wG (xq yx vL T.isi vj (zb (ze 1) (zb (qC (hm:=T.bool) (hv:=Yg)) zf)))) (vQ (wG (xq yx vL T.isi vj (zb (ze 0) (zb (qC (hm:=T.bool) (hv:=Yg)) zf))))))) (zu (zP (vy (xq yx vL T.isi vj (zb (ze 0) (zb (qC (hm:=T.bool) (hv:=Yg)) zf))) (vy (xq yx vL T.isi vj (zb (ze 1) (zb (qC (hm:=T.bool) (hv:=Yg)) zf))) (qi (vJ km kj (ze 0) (ze 1) (xz _))))))) xt)
  (zu (zP (vy (xq yx vL T.isi vj (zb (ze 0) (zb (qC (hm:=T.int) (hv:=jC)) zf))) (qi (vJ km kj (ze 0) (ze 1) (xz _))))))))))) ?_
  rintro ds n Q hl ⟨d,rfl,hd,q⟩
  cases d with
  |non=>simp[xj,Yw,vB];exact q
  |bl b=>simp[xj,Yw,vB];exact q
  |int b=>simp[xj,Yw,vB];exact q
  |str b=>simp[xj,Yw,vB];exact q
  | tup ds =>
   cases j with
   |zero=>simp[okT] at hd
   | succ j =>
    obtain⟨h1,h2⟩:=qd.mp hd;simp[xj,Yw,vB];rw[QY];refine yc (λx=>.tup [x,x]) (λ_=>.bl true) ds (yA h1) (λx hx R hR=>?_) ?_
    ·have hx2 := h2 x hx
     have hno:xR x=true:=by cases x<;>first |rfl |(simp[okT] at hx2;done)
     simp[hno];exact⟨x,rfl,hx2,hR⟩
    ·refine ⟨ds.map λ_ => true, by rw [zF]; rfl, ?_⟩
     have e:(ds.map λ_=>true).all id=true:=by simp
     rw[e];exact q
  |_=>simp[okT] at hd
end
inductive Part where
 |place (p:List Int)
 |num (k:Int)
def yT:Part->D
 |.place p=>wx p
 |.num k=>.int k
def Zr:Part->Str
 |.place _ => "place"
 |.num _ => "k"
def OkP(d:Nat):Part->Prop
 |.place p=>p.length=d/\∀x∈p,x.natAbs<1000000000000000000
 |.num k=>0<=k/\k.natAbs<1000000000000000000
def Yu:List Str:=["count","sum","least","most","all","first","best","near","number","worth"]
def Yv:List D:=[.tup [.str "box"],.tup [.str "box"],.tup [.str "box"],.tup [.str "box"],.tup [.str "box"],.tup [.str "box",.str "k"],.tup [.str "box",.str "k"],.tup [.str "box",.str "place",.str "k"],.tup [.str "name",.str "i"],.tup [.str "name"]]
def yw:List Str:=["count","sum","least","most","all","first","best","near"]
structure AskOk(d:Nat)(x:Str)(b:List js)(qs:List Part):Prop where
 w:x∈yw
 pt:atS Yu Yv x=some (.tup (.str "box" :: qs.map λq=>.str (Zr q)))
 bl:b.length=d
 bs:∀s∈b,Wu s
 ps:∀q∈qs,OkP d q
 ql:qs.length<=2
def YF(x:Str)(b:List js)(qs:List Part):D:=.tup (.str x::wX b::qs.map yT)
def zq7(b:List js):Option Part->D
 |none=>wX b
 |some q=>yT q
def zw6:Option Part->Str
 |none => "box"
 |some q=>Zr q
def QC(q:Part):xR (yT q)=true:=by cases q<;>rfl
theorem JR{x:Str}:∀{ws:List Str},x∈ws->inD (.str x) (ws.map D.str)=true
 |[],h=>by simp at h
 | w :: ws, h => by
  by_cases e:x=w
  ·simp[inD,eqD,e]
  ·have := JR (ws := ws) (by
    rcases zi.mp h with z |z
    ·exact absurd z e
    ·exact z)
   simp[inD,eqD,this] at this ⊢;simp[this]
def Up{x:Str}{ws:List Str}{neg:Bool}{k:D->Prop}(h:x∈ws)(hk:k (.bl (!neg))):zp5 neg (.str x) (.tup (ws.map D.str)) k:=by
 have e:=JR h
 have f:(ws.map D.str).all jV=true:=by simp[jV]
 refine⟨rfl,_,.inl rfl,f,?_⟩;rw[e]
 cases neg<;>exact hk
def at0(a:D)(l:List D):atI (a::l) 0=some a:=by simp[atI,ixN]
def at1(a b:D)(l:List D):atI (a::b::l) 1=some b:=by
 have h:(1:Int)<(l.length:Int)+1+1:=w6
 simp[atI,ixN,h]
def ix0{a:D}{l:List D}{k:D->Prop}(h:k a):Kk (.tup (a::l)) (.int 0) k:=⟨_,_,_,.inr (.inl rfl),rfl,at0 ..,h⟩
def ix1{a b:D}{l:List D}{k:D->Prop}(h:k b):Kk (.tup (a::b::l)) (.int 1) k:=⟨_,_,_,.inr (.inl rfl),rfl,at1 ..,h⟩
structure AskF(d:Nat)(x:Str)(b:List js)(qs:List Part):Prop where
 w:x∈yw
 pt:atS Yu Yv x=some (.tup (.str "box" :: qs.map λq=>.str (Zr q)))
 bl:b.length=d
 ql:qs.length<=2
 pl:∀p,Part.place p∈qs->p.length<=1000000
def Kl(d:Nat):Part->Bool
 |.place p=>decide (p.length=d)
 |.num k=>decide (0<=k)
section
variable {P:Program}{w:World}{K:W.Frag}{mg:Str->Option Value}{base:Heap}{f:Addr}{fd:FuncData}
abbrev kZ:Stmt:=top 3
abbrev Wh:List Str:=["thing"]
def Xd:FnScope Wh qZ0 (zL kZ):=⟨rfl,rfl,rfl,x5,rfl,x5,x5⟩
def xa6:TF:=λds n Q=>∃i:Int,ds=[.int i]/\Q (.bl (decide (0<=i))) n
def xl9(F:Fun K "is_from_zero" "is_from_zero" kZ f fd)(F_is_whole:Fn P w K mg base "is_whole" 1 1 jD):FnOk P w K mg base CX0 2 f fd qZ0 (spD K 1 xa6):=by
 refine Fun.okD F Xd (λ_ _ _ s H E G Z hr=>(zu (zP (vy (xX F_is_whole (hr.mono w9) rfl (zb (ze 0) zf)) (qi (vJ zg8 zc6 (ze 0) zK (xz _))))))) ?_
 rintro ds n Q hl ⟨i,rfl,q⟩;simp[xj];refine⟨i,rfl,?_⟩;simp;exact q
abbrev ZM:Stmt:=top 8
abbrev Yk:List Str:=["thing","d"]
def Kz:FnScope Yk qZ1 (zL ZM):=⟨rfl,rfl,rfl,x5,rfl,x5,x5⟩
def Vu:("number" :: Yk:List Str).Nodup:=x5
def jk:TF:=λds n Q=>∃(p:List Int) (d:Nat),ds=[wx p,.int (d:Int)]/\1<=d/\d<=4/\p.length<=1000000/\Q (.bl (decide (p.length=d))) n
def KP(T:Blt mg)(F:Fun K "is_place" "is_place" ZM f fd)(F_is_whole:Fn P w K mg base "is_whole" 1 1 jD)(F_is_d:Fn P w K mg base "is_d" 2 1 VT)(F_is_tuple_of:Fn P w K mg base "is_tuple_of" 1 2 qF):FnOk P w K mg base CX0 3 f fd qZ1 (spD K 2 jk):=by
 refine Fun.okD F Kz (λ_ _ _ s H E G Z hr=>(zu (zP (vy (xX F_is_d (hr.mono w9) rfl (zb (ze 1) zf)) (vy (xX F_is_tuple_of (hr.mono w9) rfl (zb (ze 0) (zb (ze 1) zf))) (qi (xq (qy rfl) XM T.all XS (zb (vF (own:=["number"]) (M:=Yk) (vi (by rfl)) rfl (vc rfl (ze 0)) (λ_ _ _ _=>(zV (i:=0) Vu rfl (lo rfl) w9)) (λ_ _ _ _=>wS) (λ_ _ _ _=>(xX F_is_whole (hr.mono w9) rfl (zb (ze 0) zf)))) zf)))))))) ?_
 rintro ds n Q hl ⟨p,d,rfl,h1,h4,hz,q⟩;have np:xR (wx p)=true:=id rfl;have ep:wx p=.tup (p.map D.int):=rfl
 have hd:(1:Int)<=(d:Int)/\(d:Int)<=4:=w6
 simp[xj,np];refine⟨d,rfl,?_⟩;simp[hd.1,hd.2,np];refine⟨p.map D.int,d,rfl,?_⟩;rw[zj]
 by_cases hp:p.length=d
 ·rw [xm hp] at q ⊢;simp[np,ep];refine yc D.int (λ_=>.bl true) p (yz hz) (λx hx R hR=>?_) ?_
  ·simp;exact⟨x,rfl,hR⟩
  ·refine ⟨p.map λ_ => true, by rw [zF]; rfl, ?_⟩
   have e:(p.map λ_=>true).all id=true:=by simp
   rw[e];exact q
 ·rw[zO hp] at q ⊢;simp;exact q
abbrev Qt:Stmt:=top 4
def zA1:TF:=λ_ _ _=>False
abbrev Xh:Stmt:=top 16
abbrev zp2:List Str:=["thing","kind","d"]
def Qs:FnScope zp2 qZ9 (zL Xh):=⟨rfl,rfl,rfl,x5,rfl,x5,x5⟩
def YW:TF:=λds n Q=>∃(d:Nat),1<=d/\d<=4/\((∃b:List js,ds=[wX b,.str "box",.int (d:Int)]/\b.length=d/\Q (.bl true) n)\/∃q:Part,ds=[yT q,.str (Zr q),.int (d:Int)]/\(∀p,q=.place p->p.length<=1000000)/\Q (.bl (Kl d q)) n)
def Qz(T:Blt mg)(F:Fun K "is_part" "is_part" Xh f fd)(F_is_box:Fn P w K mg base "is_box" 4 2 YJ)(F_is_place:Fn P w K mg base "is_place" 3 2 jk)(F_is_from_zero:Fn P w K mg base "is_from_zero" 2 1 xa6)(F_is_below:Fn P w K mg base "is_below" 3 2 zA1):FnOk P w K mg base CX0 5 f fd qZ9 (spD K 3 YW):=by
 refine Fun.okD F Qs (λ_ _ _ s H E G Z hr=>(zq (wt (xg km kj (ze 1) zJ (xz _)) (zu (zP (xX F_is_box (hr.mono w9) rfl (zb (ze 0) (zb (ze 2) zf))))) xt)
  (zq (wt (xg km kj (ze 1) zJ (xz _)) (zu (zP (xX F_is_place (hr.mono w9) rfl (zb (ze 0) (zb (ze 2) zf))))) xt)
  (zq (wt (xg km kj (ze 1) zJ (xz _)) (zu (zP (xX F_is_below (hr.mono w9) rfl (zb (ze 0) (zb (ze 2) zf))))) xt)
  (zu (zP (xX F_is_from_zero (hr.mono w9) rfl (zb (ze 0) zf)))))))) ?_
 rintro ds n Q hl ⟨d,h1,h4,(⟨b,rfl,hb,q⟩ |⟨pt,rfl,hp,q⟩)⟩
 ·have nb : xR (wX b) = true := id rfl;simp[xj,nb]
  refine⟨b,d,rfl,h1,h4,w6,?_⟩
  rw[xm hb];exact q
 ·cases pt with
  |place p=>
   have np:xR (wx p)=true:=id rfl
   have k1:¬ (Str.ofString "place" = Str.ofString "box"):=x5
   simp[xj,yT,Zr,np,k1];exact⟨p,d,rfl,h1,h4,hp p rfl,q⟩
  |num k=>
   have k1:¬ (Str.ofString "k" = Str.ofString "box"):=x5
   have k2:¬ (Str.ofString "k" = Str.ofString "place"):=x5
   have k3:¬ (Str.ofString "k" = Str.ofString "i"):=x5
   simp[xj,yT,Zr,k1,k2,k3];exact⟨k,rfl,q⟩
abbrev ZO:Stmt:=top 15
abbrev QW:List Str:=["thing","words"]
def KA:FnScope QW ["thing","words"] (zL ZO):=⟨rfl,rfl,rfl,x5,rfl,x5,x5⟩
def ZD:TF:=λds n Q=>∃(d:Nat) (x:Str) (b:List js) (qs:List Part),ds=[YF x b qs,.tup (yw.map D.str)]/\AskF d x b qs/\Q (.bl true) n
def KR(T:Blt mg)(G_PARTS:xa4 w K mg "PARTS" Yu Yv)(F:Fun K "has_form" "has_form" ZO f fd):FnOk P w K mg base CX0 1 f fd ["thing","words"] (spD K 2 ZD):=by
 refine Fun.okD F KA (λ_ _ _ s H E G Z hr=>(zq (wt (vq (PWD.pt (qb (wG (xq yx vL T.isi vj (zb (ze 0) (zb (qC (hm:=T.tuple) (hv:=va)) zf)))) (qb (xg zg7 zc5 (xq we ko T.len kr (zb (ze 0) zf)) zK (xz _)) (qb (wG (xq yx vL T.isi vj (zb (yk wb yn (ze 0) zK (λ_ _=>rfl)) (zb (qC (hm:=T.str) (hv:=XR)) zf)))) (kT (xg Uw (KD (neg:=false)) (yk wb yn (ze 0) zK (λ_ _=>rfl)) (ze 1) (by with_unfolding_all rfl)))))))) (zu (zP Zj)) xt)
  (zu (zP (vJ km kj (xq we ko T.len kr (zb (ze 0) zf)) (qB (xq we ko T.len kr (zb (zf6 G_PARTS rfl (yk wb yn (ze 0) zK (λ_ _=>rfl)) (λ_ _=>rfl)) zf)) zK) (xz _)))))) ?_
 rintro ds n Q hl ⟨d,x,b,qs,rfl,ha,q⟩;have no:xR (YF x b qs)=true:=id rfl;have nw:xR (.tup (yw.map D.str))=true:=id rfl;have i0:∀k:D->Prop,k (.str x)->Kk (YF x b qs) (.int 0) k:=λk h=>ix0 h;have hw:∀k:D->Prop,k (.bl true)->zp5 false (.str x) (.tup (yw.map D.str)) k:=λk h=>Up ha.w h;have hp:=ha.pt;have il:Yw "tuple" (YF x b qs)=true:=rfl;have io:vB (YF x b qs)=true:=rfl;generalize yw.map D.str=W at *
 have kl:∀k:D->Prop,k (.int ((qs.length:Int)+1+1))->zC3 [YF x b qs] k:=λk h=>by
  unfold YF;rw[zd2]
  simpa using h
 have hpos:(0:Int)<(qs.length:Int)+1+1:=w6
 simp[xj,no,nw,il,io];refine kl _ ?_;simp[hpos];refine i0 _ ⟨rfl,?_⟩;rw[if_pos (show Yw "str" (.str x)=true from rfl)];refine i0 _ (hw _ ⟨true,rfl,?_⟩)
 show if true=true then _ else _
 rw[if_pos rfl];refine kl _ (i0 _ ⟨x,rfl,_,hp,?_⟩);rw[zd2];simp;exact q
abbrev jK:Stmt:=top 17
abbrev jY:List Str:=["ask","d"]
def Ue:FnScope jY ["ask","d"] (zL jK):=⟨rfl,rfl,rfl,x5,rfl,x5,x5⟩
def jA:("part" :: "kind" :: jY:List Str).Nodup:=x5
def jG:TF:=λds n Q=>∃(d:Nat) (x:Str) (b:List js) (qs:List Part),ds=[YF x b qs,.int (d:Int)]/\1<=d/\d<=4/\AskF d x b qs/\Q (.bl (qs.all (Kl d))) n
def UA(T:Blt mg)(G_PARTS:xa4 w K mg "PARTS" Yu Yv)(F:Fun K "has_parts" "has_parts" jK f fd)(F_is_part:Fn P w K mg base "is_part" 5 3 YW):FnOk P w K mg base CX0 6 f fd ["ask","d"] (spD K 2 jG):=by
 refine Fun.okD F Ue (λ_ _ _ s H E G Z hr=>(zu (zP (xq (qy rfl) XM T.all XS (zb (vF (own:=["part","kind"]) (M:=jY) (vi (by rfl)) rfl (Vg rfl T.zip (zb (zf4 rfl (ze 0) (wT zK) yr) (zb (zf6 G_PARTS rfl (yk wb yn (ze 0) zK (λ_ _=>rfl)) (λ_ _=>rfl)) zf))) (λ_ _ _ _=>(vE (k:=2) rfl rfl (xo (zV (i:=0) jA rfl (lo rfl) w9) (xo (zV (i:=1) jA rfl (lo rfl) w9) yH)))) (λ_ _ _ _=>wS) (λ_ _ _ _=>(xX F_is_part (hr.mono w9) rfl (zb (ze 0) (zb (ze 1) (zb (ze 3) zf)))))) zf))))) ?_
 rintro ds n Q hl ⟨d,x,b,qs,rfl,h1,h4,ha,q⟩;have no:xR (YF x b qs)=true:=id rfl;have i0:∀k:D->Prop,k (.str x)->Kk (YF x b qs) (.int 0) k:=λk h=>ix0 h;have hp:=ha.pt;have lq:=ha.ql
 have ec:Yx (.str x::wX b::qs.map yT) (some 1) none=wX b::qs.map yT:=by
  unfold Yx HT.sIx;simp
  exact zQ (by simp)
 simp[xj,no];refine⟨_,rfl,i0 _ ⟨x,rfl,_,hp,?_⟩⟩;rw[ec];simp
 have ez:VM (wX b::qs.map yT) (D.str (Str.ofString "box")::qs.map λq=>D.str (Zr q))=(none::qs.map some).map λo=>D.tup [zq7 b o,.str (zw6 o)]:=by
  unfold VM;rw[zR,List.zipWith_cons_cons,zF]
  congr 1
  rw[List.zipWith_map];simp[List.zipWith_self];exact λa _=>⟨rfl,rfl⟩
 rw[ez]
 refine yc (λo:Option Part=>D.tup [zq7 b o,.str (zw6 o)]) (λo=>.bl (match o with |none=>true |some q=>Kl d q)) (none::qs.map some) (yA (by simp;lia)) (λo ho R hR=>?_) ?_
 ·cases o with
  |none=>
   have nb:xR (wX b)=true:=id rfl;simp[zq7,zw6,nb];exact⟨d,h1,h4,.inl ⟨b,rfl,ha.bl,hR⟩⟩
  |some pt=>
   have np:=QC pt
   have hm:pt∈qs:=by simpa using ho
   simp[zq7,zw6,np];exact⟨d,h1,h4,.inr ⟨pt,rfl,λp e=>ha.pl p (e ▸ hm),hR⟩⟩
 refine⟨(none::qs.map some).map λo=>(match o with |none=>true |some q=>Kl d q),by rw[zF];rfl,?_⟩
 have e:((none::qs.map some).map λo:Option Part=>(match o with |none=>true |some q=>Kl d q)).all id=qs.all (Kl d):=by
  rw[zR,ym,zF,all_map];rfl
 rw[e];exact q
abbrev WY:Stmt:=top 18
abbrev zz7:List Str:=["thing","d"]
def zc0:FnScope zz7 qZ1 (zL WY):=⟨rfl,rfl,rfl,x5,rfl,x5,x5⟩
def WO:TF:=λds n Q=>∃(d:Nat) (x:Str) (b:List js) (qs:List Part),ds=[YF x b qs,.int (d:Int)]/\1<=d/\d<=4/\AskF d x b qs/\Q (.bl (qs.all (Kl d))) n
def zi0(G_BOX_WORDS:zp7 K mg "BOX_WORDS" (.tup (yw.map D.str)))(F:Fun K "is_ask" "is_ask" WY f fd)(F_has_form:Fn P w K mg base "has_form" 1 2 ZD)(F_has_parts:Fn P w K mg base "has_parts" 6 2 jG):FnOk P w K mg base CX0 7 f fd qZ1 (spD K 2 WO):=by
 refine Fun.okD F zc0 (λ_ _ _ s H E G Z hr=>(zu (zP (vy (xX F_has_form (hr.mono w9) rfl (zb (ze 0) (zb (Xp G_BOX_WORDS rfl) zf))) (qi (xX F_has_parts (hr.mono w9) rfl (zb (ze 0) (zb (ze 1) zf)))))))) ?_
 rintro ds n Q hl ⟨d,x,b,qs,rfl,h1,h4,ha,q⟩;have no:xR (YF x b qs)=true:=id rfl;generalize hW:yw.map D.str=W at *;have nw:xR (D.tup W)=true:=id rfl;simp[xj,no,nw];subst hW;refine⟨d,x,b,qs,rfl,ha,?_⟩;simp[no];exact⟨d,x,b,qs,rfl,h1,h4,ha,q⟩
end
def Uk{K:W.Frag}{G:Option Addr}{Z:Addr->Prop}{H:Hp}(ks:List Str):Reps K G Z H (ks.map D.str) (ks.map V.str):=jl ks
def vh{K:W.Frag}{r:Addr}{o:Obj}{its:Array Value}{n:Nat}{ks:List Str}(hk:K.lookup r=some o)(hc:o.cls=.type "tuple")(hd:o.data=.seq its n)(hz:its.size<=1000)(hv:Vals (ks.map V.str) its.toList):∃v,RelV v (.ref r)/\∀G Z H,Rep K G Z H (.tup (ks.map D.str)) v:=
 ⟨.ref r,rfl,λG Z H=>.tup_mk (.inr (.inr ⟨o,its,n,hk,hc,hd,yA hz,hv⟩)) (Uk ks)⟩
def zu5{w:World}{K:W.Frag}{mg:Str->Option Value}{e rr0 rr1 rr2 rr3 rr4 rr5 rr6 rr7 rr8 rr9:Addr}{ep nn0 nn1 nn2 nn3 nn4 nn5 nn6 nn7 nn8 nn9:Nat}{tt0 tt1 tt2 tt3 tt4 tt5 tt6 tt7 tt8 tt9 uu0_0 uu1_0 uu2_0 uu3_0 uu4_0 uu5_0 uu5_1 uu6_0 uu6_1 uu7_0 uu7_1 uu7_2 uu8_0 uu8_1 uu9_0:Tok}{dd0 dd1 dd2 dd3 dd4 dd5 dd6 dd7 dd8 dd9:Option Addr}{ss0 ss1 ss2 ss3 ss4 ss5 ss6 ss7 ss8 ss9:Array (Option Value)}(hm:mg "PARTS" = some (.ref e))(hs:(e == sysModules)=false)(hk:K.lookup e=some { cls:=.type "dict",data:=.dict #[{ hash:=PyData.keyHash w.params "count",key:=.str "count" tt0,val:=.ref rr0 },{ hash:=PyData.keyHash w.params "sum",key:=.str "sum" tt1,val:=.ref rr1 },{ hash:=PyData.keyHash w.params "least",key:=.str "least" tt2,val:=.ref rr2 },{ hash:=PyData.keyHash w.params "most",key:=.str "most" tt3,val:=.ref rr3 },{ hash:=PyData.keyHash w.params "all",key:=.str "all" tt4,val:=.ref rr4 },{ hash:=PyData.keyHash w.params "first",key:=.str "first" tt5,val:=.ref rr5 },{ hash:=PyData.keyHash w.params "best",key:=.str "best" tt6,val:=.ref rr6 },{ hash:=PyData.keyHash w.params "near",key:=.str "near" tt7,val:=.ref rr7 },{ hash:=PyData.keyHash w.params "number",key:=.str "number" tt8,val:=.ref rr8 },{ hash:=PyData.keyHash w.params "worth",key:=.str "worth" tt9,val:=.ref rr9 }] ep })(q0:K.lookup rr0=some ⟨.type "tuple",dd0,.seq #[.str "box" uu0_0] nn0,ss0⟩)(q1:K.lookup rr1=some ⟨.type "tuple",dd1,.seq #[.str "box" uu1_0] nn1,ss1⟩)(q2:K.lookup rr2=some ⟨.type "tuple",dd2,.seq #[.str "box" uu2_0] nn2,ss2⟩)(q3:K.lookup rr3=some ⟨.type "tuple",dd3,.seq #[.str "box" uu3_0] nn3,ss3⟩)(q4:K.lookup rr4=some ⟨.type "tuple",dd4,.seq #[.str "box" uu4_0] nn4,ss4⟩)(q5:K.lookup rr5=some ⟨.type "tuple",dd5,.seq #[.str "box" uu5_0,.str "k" uu5_1] nn5,ss5⟩)(q6:K.lookup rr6=some ⟨.type "tuple",dd6,.seq #[.str "box" uu6_0,.str "k" uu6_1] nn6,ss6⟩)(q7:K.lookup rr7=some ⟨.type "tuple",dd7,.seq #[.str "box" uu7_0,.str "place" uu7_1,.str "k" uu7_2] nn7,ss7⟩)(q8:K.lookup rr8=some ⟨.type "tuple",dd8,.seq #[.str "name" uu8_0,.str "i" uu8_1] nn8,ss8⟩)(q9:K.lookup rr9=some ⟨.type "tuple",dd9,.seq #[.str "name" uu9_0] nn9,ss9⟩):xa4 w K mg "PARTS" Yu Yv:=
 ⟨e,_,_,_,hm,hs,hk,⟨rfl,rfl,rfl⟩,rfl,⟨⟨⟨tt0,rfl⟩,rfl,vh (ks:=["box"]) q0 rfl rfl (by simp) (.cons ⟨uu0_0,rfl⟩ (.nil))⟩,⟨⟨⟨tt1,rfl⟩,rfl,vh (ks:=["box"]) q1 rfl rfl (by simp) (.cons ⟨uu1_0,rfl⟩ (.nil))⟩,⟨⟨⟨tt2,rfl⟩,rfl,vh (ks:=["box"]) q2 rfl rfl (by simp) (.cons ⟨uu2_0,rfl⟩ (.nil))⟩,⟨⟨⟨tt3,rfl⟩,rfl,vh (ks:=["box"]) q3 rfl rfl (by simp) (.cons ⟨uu3_0,rfl⟩ (.nil))⟩,⟨⟨⟨tt4,rfl⟩,rfl,vh (ks:=["box"]) q4 rfl rfl (by simp) (.cons ⟨uu4_0,rfl⟩ (.nil))⟩,⟨⟨⟨tt5,rfl⟩,rfl,vh (ks:=["box","k"]) q5 rfl rfl (by simp) (.cons ⟨uu5_0,rfl⟩ (.cons ⟨uu5_1,rfl⟩ (.nil)))⟩,⟨⟨⟨tt6,rfl⟩,rfl,vh (ks:=["box","k"]) q6 rfl rfl (by simp) (.cons ⟨uu6_0,rfl⟩ (.cons ⟨uu6_1,rfl⟩ (.nil)))⟩,⟨⟨⟨tt7,rfl⟩,rfl,vh (ks:=["box","place","k"]) q7 rfl rfl (by simp) (.cons ⟨uu7_0,rfl⟩ (.cons ⟨uu7_1,rfl⟩ (.cons ⟨uu7_2,rfl⟩ (.nil))))⟩,⟨⟨⟨tt8,rfl⟩,rfl,vh (ks:=["name","i"]) q8 rfl rfl (by simp) (.cons ⟨uu8_0,rfl⟩ (.cons ⟨uu8_1,rfl⟩ (.nil)))⟩,⟨⟨⟨tt9,rfl⟩,rfl,vh (ks:=["name"]) q9 rfl rfl (by simp) (.cons ⟨uu9_0,rfl⟩ (.nil))⟩,True.intro⟩⟩⟩⟩⟩⟩⟩⟩⟩⟩⟩
def YR:Str.ofString "," = tx [44]:=x5
def Ys(p:List Int):List Nat:=wW [44] (p.map jo)
def ZU{p:List Int}(h:p.length<=4)(ho:∀x∈p,x.natAbs<1000000000000000000):(Ys p).length<=80:=by
 have:=qX (c:=[44]) (m:=19) (ws:=p.map jo) λw hw=>by
  obtain⟨i,hi,rfl⟩:=zN.mp hw;exact yZ (ho i hi)
 rw[zj,xE] at this;unfold Ys;lia
def Uu:Part->List Nat
 |.place p=>Ys p
 |.num k=>jo k
def xu7(x:Str)(b:List js)(qs:List Part):List (List Nat):=x.cps.toList::(qs.map Uu++b.map YB)
def xa0(x:Str)(b:List js)(qs:List Part):List Nat:=wW [32] (xu7 x b qs)
def zE0:∀x∈yw,32 ∉ x.cps.toList/\x.cps.toList.length<=5:=x5
def zg4{d:Nat}{q:Part}(h:OkP d q)(hd:d<=4):(Uu q).length<=80:=by
 cases q with
 |place p=>exact ZU (by rw[h.1];exact hd) h.2
 |num k=>exact zm (yZ h.2) w9
def zO1(x:D)(l r:List D):Yx (x::(l++r)) (some (1+(l.length:Int))) none=r:=by
 have e2:HT.sIx (x::(l++r)).length 0 (some ((1+l.length:Nat):Int))=min (1+l.length) (x::(l++r)).length:=HT.Va ..;unfold Yx
 rw[show(some (1+(l.length:Int)))=some ((1+l.length:Nat):Int) by simp,e2]
 have m2:min (1+l.length) (x::(l++r)).length=l.length+1:=by simp;lia
 have e3:HT.sIx (x::(l++r)).length (x::(l++r)).length none=(x::(l++r)).length:=HT.WZ ..;rw[m2,e3,wP,yi,zQ]
 ·simp
 ·rfl
theorem WB{c a:List Nat}:∀{l:List (List Nat)},l≠[]->wW c (a::l)=a++c++wW c l
 |[],h=>absurd rfl h
 |_::_,_=>rfl
theorem UN{c:List Nat}{r:List (List Nat)}(h:r≠[]):∀l:List (List Nat),wW c (l++[wW c r])=wW c (l++r)
 |[]=>by simp[wW]
 |a::l=>by
  rw[wR,wR,WB (by simp),WB (by simp[h]),UN h l]
def zz1{b:List js}(h:b.length<=4)(ho:∀s∈b,Wu s):(zD7 b).length<=172:=by
 have:=qX (c:=[32]) (m:=42) (ws:=b.map YB) λw hw=>by
  obtain⟨s,hs,rfl⟩:=zN.mp hw;exact VZ (ho s hs)
 rw[zj,xE] at this;unfold zD7;lia
def xA0{a:D}{l:List D}{k:D->Prop}(h:k a):Kk (.lst (a::l)) (.int 0) k:=⟨_,_,_,.inl rfl,rfl,at0 ..,h⟩
def xS(l:List Nat):Option (List Int):=vI zS (zX 44 l)
def yN:List Nat × Bool->Option Part
 |(w,true)=>(xS w).map Part.place
 |(w,false)=>(zS w).map Part.num
def vw(w:List Nat):yN (w,false)=(zS w).map Part.num:=rfl
def ve(w:List Nat):yN (w,true)=(xS w).map Part.place:=rfl
def wH(x:Str):List Bool:=if x = "near" then [true,false] else if x = "first" \/ x = "best" then [false] else []
def jv:Bool->Str
 |true => "place"
 |false => "k"
def Vy:∀x∈yw,atS Yu Yv x=some (.tup (.str "box" :: (wH x).map λb=>.str (jv b))):=by
 intro x h;simp only[yw,zi,xl,or_false] at h
 rcases h with rfl |rfl |rfl |rfl |rfl |rfl |rfl |rfl<;>rfl
def UK(x:Str):(wH x).length<=2:=by
 unfold wH
 split
 ·decide
 ·split<;>decide
def Vc{w:List Nat}{b:Bool}{q:Part}(h:yN (w,b)=some q):Zr q=jv b:=by
 cases b
 ·rw [vw] at h
  cases e:zS w with
  |none=>rw[e] at h;cases h
  |some i=>rw[e] at h;cases h;rfl
 ·rw [ve] at h
  cases e:xS w with
  |none=>rw[e] at h;cases h
  |some i=>rw[e] at h;cases h;rfl
theorem jR:∀{ws:List (List Nat)}{ks:List Bool}{qs:List Part},vI yN (ws.zip ks)=some qs->ks.length<=ws.length->qs.map Zr=ks.map jv
 |_,[],qs,h,_=>by
  rw[List.zip_nil_right] at h;cases h;rfl
 |[],_::_,_,_,h=>by simp at h
 | w :: ws, k :: ks, qs, h, hl => by
  rw[List.zip_cons_cons] at h;unfold vI at h
  cases e:yN (w,k) with
  |none=>rw[e] at h;cases h
  | some q =>
   rw[e] at h
   cases e2:vI yN (ws.zip ks) with
   |none=>rw[e2] at h;cases h
   |some rs=>
    rw[e2] at h;cases h;show Zr q::rs.map Zr=jv k::ks.map jv
    rw[Vc e,jR e2 (by simpa using hl)]
def Vb{l:List Nat}{p:List Int}(h:xS l=some p)(hl:l.length<=200000):p.length<=1000000:=by
 have h1:=kz h;have h2:=(wM (c:=44) (zX 44 l)).1;rw[xC] at h2;lia
theorem Xq:∀{zs:List (List Nat × Bool)}{qs:List Part},vI yN zs=some qs->(∀z∈zs,z.1.length<=200000)->∀p,Part.place p∈qs->p.length<=1000000
 |[],qs,h,_,p,hp=>by cases h;cases hp
 | (w, k) :: zs, qs, h, hz, p, hp => by
  unfold vI at h
  cases e:yN (w,k) with
  |none=>rw[e] at h;cases h
  | some q =>
   rw[e] at h
   cases e2:vI yN zs with
   |none=>rw[e2] at h;cases h
   | some rs =>
    rw[e2] at h;cases h
    rcases zi.mp hp with hp |hp
    ·subst hp;cases k
     ·rw [vw] at e
      cases e3:zS w with
      |none=>rw[e3] at e;cases e
      |some i=>rw[e3] at e;cases e
     ·rw [ve] at e
      cases e3:xS w with
      |none=>rw[e3] at e;cases e
      |some i=>
       rw[e3] at e;cases e
       exact Vb e3 (hz (w,true) (by simp))
    ·exact Xq e2 (λz h=>hz z (zh _ h)) p hp
def vb(ws:List (List Nat))(d:Nat):Option (Str × List js × List Part):=
 match ws with
 |[]=>none
 | w0 :: r => if tx w0 ∈ yw then
   (vI yN ((r.take (wH (tx w0)).length).zip (wH (tx w0)))).bind λqs=>(xa (r.drop (wH (tx w0)).length) d).bind λb=>if qs.all (Kl d) then some (tx w0,b,qs) else none
  else none
def yJ(w0:List Nat)(r:List (List Nat))(d:Nat):vb (w0::r) d=if tx w0∈yw then
   (vI yN ((r.take (wH (tx w0)).length).zip (wH (tx w0)))).bind λqs=>(xa (r.drop (wH (tx w0)).length) d).bind λb=>if qs.all (Kl d) then some (tx w0,b,qs) else none
  else none:=rfl
theorem JL{x:Str}:∀{ws:List Str},x ∉ ws->inD (.str x) (ws.map D.str)=false
 |[],_=>rfl
 |w::ws,h=>by
  have h1:¬ x=w:=λz=>h (by simp[z])
  have h2:=JL (ws:=ws) λz=>h (zh _ z);have b1:(w == x)=false:=beq_eq_false_iff_ne.mpr λz=>h1 z.symm;unfold inD at h2 ⊢;rw[zR,yl,h2];simp[eqD,b1]
def zc9{x:Str}{ws:List Str}{neg:Bool}{k:D->Prop}(h:x ∉ ws)(hk:k (.bl neg)):zp5 neg (.str x) (.tup (ws.map D.str)) k:=by
 have e:=JL h
 have f:(ws.map D.str).all jV=true:=by simp[jV]
 refine⟨rfl,_,.inl rfl,f,?_⟩;rw[e]
 cases neg<;>exact hk
def zZ5(x:D)(l:List D)(m:Nat):Yx (x::l) (some 1) (some (1+(m:Int)))=l.take m:=by
 have e1:HT.sIx (x::l).length 0 (some ((1:Nat):Int))=min 1 (x::l).length:=HT.Va ..;have e2:HT.sIx (x::l).length (x::l).length (some ((1+m:Nat):Int))=min (1+m) (x::l).length:=HT.Va ..;unfold Yx
 rw[show(some (1+(m:Int)))=some ((1+m:Nat):Int) by simp,show(some (1:Int))=some ((1:Nat):Int) from rfl,e1,e2]
 have m1:min 1 (x::l).length=1:=by simp
 have m2:min (1+m) (x::l).length-1=min m l.length:=by simp;lia
 rw[m1,m2,wP,drop_zero];exact(List.take_eq_take_min ..).symm
def JX(x:D)(l:List D)(m:Nat):Yx (x::l) (some (1+(m:Int))) none=l.drop m:=by
 have e2:HT.sIx (x::l).length 0 (some ((1+m:Nat):Int))=min (1+m) (x::l).length:=HT.Va ..;unfold Yx
 rw[show(some (1+(m:Int)))=some ((1+m:Nat):Int) by simp,e2]
 have e3:HT.sIx (x::l).length (x::l).length none=(x::l).length:=HT.WZ ..;rw[e3]
 by_cases hm:m<=l.length
 ·have m2 : min (1 + m) (x :: l).length = m + 1 := by simp; lia
  rw[m2,wP]
  exact zQ (by simp)
 ·have m2 : min (1 + m) (x :: l).length = l.length + 1 := by simp; lia
  rw[m2,wP,List.drop_length,List.drop_eq_nil_of_le w6,List.take_nil]
section
variable {P:Program}{w:World}{K:W.Frag}{mg:Str->Option Value}{base:Heap}{f:Addr}{fd:FuncData}
abbrev qS:Stmt:=top 38
abbrev jh:List Str:=["text"]
def WT:FnScope jh qZ2 (zL qS):=⟨rfl,rfl,rfl,x5,rfl,x5,x5⟩
def Xy:("number" :: jh:List Str).Nodup:=x5
def kP:TFX:=λds n Q R=>∃l:List Nat,ds=[.str (tx l)]/\l.length<=200000/\byO (xS l) (λp=>Q (wx p) n) (R n)
def Vo{C:Addr}(T:Blt mg)(F:Fun K "read_place" "read_place" qS f fd)(FX_read_number:FnX P w K mg base "read_number" 1 1 C yL):FnOk P w K mg base (CX1 P w) 2 f fd qZ2 (spX K C 1 kP):=by
 refine Fun.okX (C:=C) F WT (λcdv A0 outer s H E G Z R hr hE=>(zu (zP (wO yO qx T.tuple va (zb (Vi (zu4 hE) (own:=["number"]) (M:=jh) (vi (by rfl)) rfl (vc rfl (kW (ze 0) (zb zJ zf))) (λ_ _ _ _=>(zV (i:=0) Xy rfl (lo rfl) w9)) (λ_ _ _ _=>wS) (λ_ _ _ _=>(kb FX_read_number zf9 (hr.mono w9) rfl (zb (ze 0) zf)))) zf))))) ?_
 rintro ds n Q R hl ⟨l,rfl,hlen,q⟩;have hs:=wM (c:=44) (zX 44 l);rw[xC] at hs;simp[xj,YR];rw[yP]
 refine⟨by rw[xQ];simp,yz (by rw[xQ];lia),yz (by simp;lia),?_⟩
 rw[zF]
 refine jX (λw=>D.str (tx w)) zS D.int (zX 44 l) (yz w6) (Rf:=R n) (λw hw Q2 h1 h2=>?_) (λh=>?_) λys h=>?_
 ·simp;refine⟨w,rfl,zm (hs.2 w hw) hlen,?_⟩
  cases e:zS w with
  |none=>exact h2 e
  |some i=>exact h1 i e
 ·have e:xS l=none:=h;rw[e] at q;exact q
 ·have e:xS l=some ys:=h;rw[e] at q;simp only[Zh];exact q
abbrev ZJ:Stmt:=top 39
abbrev Yj:List Str:=["text","d","words","word","kinds","begin","parts","ask"]
def vp:FnScope Yj qZ4 (zL ZJ):=⟨rfl,rfl,rfl,x5,rfl,x5,x5⟩
def Zm:("part" :: "kind" :: Yj:List Str).Nodup:=x5
def ZA:TFX:=λds n Q R=>(∃(l:List Nat) (d:Nat),ds=[.str (tx l),.int (d:Int)]/\l.length<=200000/\1<=d/\d<=4/\byO (vb (zX 32 l) d) (λa=>Q (YF a.1 a.2.1 a.2.2) n) (R n))\/∃x y:D,ds=[x,y]/\xR x=true/\vB x=true/\Yw "str" x=false/\R n
def KN{C:Addr}(T:Blt mg)(CN_NoText:ClsX K mg "NoText" C)(G_BOX_WORDS:zp7 K mg "BOX_WORDS" (.tup (yw.map D.str)))(G_PARTS:xa4 w K mg "PARTS" Yu Yv)(F:Fun K "read_ask" "read_ask" ZJ f fd)(FX_parted:FnX P w K mg base "parted" 1 2 C qK)(FX_read_number:FnX P w K mg base "read_number" 1 1 C yL)(FX_read_place:FnX P w K mg base "read_place" 2 1 C kP)(FX_read_spans:FnX P w K mg base "read_spans" 5 2 C kO)(F_is_ask:Fn P w K mg base "is_ask" 7 2 WO):FnOk P w K mg base (CX1 P w) 8 f fd qZ4 (spX K C 2 ZA):=by
 refine Fun.okX (C:=C) F vp (λcdv A0 outer s H E G Z R hr hE=>(zq (xZ (i:=2) vp.nd rfl (lo rfl) (kb FX_parted (YC hE) (hr.mono w9) rfl (zb (ze 0) (zb zJ zf))))
  (zq (xZ (i:=3) vp.nd rfl (lo rfl) (yk wb yn (ze 2) zK (λ_ _=>rfl)))
  (zq (wt (xg kc (KD (neg:=true)) (ze 3) (Xp G_BOX_WORDS rfl) (by with_unfolding_all rfl)) (zu (vg CN_NoText (xok hE))) xt)
  (zq (xZ (i:=4) vp.nd rfl (lo rfl) (zf4 rfl (zf6 G_PARTS rfl (ze 3) (λ_ _=>rfl)) (wT zK) yr))
  (zq (xZ (i:=5) vp.nd rfl (lo rfl) (qB zK (xq we ko T.len kr (zb (ze 4) zf))))
  (zq (Ur (i:=6) (zu4 hE) vp.nd rfl (lo rfl) (own:=["part","kind"]) (M:=Yj) (vi (by rfl)) rfl (Vg rfl T.zip (zb (JG rfl (ze 2) (wT zK) (wT (ze 5))) (zb (ze 4) zf))) (λ_ _ _ _=>(vE (k:=2) rfl rfl (xo (zV (i:=0) Zm rfl (lo rfl) w9) (xo (zV (i:=1) Zm rfl (lo rfl) w9) yH)))) (λ_ _ _ _=>wS) (λ_ _ _ _=>(qW (xg km kj (ze 1) zJ (xz _)) (kb FX_read_place zf9 (hr.mono w9) rfl (zb (ze 0) zf)) (kb FX_read_number zf9 (hr.mono w9) rfl (zb (ze 0) zf)))))
  (zq (xZ (i:=7) vp.nd rfl (lo rfl) (vA zu7 zG2 (yK (zb (ze 3) (zb (kb FX_read_spans (YC hE) (hr.mono w9) rfl (zb (JG rfl (ze 2) (wT (ze 5)) yr) (zb (ze 1) zf))) zf))) (wO yO qx T.tuple va (zb (ze 6) zf))))
  (zq (wt (vq (wG (xX F_is_ask (hr.mono w9) rfl (zb (ze 7) (zb (ze 1) zf))))) (zu (vg CN_NoText (xok hE))) xt)
  (zu (zP (ze 7)))))))))))) ?_
 rintro ds n Q R hl (⟨l,d,rfl,hlen,hd1,hd4,q⟩ |⟨x,y,rfl,hn,h1,h2,q⟩)
 ·have hs := wM (c := 32) (zX 32 l);rw[xC] at hs
  have hne:zX 32 l≠[]:=λz=>by
   obtain⟨ps,e,h1,_⟩:=vo 32 l;rw[yP,z] at e;exact h1 (wv.mp e.symm)
  have hin:∀(x:Str),x∈yw->∀k:D->Prop,k (.bl false)->zp5 true (.str x) (.tup (yw.map D.str)) k:=λx h k hk=>Up h hk;have hno:∀(x:Str),x ∉ yw->∀k:D->Prop,k (.bl true)->zp5 true (.str x) (.tup (yw.map D.str)) k:=λx h k hk=>zc9 h hk;generalize yw.map D.str=W at *;have nw:xR (D.tup W)=true:=id rfl;simp[xj,yU,nw];refine .inl ⟨l,32,rfl,hlen,?_⟩;generalize zX 32 l=ws at q hs hne ⊢
  cases ws with
  |nil=>exact absurd rfl hne
  | cons w0 r =>
   rw[zR];have nl:xR (.lst (D.str (tx w0)::r.map λw=>D.str (tx w)))=true:=id rfl;have nx:xR (.str (tx w0))=true:=id rfl;refine jd nl (xA0 (jd nx ?_))
   by_cases hw:tx w0∈yw
   ·have ec : Yx (D.str (Str.ofString "box") :: (wH (tx w0)).map λb => D.str (jv b)) (some 1) none = (wH (tx w0)).map λb => D.str (jv b) := by
     have:=JX (D.str (Str.ofString "box")) ((wH (tx w0)).map λb=>D.str (jv b)) 0
     simpa using this
    refine hin _ hw _ ⟨false,rfl,?_⟩;dsimp only
    rw[if_neg w9]
    refine jd nx ⟨tx w0,rfl,_,Vy _ hw,_,rfl,?_⟩;dsimp only;rw[ec,zj];refine jd nl ⟨_,.inl rfl,?_⟩;dsimp only;rw[zZ5];have hkl:=UK (tx w0);have hq:byO (vb (w0::r) d) (λa=>Q (YF a.1 a.2.1 a.2.2) n) (R n):=q;rw[yJ] at hq;rw[if_pos hw] at hq;generalize hks:wH (tx w0)=ks at *
    have ez:VM ((r.map λw=>D.str (tx w)).take ks.length) (ks.map λb=>D.str (jv b))=((r.take ks.length).zip ks).map λz=>D.tup [.str (tx z.1),.str (jv z.2)]:=by
     unfold VM;rw[<- map_take,List.zipWith_map,List.zip,List.map_zipWith]
    rw[ez]
    refine jX (λz:List Nat × Bool=>D.tup [.str (tx z.1),.str (jv z.2)]) yN yT ((r.take ks.length).zip ks) (yz (by rw[length_zip];lia)) (Rf:=R n) (λz hz Q2 h1 h2=>?_) (λh=>?_) λqs h=>?_
    ·obtain ⟨w, k⟩ := z;have hwl:w.length<=200000:=zm (hs.2 w (zh _ (List.mem_of_mem_take (ye hz).1))) hlen
     cases k with
     |true=>
      simp[jv];refine⟨w,rfl,hwl,?_⟩
      cases e:xS w with
      |none=>exact h2 (by rw[ve,e];rfl)
      |some p=>exact h1 (.place p) (by rw[ve,e];rfl)
     |false=>
      have k2:¬ (Str.ofString "k" = Str.ofString "place"):=x5
      simp[jv,k2];refine⟨w,rfl,hwl,?_⟩
      cases e:zS w with
      |none=>exact h2 (by rw[vw,e];rfl)
      |some i=>exact h1 (.num i) (by rw[vw,e];rfl)
    ·rw[h] at hq;exact hq
    ·rw [h] at hq;refine jd nx (jd nl ⟨_,.inl rfl,?_⟩);dsimp only;rw[JX,<- map_drop];refine⟨r.drop ks.length,d,rfl,hd1,hd4,?_,λw hw=>zm (hs.2 w (zh _ (List.mem_of_mem_drop hw))) hlen,?_⟩
     ·have:=hs.1;simp only[zr,wo] at this ⊢;lia
     cases eb:xa (r.drop ks.length) d with
     |none=>
      rw[eb] at hq;exact hq
     | some b =>
      rw[eb] at hq;rw[kA]
      have hbl:b.length=d:=by
       unfold xa at eb
       split at eb
       ·rename_i hz;cases eb;rw[hz.1,hz.2]
       ·cases eb
      have hkr:ks.length<=(r.take ks.length).length:=by
       unfold xa at eb
       split at eb
       ·rename_i hz;have:=hz.2;rw[wo] at this;rw[wB];lia
       ·cases eb
      have hql:qs.length<=2:=by
       have:=kz h;rw[length_zip] at this;lia
      have ha:AskF d (tx w0) b qs:=⟨hw,by
       have e1:(ks.map λb=>D.str (jv b))=qs.map λq=>D.str (Zr q):=by
        have e2:=congrArg (List.map D.str) (jR h hkr);rw[zF,zF] at e2;exact e2.symm
       rw[Vy _ hw,hks,e1],hbl,hql,Xq h λz hz=>zm (hs.2 z.1 (zh _ (List.mem_of_mem_take (ye hz).1))) hlen⟩
      have no:xR (YF (tx w0) b qs)=true:=id rfl;refine jd rfl ?_;simp only[Zh]
      refine⟨_,_,rfl,rfl,yz (by simp;lia),?_⟩
      refine jd no ⟨d,tx w0,b,qs,rfl,hd1,hd4,ha,?_⟩
      have hq':byO (if qs.all (Kl d)=true then some (tx w0,b,qs) else none) (λa=>Q (YF a.1 a.2.1 a.2.2) n) (R n):=hq
      cases hok:qs.all (Kl d) with
      |false=>
       rw[hok] at hq';exact⟨false,rfl,hq'⟩
      |true=>
       rw[hok] at hq';refine⟨true,rfl,?_⟩;dsimp only;rw[if_pos rfl];exact jd no hq'
   ·refine hno _ hw _ ⟨true,rfl,?_⟩;dsimp only;rw[if_pos rfl];have hq:byO (vb (w0::r) d) (λa=>Q (YF a.1 a.2.1 a.2.2) n) (R n):=q;rw[yJ] at hq;rw[if_neg hw] at hq;exact hq
 ·simp[xj,hn,yU];exact .inr ⟨x,_,rfl,hn,h1,h2,q⟩
end
def Wv(o:Option Int):D:=match o with |some i=>.int i |none=>.non
def zP3(o:Option End):D:=match o with |some e=>.tup [.bl true,vK e] |none=>.tup [.bl false,.non]
def QX(o:Option (List js)):D:=match o with |some b=>wX b |none=>.non
section
variable {P:Program}{w:World}{K:W.Frag}{mg:Str->Option Value}{base:Heap}{f:Addr}{fd:FuncData}
abbrev vD:Stmt:=top 55
abbrev Zv:List Str:=["_law_word","_law_figures"]
def kD:FnScope Zv qZ5 (zL vD):=⟨rfl,rfl,rfl,x5,rfl,x5,x5⟩
def Wk:TF:=λds n Q=>∃l:List Nat,ds=[.str (tx l)]/\l.length<=200000/\Short l/\Q (Wv (zS l)) n
def zK8(T:Blt mg)(F:Fun K "_law_read_number" "_law_read_number" vD f fd):FnOk P w K mg base CX0 1 f fd qZ5 (spD K 1 Wk):=by
 refine Fun.okD F kD (λ_ _ _ s H E G Z hr=>(zq (xZ (i:=1) kD.nd rfl (lo rfl) (qh (ze 0) (wT (wO jc XJ T.int jC (zb (vJ km kj (qh (ze 0) yr (wT zK)) zJ (xz _)) zf))) yr))
  (zq (wt (PWD.pt (vZ (xg km kj (ze 1) zJ (xz _)) (vZ (xg Xs Xj (zu0 (ze 1) (zb zJ zf)) zJ (xz _)) (vQ (PWD.pt (qb (xg km kj (yk wb zR3 (ze 1) zK (λ_ _=>rfl)) zJ (xz _)) (kT (xg Xs Xj (ze 0) zJ (xz _))))))))) (zu (zP wA)) xt)
  (zu (zP (wO Zu zn6 T.int jC (zb (ze 0) zf))))))) ?_
 rintro ds n Q hl ⟨l,rfl,hlen,hsh,q⟩
 have zl:=yz (n:=l.length) w6
 with_reducible generalize hS:zp4 (sIf (bOr _ _) _ _) _=S
 have hfl:(ke l).length<=l.length:=by
  unfold ke
  split
  ·simp
  ·exact zk _
 have i0:Str.ofString "" = tx []:=Zs
 have main:∀F:EndsD,F.rt=Q->S F [some (.str (tx l)),some (.str (tx (ke l)))] n:=λF hF=>by
  subst hS
  by_cases h0:ke l=[]
  ·have hq : zS l = none := by unfold zS; rw [if_pos (.inl h0)]
   rw[hq] at q;simp[i0,h0,hF];exact q
  have ne:¬ (tx (ke l)=tx []):=by rw[qE];exact h0
  simp[i0,QZ,zC7,ne]
  refine⟨yz (by rw[xQ];lia),?_⟩
  cases hall:(ke l).all wc
  ·have hq : zS l = none := by unfold zS; rw [if_pos (.inr (.inl hall))]
   rw[hq] at q
   have:¬ (Txt.stripChars (tx (ke l)) (tx figL)=tx []):=λz=>by rw[(Wl _).mp z] at hall;cases hall
   simp[this,hF];exact q
  have es:=(Wl _).mpr hall;simp[es]
  have hlen2:l.length<=19:=by
   have h18:(ke l).length<=18:=by
    by_cases hn:l.head?=some 45
    ·exact hsh [45] (ke l) [] (by rw[xv];exact vS hn) hall
    ·exact hsh [] (ke l) [] (by rw[xv,vz hn];rfl) hall
   by_cases hn:l.head?=some 45
   ·have:=congrArg List.length (vS hn);simp at this;lia
   ·rw[vz hn] at h18;lia
  have fin:((ke l).head?=some 48->l=[48])->zX4 [D.str (tx l)] λd=>F.rt d n:=λhz=>by
   have hq:∃i,zS l=some i:=by
    unfold zS;rw[if_neg]
    ·exact⟨_,rfl⟩
    rintro(z |z |⟨z,y⟩)
    ·exact h0 z
    ·rw[hall] at z;cases z
    ·exact y (hz z)
   obtain⟨i,hq⟩:=hq;rw[hq] at q
   exact⟨_,i,rfl,by rw[xQ];lia,JQ hq w6,by rw[hF];exact q⟩
  cases hf:ke l with
  |nil=>exact absurd hf h0
  | cons c r =>
   refine⟨yz (by rw[xQ,<- hf];lia),c,by show atI (c::r) 0=some c;simp[atI,ixN],?_⟩
   rw[hf] at fin
   by_cases hc:c=48
   ·subst hc;rw[if_pos (show(⟨#[48]⟩:Str)=tx [48] from rfl)]
    by_cases hz:l=[48]
    ·rw [if_pos (by rw [hz])]
     exact fin λ_=>hz
    ·rw [if_neg (by rw [qE]; exact hz)]
     have hq:zS l=none:=by unfold zS;rw[if_pos (.inr (.inr ⟨by rw[hf];rfl,hz⟩))]
     rw[hq] at q;rw[hF];exact q
   ·rw [if_neg (by show ¬ (tx [c] = tx [48]); rw [qE]; simpa using hc)]
    exact fin λz=>absurd (by simpa using z) hc
 simp[xj,vn,YL]
 refine⟨by rw[xQ,wB];lia,?_⟩
 by_cases hn:l.head?=some 45
 ·have el := vS hn
  have e1:tx (l.take 1)=tx [45]:=by rw[el];rfl
  have es:Txt.slice (tx l) (some 1) none=tx (ke l):=by rw[Xa,el];rfl
  rw[if_pos e1,es]
  exact⟨by rw[xQ];lia,main _ rfl⟩
 ·have el := vz hn
  have e1:¬ (tx (l.take 1)=tx [45]):=by
   rw[qE];intro z
   cases l with
   |nil=>cases z
   |cons c r=>exact hn (by simpa using z)
  have es:Txt.slice (tx l) (some 0) none=tx l:=zb4 l (m:=0) rfl (Nat.zero_le _);rw[if_neg e1,es];rw[el] at main
  exact⟨by rw[xQ];lia,main _ rfl⟩
abbrev kE:Stmt:=top 56
abbrev XV:List Str:=["_law_word","_law_low","_law_sign","_law_rest","_law_number"]
def vk:FnScope XV ["_law_word","_law_low"] (zL kE):=⟨rfl,rfl,rfl,x5,rfl,x5,x5⟩
def za4:TF:=λds n Q=>∃(l:List Nat) (low:Bool),ds=[.str (tx l),.bl low]/\l.length<=200000/\Short l/\Q (zP3 (if low then ki l else vm l)) n
def zC0{sg c1 c2:List Nat}{k:D->Prop}(h:k (.bl (decide (sg≠c1/\sg≠c2)))):zp5 true (.str (tx sg)) (.lst [.str (tx c1),.str (tx c2)]) k:=by
 obtain⟨h1,es,h2,h3⟩:=zW4 (k:=k) h
 rcases h2 with h2 |h2
 ·cases h2;exact⟨h1,_,.inr rfl,h3⟩
 ·cases h2
def zz8{sg c1 c2:List Nat}{k:D->Prop}(h:k (.bl (decide (sg=c1\/sg=c2)))):zp5 false (.str (tx sg)) (.tup [.str (tx c1),.str (tx c2)]) k:=by
 refine⟨rfl,_,.inl rfl,rfl,?_⟩
 by_cases h1:sg=c1
 ·subst h1;simp[inD,eqD] at h ⊢;exact h
 ·by_cases h2 : sg = c2
  ·subst h2;simp[inD,eqD] at h ⊢;exact h
  ·have n1 : ¬ tx c1 = tx sg := by rw [qE]; exact λz => h1 z.symm
   have n2:¬ tx c2=tx sg:=by rw[qE];exact λz=>h2 z.symm
   have b1:(tx c1 == tx sg)=false:=beq_eq_false_iff_ne.mpr n1;have b2:(tx c2 == tx sg)=false:=beq_eq_false_iff_ne.mpr n2;simp[inD,eqD,h1,h2,b1,b2] at h ⊢;exact h
def zK9(F:Fun K "_law_read_end" "_law_read_end" kE f fd)(Y_read_number:Fn P w K mg base "_law_read_number" 1 1 Wk):FnOk P w K mg base CX0 2 f fd ["_law_word","_law_low"] (spD K 2 za4):=by
 refine Fun.okD F vk (λ_ _ _ s H E G Z hr=>(zq (wt (xg km kj (ze 0) zJ (xz _)) (zu (zP (yK (zb Zj (zb wA zf))))) xt)
  (zq (qr (m:=5) (qW (wG (ze 1)) (yK (zb (qh (ze 0) yr (wT zK)) (zb (qh (ze 0) (wT zK) yr) zf))) (yK (zb (qh (ze 0) (wT (Xn zK)) yr) (zb (qh (ze 0) yr (wT (Xn zK))) zf)))) (vE (k:=2) rfl rfl (xo (zV (i:=2) vk.nd rfl (lo rfl) w9) (xo (zV (i:=3) vk.nd rfl (lo rfl) w9) yH))))
  (zq (xZ (i:=4) vk.nd rfl (lo rfl) (xX Y_read_number (hr.mono w9) rfl (zb (ze 3) zf)))
  (zq (wt (PWD.pt (vZ (xg kI kH (ze 4) wA (xz _)) (vQ (xg kc (KD (neg:=true)) (ze 2) (qW (wG (ze 1)) (ka (zb zJ (zb zJ zf))) (ka (zb zJ (zb zJ zf)))) (by with_unfolding_all rfl))))) (zu (zP (yK (zb Zj (zb wA zf))))) xt)
  (zu (zP (yK (zb Zj (zb (yK (zb (ze 4) (zb (vJ Uw (KD (neg:=false)) (ze 2) (yK (zb zJ (zb zJ zf))) (by with_unfolding_all rfl)) zf))) zf)))))))))) ?_
 rintro ds n Q hl ⟨l,low,rfl,hlen,hsh,q⟩
 have zl:=yz (n:=l.length) w6
 by_cases h0:l=[45]
 ·subst h0
  have e:∀low:Bool,(if low then ki [45] else vm [45])=some none:=w9
  rw[e] at q;simp[xj,vn];exact q
 have ne:¬ (tx l=tx [45]):=by rw[qE];exact h0
 cases low
 ·simp [xj, vn, ne, zb5, Ks, VX, Jx, xQ]
  refine⟨w6,w6,l.dropLast,rfl,by simp;lia,by rw[List.dropLast_eq_take];exact hsh.take _,?_⟩
  have q':Q (zP3 (vm l)) n:=q;unfold vm zp6 at q';rw[if_neg h0] at q'
  cases hr:zS l.dropLast with
  |none=>
   rw[hr] at q';simp[Wv,yt]
   split at q'<;>exact q'
  | some i =>
   rw[hr] at q';simp[Wv,yt];refine zC0 ?_
   by_cases hb:l.drop (l.length-1)≠[93]/\l.drop (l.length-1)≠[41]
   ·rw[if_pos hb] at q';rw[xm hb];simp;exact q'
   ·rw [if_neg hb] at q';rw[zO hb];simp[zb0];refine zz8 ?_
    have e:decide (l.drop (l.length-1)=[91]\/l.drop (l.length-1)=[93])=decide (l.drop (l.length-1)=[93]):=decide_eq_decide.mpr ⟨λz=>z.elim (λy=>absurd ⟨by rw[y];decide,by rw[y];decide⟩ hb) id,.inr⟩
    rw[e];exact q'
 ·simp [xj, vn, ne, YL, Xa, zb0, zr5, xQ]
  refine⟨w6,w6,l.drop 1,by rw[drop_one],by simp;lia,hsh.drop _,?_⟩
  have q':Q (zP3 (ki l)) n:=q;unfold ki zp6 at q';rw[if_neg h0] at q'
  cases hr:zS (l.drop 1) with
  |none=>
   rw[hr] at q';simp[Wv,yt]
   split at q'<;>exact q'
  | some i =>
   rw[hr] at q';simp[Wv,yt];refine zC0 ?_
   by_cases hb:l.take 1≠[91]/\l.take 1≠[40]
   ·rw[if_pos hb] at q';rw[xm hb];simp;exact q'
   ·rw [if_neg hb] at q';rw[zO hb];simp[VX];refine zz8 ?_
    have e:decide (l.take 1=[91]\/l.take 1=[93])=decide (l.take 1=[91]):=decide_eq_decide.mpr ⟨λz=>z.elim id λy=>absurd ⟨by rw[y];decide,by rw[y];decide⟩ hb,.inl⟩
    rw[e];exact q'
abbrev kF:Stmt:=top 57
abbrev XW:List Str:=["_law_words","_law_d","_law_spans","_law_word","_law_at","_law_low","_law_high"]
def yQ:FnScope XW ["_law_words","_law_d"] (zL kF):=⟨rfl,rfl,rfl,x5,rfl,x5,x5⟩
def Jt:TF:=λds n Q=>∃(ws:List (List Nat)) (d:Nat),ds=[.lst (ws.map λw=>D.str (tx w)),.int (d:Int)]/\ws.length<=200001/\(∀w∈ws,w.length<=200000/\Short w)/\Q (QX (xa ws d)) n
structure JLb(ws:List (List Nat))(d n i:Nat)(rho:Rho)(m:Nat):Prop where
 e:m=n
 s:∀w∈ws.take i,∃s,xI w=some s
 r:∃a b c e:Option D,rho=[some (.lst (ws.map λw=>D.str (tx w))),some (.int (d:Int)),some (.own (((ws.take i).filterMap xI).map kn)),a,b,c,e]
def zL1(T:Blt mg)(F:Fun K "_law_read_box" "_law_read_box" kF f fd)(Y_read_end:Fn P w K mg base "_law_read_end" 2 2 za4):FnOk P w K mg base CX0 3 f fd ["_law_words","_law_d"] (spD K 2 Jt):=by
 refine Fun.okD F yQ (λ_ _ _ s H E G Z hr=>(zq (Ve (i:=2) yQ.nd rfl (lo rfl) zf)
  (zq (ZT (m:=7) PassesOwn.never rfl (vc rfl (ze 0)) (zV (i:=3) yQ.nd rfl (lo rfl) w9)
  (zq (xZ (i:=4) yQ.nd rfl (lo rfl) (zJ5 (ze 3) (zb zJ zf)))
  (zq (wt (xg zu6 zs2 (ze 4) zK (xz _)) (zu (zP wA)) xt)
  (zq (JD (i:=5) (j:=6) rfl yQ.nd rfl rfl w9 rfl rfl (zb (xX Y_read_end (hr.mono w9) rfl (zb (qh (ze 3) yr (wT (ze 4))) (zb Zj zf))) (zb (xX Y_read_end (hr.mono w9) rfl (zb (qh (ze 3) (wT (qB (ze 4) zK)) yr) (zb Zj zf))) zf)))
  (zq (wt (PWD.pt (vZ (vq (wG (yk wb yn (ze 5) zK (λ_ _=>rfl)))) (vQ (vq (wG (yk wb yn (ze 6) zK (λ_ _=>rfl))))))) (zu (zP wA)) xt)
  (zu (jm (i:=2) (zb (yK (zb (yk wb yn (ze 5) zK (λ_ _=>rfl)) (zb (yk wb yn (ze 6) zK (λ_ _=>rfl)) zf))) zf) rfl)))))))
  (zu (Vf 2 (zP (qW (xg km kj (xq we ko T.len kr (zb (ze 2) zf)) (ze 1) (xz _)) (wO yO qx T.tuple va (zb (ze 2) zf)) wA))))))) ?_
 rintro ds n Q hl ⟨ws,d,rfl,hlen,hw,q⟩;simp[xj]
 refine⟨JLb ws d n,⟨rfl,λw hw=>by simp at hw,_,_,_,_,rfl⟩,?_,?_⟩
 ·rintro j dd rho m' he ⟨rfl, hs, a1, a2, a3, a4, rfl⟩;rw[xn] at he
  cases hc:ws[j]? with
  |none=>rw[hc] at he;cases he
  | some w =>
   rw[hc] at he;cases he;have hm:=xb hc;obtain⟨hwl,hws⟩:=hw w hm
   have no:xI w=none->Q .non m':=λz=>by
    have:xa ws d=none:=by
     unfold xa;rw[if_neg];exact λy=>XG hm z y.1
    rw[this] at q;exact q
   have zl:=yz (n:=w.length) w6
   cases hcut:VN w with
   |none=>
    simp[Yb,zl7 hcut]
    exact no (by unfold xI;rw[hcut])
   | some p =>
    obtain⟨a,b⟩:=p;obtain⟨el,_⟩:=kK hcut
    have hz:a.length+b.length+2=w.length:=by rw[el];simp;lia
    have e1:Txt.slice (tx w) none (some (a.length:Int))=tx a:=by rw[xe7 w rfl w6,el];simp
    have e2:Txt.slice (tx w) (some ((a.length:Int)+2)) none=tx b:=by rw[zb4 w (m:=a.length+2) w6 w6,el];simp
    have sa:Short a:=by
     have:=hws.take a.length;rw[el] at this
     simpa using this
    have sb:Short b:=by
     have:=hws.drop (a.length+2);rw[el] at this
     simpa using this
    have er:xI w=match ki a,vm b with
     |some x,some y=>some (x,y)
     |_,_=>none:=by
     unfold xI;rw[hcut]
     try rfl
    have hL:((ws.take j).filterMap xI).length<1000000:=wY (zm (List.length_filterMap_le ..) (List.length_take_le ..)) (by have:=(zM.mp hc).1;lia)
    simp[Yb,zl6 hcut,e1,e2]
    rw[if_neg w6]
    refine⟨yz (by rw[xQ];lia),a,true,rfl,w6,sa,yz (by rw[xQ];lia),b,false,rfl,w6,sb,?_⟩
    rw[if_pos rfl,if_neg w9]
    cases ha:ki a with
    |none=>
     simp[zP3]
     exact no (by rw[er,ha])
    | some x =>
     cases hb:vm b with
     |none=>
      simp[zP3]
      exact no (by rw[er,ha,hb])
     | some y =>
      have ex:xI w=some (x,y):=by rw[er,ha,hb]
      simp[zP3]
      refine⟨Nat.lt_trans hL w9,rfl,λv hv=>?_,some (.str (tx w)),some (.int (a.length:Int)),some (.tup [.bl true,vK x]),some (.tup [.bl true,vK y]),?_⟩
      ·rw [xN, hc] at hv
       rcases xU.mp hv with hv |hv
       ·exact hs v hv
       ·have : v = w := by simpa using hv
        exact⟨_,by rw[this];exact ex⟩
      ·rw[xN,hc];simp[ex];rfl
 ·rintro rho m' ⟨rfl, hs, a1, a2, a3, a4, rfl⟩
  have et:ws.take (ws.map λw=>D.str (tx w)).length=ws:=zQ (by rw[zj];exact zk _)
  rw[et] at hs ⊢;have hfl:=UT hs;simp[hfl]
  by_cases hd:ws.length=d
  ·have : xa ws d = some (ws.filterMap xI) := by unfold xa; rw [if_pos ⟨hfl, hd⟩]
   rw[this] at q
   rw[if_pos w6]
   exact q
  ·have : xa ws d = none := by unfold xa; rw [if_neg λz => hd z.2]
   rw[this] at q
   rw[if_neg w6]
   exact q
end
def Zt(o:Option Int):Option Int:=match o with |some i=>if 0<=i then some i else none |none=>none
def Ws(d:Nat)(o:Option (List Int)):Option (List Int):=match o with |some p=>if p.length=d then some p else none |none=>none
def Ut(o:Option (List Int)):D:=match o with |some p=>wx p |none=>.non
def jW(i:Int):Zt (some i)=if 0<=i then some i else none:=rfl
def qt(d:Nat)(p:List Int):Ws d (some p)=if p.length=d then some p else none:=rfl
theorem jp{α β:Type}{f:α->Option β}:∀{xs:List α}{ys:List β},vI f xs=some ys->xs.map f=ys.map some
 |[],ys,h=>by cases h;rfl
 | a :: r, ys, h => by
  unfold vI at h
  cases e:f a with
  |none=>rw[e] at h;cases h
  | some b =>
   rw[e] at h
   cases e2:vI f r with
   |none=>rw[e2] at h;cases h
   |some bs=>
    rw[e2] at h;cases h;rw[zR,e,jp e2];rfl
theorem UF{α β:Type}{f:α->Option β}:∀{xs:List α},(∀x∈xs,f x≠none)->∃ys,vI f xs=some ys
 |[],_=>⟨[],rfl⟩
 |a::r,h=>by
  obtain⟨ys,e⟩:=UF (xs:=r) λx hx=>h x (zh _ hx)
  cases q:f a with
  |none=>exact absurd q (h a (by simp))
  |some b=>exact⟨b::ys,by unfold vI;rw[q,e];rfl⟩
def zW3(ws:List (List Nat)):inD .non (ws.map λw=>Wv (zS w))=(vI zS ws).isNone:=by
 cases e:vI zS ws with
 | some ys =>
  have h:=jp e;unfold inD;rw[List.any_eq_false.mpr]
  ·rfl
  ·intro x hx;obtain⟨w,hw,rfl⟩:=zN.mp hx
   have h2:zS w∈ys.map some:=by rw[<- h];exact List.mem_map_of_mem hw
   obtain⟨i,_,e2⟩:=zN.mp h2;rw[<- e2];simp[Wv,eqD]
 | none =>
  unfold inD;rw[List.any_eq_true.mpr]
  ·rfl
  ·apply Classical.byContradiction;intro hn
   obtain⟨ys,e2⟩:=UF (f:=zS) (xs:=ws) λw hw z=>hn ⟨.non,zN.mpr ⟨w,hw,by rw[z];rfl⟩,by simp[eqD]⟩
   rw[e] at e2;cases e2
def zl5(ws:List (List Nat)):(ws.map λw=>Wv (zS w)).all jV=true:=zZ.mpr λd hd=>by
 obtain⟨w,_,rfl⟩:=zN.mp hd
 cases zS w<;>rfl
section
variable {P:Program}{w:World}{K:W.Frag}{mg:Str->Option Value}{base:Heap}{f:Addr}{fd:FuncData}
abbrev vN:Stmt:=top 58
abbrev vU:List Str:=["_law_word","_law_d","_law_numbers"]
def kR:FnScope vU ["_law_word","_law_d"] (zL vN):=⟨rfl,rfl,rfl,x5,rfl,x5,x5⟩
def jt:("_law_part" :: vU:List Str).Nodup:=x5
def YH:TF:=λds n Q=>∃(l:List Nat) (d:Nat),ds=[.str (tx l),.int (d:Int)]/\l.length<=200000/\Short l/\Q (Ut (Ws d (xS l))) n
def zh2(T:Blt mg)(F:Fun K "_law_read_place" "_law_read_place" vN f fd)(Y_read_number:Fn P w K mg base "_law_read_number" 1 1 Wk):FnOk P w K mg base CX0 2 f fd ["_law_word","_law_d"] (spD K 2 YH):=by
 refine Fun.okD F kR (λ_ _ _ s H E G Z hr=>(zq (jQ (i:=2) kR.nd rfl (lo rfl) (own:=["_law_part"]) (M:=vU) (vi (by rfl)) rfl (vc rfl (kW (ze 0) (zb zJ zf))) (λ_ _ _ _=>(zV (i:=0) jt rfl (lo rfl) w9)) (λ_ _ _ _=>wS) (λ_ _ _ _=>(xX Y_read_number (hr.mono w9) rfl (zb (ze 0) zf))))
  (zu (zP (qW (PWD.pt (qb (xg km kj (xq we ko T.len kr (zb (ze 2) zf)) (ze 1) (xz _)) (kT (xg kc (KD (neg:=true)) wA (ze 2) (by with_unfolding_all rfl))))) (wO yO qx T.tuple va (zb (ze 2) zf)) wA))))) ?_
 rintro ds n Q hl ⟨l,d,rfl,hlen,hsh,q⟩;have hs:=wM (c:=44) (zX 44 l);rw[xC] at hs;simp[xj,YR];rw[yP]
 refine⟨by rw[xQ];simp,yz (by rw[xQ];lia),yz (by simp;lia),?_⟩
 rw[zF]
 refine yc (λw=>D.str (tx w)) (λw=>Wv (zS w)) (zX 44 l) (yz w6) (λw hw R hR=>?_) ?_
 ·simp;refine⟨w,rfl,zm (hs.2 w hw) hlen,?_,hR⟩;obtain⟨a,b,e⟩:=jq (c:=[44]) hw;rw[xC] at e;rw[e] at hsh;exact hsh.mid
 simp
 by_cases hd:(zX 44 l).length=d
 ·rw [if_pos w6]
  refine⟨rfl,_,.inr rfl,zl5 _,?_⟩;rw[zW3]
  cases e:vI zS (zX 44 l) with
  |none=>
   have er:xS l=none:=e;rw[er] at q;simp;exact q
  |some p=>
   have er:xS l=some p:=e;have hp:=kz e;have em:=congrArg (List.map Wv) (jp e);rw[zF,zF] at em;have em':((zX 44 l).map λw=>Wv (zS w))=p.map D.int:=em;rw[er] at q;rw[qt] at q
   rw[if_pos w6] at q
   simp;rw[em'];exact q
 ·rw [if_neg w6]
  cases e:vI zS (zX 44 l) with
  |none=>
   have er:xS l=none:=e;rw[er] at q;exact q
  |some p=>
   have er:xS l=some p:=e;have hp:=kz e;rw[er] at q;rw[qt] at q
   rw[if_neg w6] at q
   exact q
abbrev vP:Stmt:=top 59
abbrev Yl:List Str:=["_law_word","_law_number"]
def kS:FnScope Yl qZ5 (zL vP):=⟨rfl,rfl,rfl,x5,rfl,x5,x5⟩
def YI:TF:=λds n Q=>∃l:List Nat,ds=[.str (tx l)]/\l.length<=200000/\Short l/\Q (Wv (Zt (zS l))) n
def zh7(F:Fun K "_law_read_count" "_law_read_count" vP f fd)(Y_read_number:Fn P w K mg base "_law_read_number" 1 1 Wk):FnOk P w K mg base CX0 2 f fd qZ5 (spD K 1 YI):=by
 refine Fun.okD F kS (λ_ _ _ s H E G Z hr=>(zq (xZ (i:=1) kS.nd rfl (lo rfl) (xX Y_read_number (hr.mono w9) rfl (zb (ze 0) zf)))
  (zu (zP (qW (PWD.pt (qb (xg zg5 zc4 (ze 1) wA (xz _)) (kT (xg zg8 zc6 (ze 1) zK (xz _))))) (ze 1) wA))))) ?_
 rintro ds n Q hl ⟨l,rfl,hlen,hsh,q⟩;simp[xj];refine⟨l,rfl,hlen,hsh,?_⟩
 cases e:zS l with
 |none=>
  rw[e] at q;simp[Wv,yt];exact q
 |some i=>
  rw[e] at q;rw[jW] at q;simp[Wv,yt]
  by_cases h:0<=i
  ·rw[if_pos h] at q ⊢;exact q
  ·rw[if_neg h] at q ⊢;exact q
abbrev kG:Stmt:=top 60
abbrev XX:List Str:=["_law_text_here","_law_d","_law_words","_law_kinds","_law_box","_law_count","_law_place"]
def yB:FnScope XX ["_law_text_here","_law_d"] (zL kG):=⟨rfl,rfl,rfl,x5,rfl,x5,x5⟩
def xu8(o:Option (Str × List js × List Part)):D:=match o with |some a=>YF a.1 a.2.1 a.2.2 |none=>.non
def zw5(x:Str)(h:x∈yw):atK (yw.map Sum.inr) ([0,0,0,0,0,1,1,2].map D.int) (Sum.inr x)=some (.int ((wH x).length:Int)):=by
 simp only[yw,zi,xl,or_false] at h
 rcases h with rfl |rfl |rfl |rfl |rfl |rfl |rfl |rfl<;>rfl
theorem zD8{x:Key}:∀{ks:List Key}{ds:List D},x ∉ ks->atK ks ds x=none
 |[],_,_=>by simp[atK]
 |_::_,[],_=>by simp[atK]
 |k::ks,d::ds,h=>by
  have h1:¬ k=x:=λz=>h (by simp[z])
  have h2:=zD8 (x:=x) (ks:=ks) (ds:=ds) λz=>h (zh _ z);simp[atK,h1,h2]
def zw4(x:Str)(h:x ∉ yw):atK (yw.map Sum.inr) ([0,0,0,0,0,1,1,2].map D.int) (Sum.inr x)=none:=zD8 λz=>by
 obtain⟨y,hy,e⟩:=zN.mp z;cases e;exact h hy
def Qi{ws:List (List Nat)}{d:Nat}(h:ws.length≠d):xa ws d=none:=by
 unfold xa;rw[if_neg λz=>h z.2]
def zp0{w0:List Nat}{r:List (List Nat)}{d:Nat}(hd:1<=d)(h:r.length≠(wH (tx w0)).length+d):vb (w0::r) d=none:=by
 rw[yJ]
 split
 ·rw [Qi (ws := r.drop (wH (tx w0)).length) (by rw [wo]; lia)]
  cases vI yN ((r.take (wH (tx w0)).length).zip (wH (tx w0)))<;>rfl
 ·rfl
def zO0(x:D)(l:List D){m d:Nat}(hd:1<=d)(h:l.length=m+d):Yx (x::l) (some (-(d:Int))) none=l.drop m:=by
 unfold Yx
 have e1:HT.sIx (x::l).length 0 (some (-(d:Int)))=m+1:=by
  show(if (-(d:Int))<0 then(-(d:Int)+((x::l).length:Int)).toNat else min (-(d:Int)).toNat (x::l).length)=m+1
  rw[if_pos w6,zr]
  lia
 have e3:HT.sIx (x::l).length (x::l).length none=(x::l).length:=HT.WZ ..;rw[e1,e3,wP]
 exact zQ (by simp)
def ra0{w0:List Nat}{r:List (List Nat)}{d:Nat}(hw:tx w0∈yw)(hk:wH (tx w0)=[]):vb (w0::r) d=(xa r d).map λb=>(tx w0,b,[]):=by
 rw[yJ,if_pos hw,hk]
 cases h:xa r d<;>simp[vI,h]
def ra1{w0 c:List Nat}{r:List (List Nat)}{d:Nat}(hw:tx w0∈yw)(hk:wH (tx w0)=[false]):vb (w0::c::r) d=(Zt (zS c)).bind λi=>(xa r d).map λb=>(tx w0,b,[.num i]):=by
 rw[yJ,if_pos hw,hk]
 cases h:xa r d<;>cases e:zS c<;>simp[vI,vw,h,e,Kl,Zt]<;>split<;>simp_all
def ra2{w0 pl c:List Nat}{r:List (List Nat)}{d:Nat}(hw:tx w0∈yw)(hk:wH (tx w0)=[true,false]):vb (w0::pl::c::r) d=(Zt (zS c)).bind λi=>(xa r d).bind λb=>(Ws d (xS pl)).map λp=>(tx w0,b,[.place p,.num i]):=by
 rw[yJ,if_pos hw,hk]
 cases h:xa r d<;>cases e:zS c<;>cases e2:xS pl<;>simp[vI,vw,ve,h,e,e2,Kl,Zt,Ws]<;>(try split)<;>(try split)<;>simp_all
def xB7(a b c:D)(l:List D):atI (a::b::c::l) 2=some c:=by
 have h:(2:Int)<(l.length:Int)+1+1+1:=w6
 simp[atI,ixN,h]
def UP(i:Int):yt (.int i)=false:=rfl
def XC:yt .non=true:=rfl
def Jc(x:Str):(x=Str.ofString "near" /\ wH x=[true,false])\/(¬ x=Str.ofString "near" /\ (wH x=[false]\/wH x=[])):=by
 unfold wH
 by_cases h:x=Str.ofString "near"
 ·exact .inl ⟨h,if_pos h⟩
 ·refine .inr ⟨h, ?_⟩;rw[if_neg h]
  split
  ·exact .inl rfl
  ·exact .inr rfl
def za6:TF:=λds n Q=>∃(l:List Nat) (d:Nat),ds=[.str (tx l),.int (d:Int)]/\l.length<=200000/\Short l/\1<=d/\d<=4/\Q (xu8 (vb (zX 32 l) d)) n
def zL2(T:Blt mg)(F:Fun K "_law_read_ask" "_law_read_ask" kG f fd)(Y_read_box:Fn P w K mg base "_law_read_box" 3 2 Jt)(Y_read_count:Fn P w K mg base "_law_read_count" 2 1 YI)(Y_read_place:Fn P w K mg base "_law_read_place" 2 2 YH):FnOk P w K mg base CX0 4 f fd ["_law_text_here","_law_d"] (spD K 2 za6):=by
 refine Fun.okD F yB (λ_ _ _ s H E G Z hr=>(zq (xZ (i:=2) yB.nd rfl (lo rfl) (kW (ze 0) (zb zJ zf)))
  (zq (xZ (i:=3) yB.nd rfl (lo rfl) (zJ6 (ks:=["count","sum","least","most","all","first","best","near"]) (is:=[0,0,0,0,0,1,1,2]) (kU jy qV (kU jy qV (kU jy qV (kU jy qV (kU jy qV (kU jy qV (kU jy qV (kU jy qV zH9)))))))) (by simp) rfl w9))
  (zq (wt (PWD.pt (vZ (xg (zg9 (zw8 hr)) zR5 (yk wb yn (ze 2) zK (λ_ _=>rfl)) (ze 3) (by with_unfolding_all rfl)) (vQ (xg Xs Xj (xq we ko T.len kr (zb (ze 2) zf)) (qB (qB zK (zf8 (zw8 hr) (ze 3) (yk wb yn (ze 2) zK (λ_ _=>rfl)) (λ_ _=>rfl))) (ze 1)) (xz _))))) (zu (zP wA)) xt)
  (zq (xZ (i:=4) yB.nd rfl (lo rfl) (xX Y_read_box (hr.mono w9) rfl (zb (JG rfl (ze 2) (wT (Xn (ze 1))) yr) (zb (ze 1) zf))))
  (zq (wt (xg km kj (zf8 (zw8 hr) (ze 3) (yk wb yn (ze 2) zK (λ_ _=>rfl)) (λ_ _=>rfl)) zK (xz _)) (zu (zP (qW (xg kI kH (ze 4) wA (xz _)) wA (yK (zb (yk wb yn (ze 2) zK (λ_ _=>rfl)) (zb (ze 4) zf)))))) xt)
  (zq (xZ (i:=5) yB.nd rfl (lo rfl) (xX Y_read_count (hr.mono w9) rfl (zb (yk wb yn (ze 2) (zf8 (zw8 hr) (ze 3) (yk wb yn (ze 2) zK (λ_ _=>rfl)) (λ_ _=>rfl)) (λ_ _=>rfl)) zf)))
  (zq (wt (PWD.pt (vZ (xg kI kH (ze 4) wA (xz _)) (vQ (xg kI kH (ze 5) wA (xz _))))) (zu (zP wA)) xt)
  (zq (wt (xg Xs Xj (yk wb yn (ze 2) zK (λ_ _=>rfl)) zJ (xz _)) (zu (zP (yK (zb (yk wb yn (ze 2) zK (λ_ _=>rfl)) (zb (ze 4) (zb (ze 5) zf)))))) xt)
  (zq (xZ (i:=6) yB.nd rfl (lo rfl) (xX Y_read_place (hr.mono w9) rfl (zb (yk wb yn (ze 2) zK (λ_ _=>rfl)) (zb (ze 1) zf))))
  (zu (zP (qW (xg kI kH (ze 6) wA (xz _)) wA (yK (zb zJ (zb (ze 4) (zb (ze 6) (zb (ze 5) zf)))))))))))))))))) ?_
 rintro ds n Q hl ⟨l,d,rfl,hlen,hsh,hd1,hd4,q⟩;have hs:=wM (c:=32) (zX 32 l);rw[xC] at hs
 have hwd:∀w∈zX 32 l,w.length<=200000/\Short w:=λw hw=>⟨zm (hs.2 w hw) hlen,by
  obtain⟨a,b,e⟩:=jq (c:=[32]) hw;rw[xC] at e;rw[e] at hsh
  exact hsh.mid⟩
 have hne:zX 32 l≠[]:=λz=>by
  obtain⟨ps,e,h1,_⟩:=vo 32 l;rw[yP,z] at e;exact h1 (wv.mp e.symm)
 have hin:∀x:Str,x∈yw->atK ([Sum.inr (Str.ofString "count"),Sum.inr (Str.ofString "sum"),Sum.inr (Str.ofString "least"),Sum.inr (Str.ofString "most"),Sum.inr (Str.ofString "all"),Sum.inr (Str.ofString "first"),Sum.inr (Str.ofString "best"),Sum.inr (Str.ofString "near")]:List Key) [D.int 0,D.int 0,D.int 0,D.int 0,D.int 0,D.int 1,D.int 1,D.int 2] (Sum.inr x)=some (.int ((wH x).length:Int)):=zw5;have hno:∀x:Str,x ∉ yw->atK ([Sum.inr (Str.ofString "count"),Sum.inr (Str.ofString "sum"),Sum.inr (Str.ofString "least"),Sum.inr (Str.ofString "most"),Sum.inr (Str.ofString "all"),Sum.inr (Str.ofString "first"),Sum.inr (Str.ofString "best"),Sum.inr (Str.ofString "near")]:List Key) [D.int 0,D.int 0,D.int 0,D.int 0,D.int 0,D.int 1,D.int 1,D.int 2] (Sum.inr x)=none:=zw4;simp[xj,yU];generalize ([Sum.inr (Str.ofString "count"),Sum.inr (Str.ofString "sum"),Sum.inr (Str.ofString "least"),Sum.inr (Str.ofString "most"),Sum.inr (Str.ofString "all"),Sum.inr (Str.ofString "first"),Sum.inr (Str.ofString "best"),Sum.inr (Str.ofString "near")]:List Key)=KS at hin hno ⊢;generalize [D.int 0,D.int 0,D.int 0,D.int 0,D.int 0,D.int 1,D.int 1,D.int 2]=VS at hin hno ⊢;rw[yP]
 refine⟨by rw[xQ];simp,yz (by rw[xQ];lia),yz (by rw[zj];lia),?_⟩
 generalize zX 32 l=ws at hs hwd hne q ⊢
 cases ws with
 |nil=>exact absurd rfl hne
 | cons w0 r =>
  have eL:((w0::r).map tx).map D.str=D.str (tx w0)::r.map λw=>D.str (tx w):=by rw[zF];rfl
  rw[eL,zj,zr];refine⟨_,at0 ..,?_⟩
  by_cases hw:tx w0∈yw
  ·have hk := hin _ hw;have hrw:=λw hw=>hwd w (zh _ hw);have hl0:=hs.1;rw[zr] at hl0;clear hs hwd hne hno hin;simp[hk,at0]
   by_cases hc:r.length=(wH (tx w0)).length+d
   ·rw [if_pos w6, zO0 _ _ hd1 (by rw [zj]; exact hc)]
    refine⟨r.drop (wH (tx w0)).length,d,by rw[map_drop],by rw[wo];lia,λw hw=>hrw w (List.mem_of_mem_drop hw),?_⟩
    rcases Jc (tx w0) with ⟨hn,hks⟩ |⟨hn,hks |hks⟩
    ·rw [hks] at hc ⊢
     obtain⟨pl,c,r,rfl⟩:∃pl c r',r=pl::c::r':=by
      match r,hc with
      |[],h=>exact absurd h (by simp only[yg,zr];lia)
      |[_],h=>exact absurd h (by simp only[yg,zr];lia)
      |a::b::t,_=>exact⟨a,b,t,rfl⟩
     ·rw [show (pl :: c :: r).drop ([true, false] : List Bool).length = r from rfl]
      obtain⟨l1,s1⟩:=hrw pl (by simp)
      obtain⟨l2,s2⟩:=hrw c (by simp)
      rw[ra2 hw hks] at q
      rw[if_neg (by simp)]
      refine⟨.str (tx c),xB7 ..,c,rfl,l2,s2,?_⟩
      cases hc2:Zt (zS c) with
      | none =>
       rw[hc2] at q
       cases hb:xa r d with
       |none=>simp[QX,yt];exact q
       |some b=>
        have nb:xR (wX b)=true:=id rfl;have n0:yt (wX b)=false:=rfl;simp[QX,nb,n0,Wv,XC];exact q
      | some i =>
       rw[hc2] at q
       cases hb:xa r d with
       |none=>
        rw[hb] at q;simp[QX,yt];exact q
       | some b =>
        rw[hb] at q;have nb:xR (wX b)=true:=id rfl;have n0:yt (wX b)=false:=rfl;simp[QX,nb,n0,Wv,UP,hn];refine⟨pl,d,rfl,l1,s1,?_⟩
        cases hp:Ws d (xS pl) with
        |none=>
         rw[hp] at q;simp[Ut,XC];exact q
        |some p=>
         rw[hp,hn] at q;have np:xR (wx p)=true:=id rfl;have n1:yt (wx p)=false:=rfl;simp[Ut,np,n1];exact q
    ·rw [hks] at hc ⊢
     obtain⟨c,r,rfl⟩:∃c r',r=c::r':=by
      match r,hc with
      |[],h=>exact absurd h (by simp only[yg,zr];lia)
      |b::t,_=>exact⟨b,t,rfl⟩
     ·rw [show (c :: r).drop ([false] : List Bool).length = r from rfl]
      obtain⟨l2,s2⟩:=hrw c (by simp)
      rw[ra1 hw hks] at q
      rw[if_neg (by simp)]
      refine⟨.str (tx c),at1 ..,c,rfl,l2,s2,?_⟩
      cases hc2:Zt (zS c) with
      | none =>
       rw[hc2] at q
       cases hb:xa r d with
       |none=>simp[QX,yt];exact q
       |some b=>
        have nb:xR (wX b)=true:=id rfl;have n0:yt (wX b)=false:=rfl;simp[QX,nb,n0,Wv,XC];exact q
      | some i =>
       rw[hc2] at q
       cases hb:xa r d with
       |none=>
        rw[hb] at q;simp[QX,yt];exact q
       |some b=>
        rw[hb] at q;have nb:xR (wX b)=true:=id rfl;have n0:yt (wX b)=false:=rfl;simp[QX,nb,n0,Wv,UP,hn];exact q
    ·rw [hks] at hc ⊢;rw[ra0 hw hks] at q;rw[if_pos rfl,show r.drop ([]:List Bool).length=r from rfl]
     cases hb:xa r d with
     |none=>
      rw[hb] at q;simp[QX,yt];exact q
     |some b=>
      rw[hb] at q;have nb:xR (wX b)=true:=id rfl;have n0:yt (wX b)=false:=rfl;simp[QX,nb,n0];exact q
   ·rw [if_neg w6]
    rw[zp0 hd1 hc] at q;exact q
  ·have hk:=hno _ hw;simp[hk];rw[yJ,if_neg hw] at q;exact q
end
def Uh:Str.ofString "\n" = tx [10]:=x5
def JS:Str.ofString "house " = tx [104,111,117,115,101,32]:=x5
def Ko:Str.ofString "house" = tx [104,111,117,115,101]:=x5
def ky(d:Nat)(t:Thing):Bool:=decide (0<=t.1)&&decide (t.2.1.length=d)
def yV(xs:List Int):Bool:=(xs.zip (xs.drop 1)).all λx=>decide (x.1<x.2)
def zP7(b p:List Int):VM (b.map D.int) (p.map D.int)=(b.zip p).map λx=>.tup [.int x.1,.int x.2]:=by
 unfold VM;rw[List.zipWith_map,List.map_zip_eq_zipWith];rfl
section
variable {P:Program}{w:World}{K:W.Frag}{mg:Str->Option Value}{base:Heap}{f:Addr}{fd:FuncData}
abbrev ZL:Stmt:=top 27
abbrev QV:List Str:=["thing","d"]
def Ky:FnScope QV qZ1 (zL ZL):=⟨rfl,rfl,rfl,x5,rfl,x5,x5⟩
def ZB:TF:=λds n Q=>∃(t:Thing) (d:Nat),ds=[wF t,.int (d:Int)]/\1<=d/\d<=4/\t.2.1.length<=1000000/\Q (.bl (ky d t)) n
def KO(F:Fun K "is_thing" "is_thing" ZL f fd)(F_is_whole:Fn P w K mg base "is_whole" 1 1 jD)(F_is_from_zero:Fn P w K mg base "is_from_zero" 2 1 xa6)(F_is_place:Fn P w K mg base "is_place" 3 2 jk)(F_is_tuple_of:Fn P w K mg base "is_tuple_of" 1 2 qF):FnOk P w K mg base CX0 4 f fd qZ1 (spD K 2 ZB):=by
 refine Fun.okD F Ky (λ_ _ _ s H E G Z hr=>(zu (zP (vy (xX F_is_tuple_of (hr.mono w9) rfl (zb (ze 0) (zb zK zf))) (vy (xX F_is_from_zero (hr.mono w9) rfl (zb (yk wb yn (ze 0) zK (λ_ _=>rfl)) zf)) (vy (xX F_is_place (hr.mono w9) rfl (zb (yk wb yn (ze 0) zK (λ_ _=>rfl)) (zb (ze 1) zf))) (qi (xX F_is_whole (hr.mono w9) rfl (zb (yk wb yn (ze 0) zK (λ_ _=>rfl)) zf))))))))) ?_
 rintro ds n Q hl ⟨t,d,rfl,h1,h4,ht,q⟩;obtain⟨x,p,y⟩:=t;have et:wF (x,p,y)=.tup [.int x,wx p,.int y]:=rfl;have np:xR (wx p)=true:=id rfl;have q':Q (.bl (decide (0<=x)&&decide (p.length=d))) n:=q;rw[et];simp[xj];refine⟨_,3,rfl,?_⟩;simp;refine⟨x,rfl,?_⟩
 by_cases hx:0<=x
 ·rw [xm hx, Bool.true_and] at q';rw[xm hx];simp[np];refine⟨p,d,rfl,h1,h4,ht,?_⟩
  by_cases hp:p.length=d
  ·rw[xm hp] at q' ⊢;simp;exact⟨y,rfl,q'⟩
  ·rw[zO hp] at q' ⊢;simp;exact q'
 ·rw[zO hx,Bool.false_and] at q';rw[zO hx];simp;exact q'
abbrev KB:Stmt:=top 28
abbrev Jl:List Str:=["numbers"]
def zr2:FnScope Jl ["numbers"] (zL KB):=⟨rfl,rfl,rfl,x5,rfl,x5,x5⟩
def Ww:("one" :: "other" :: Jl:List Str).Nodup:=x5
def Kq:TF:=λds n Q=>∃xs:List Int,ds=[.lst (xs.map D.int)]/\xs.length<=1000000/\Q (.bl (yV xs)) n
def zv0(T:Blt mg)(F:Fun K "rises" "rises" KB f fd):FnOk P w K mg base CX0 1 f fd ["numbers"] (spD K 1 Kq):=by
 refine Fun.okD F zr2 (λ_ _ _ s H E G Z hr=>(zu (zP (xq (qy rfl) XM T.all XS (zb (vF (own:=["one","other"]) (M:=Jl) (vi (by rfl)) rfl (Vg rfl T.zip (zb (ze 0) (zb (zU8 rfl (ze 0) zT6 zI0) zf))) (λ_ _ _ _=>(vE (k:=2) rfl rfl (xo (zV (i:=0) Ww rfl (lo rfl) w9) (xo (zV (i:=1) Ww rfl (lo rfl) w9) yH)))) (λ_ _ _ _=>wS) (λ_ _ _ _=>(vJ zu6 zs2 (ze 0) (ze 1) (xz _)))) zf))))) ?_
 rintro ds n Q hl ⟨xs,rfl,hz,q⟩
 have ec:Yx (xs.map D.int) (some 1) none=(xs.drop 1).map D.int:=by
  unfold Yx HT.sIx;rw[zj,map_drop];simp
  cases xs with
  |nil=>rfl
  |cons a r=>simp;exact zQ (by simp)
 simp[xj];rw[ec,zP7]
 refine yc (λx:Int × Int=>.tup [.int x.1,.int x.2]) (λx=>.bl (decide (x.1<x.2))) (xs.zip (xs.drop 1)) (yz (by rw[length_zip];lia)) (λx hx R hR=>?_) ?_
 ·simp;exact hR
 ·refine ⟨(xs.zip (xs.drop 1)).map λx => decide (x.1 < x.2), by rw [zF]; rfl, ?_⟩
  have e:((xs.zip (xs.drop 1)).map λx=>decide (x.1<x.2)).all id=yV xs:=by rw[all_map];rfl
  rw[e];exact q
abbrev ZN:Stmt:=top 29
abbrev qj:List Str:=["thing","d","things"]
def jH:FnScope qj qZ0 (zL ZN):=⟨rfl,rfl,rfl,x5,rfl,x5,x5⟩
def Vv:("each" :: qj:List Str).Nodup:=x5
def qv:("name" :: "place" :: "worth" :: qj:List Str).Nodup:=x5
def JT(i:Int)(ts:List Thing):Bool:=decide (1<=i/\i<=4)&&(ts.all (ky i.toNat)&&yV (ts.map λt=>t.1))
def ZC:TF:=λds n Q=>∃(i:Int) (ts:List Thing),ds=[.tup [.int i,.tup (ts.map wF)]]/\ts.length<=1000000/\(∀t∈ts,t.2.1.length<=1000000)/\Q (.bl (JT i ts)) n
def KQ(T:Blt mg)(F:Fun K "is_house" "is_house" ZN f fd)(F_is_d:Fn P w K mg base "is_d" 2 1 VT)(F_is_tuple_of:Fn P w K mg base "is_tuple_of" 1 2 qF)(F_is_thing:Fn P w K mg base "is_thing" 4 2 ZB)(F_rises:Fn P w K mg base "rises" 1 1 Kq):FnOk P w K mg base CX0 5 f fd qZ0 (spD K 1 ZC):=by
 refine Fun.okD F jH (λ_ _ _ s H E G Z hr=>(zq (wt (vq (wG (xX F_is_tuple_of (hr.mono w9) rfl (zb (ze 0) (zb zK zf))))) (zu (zP Zj)) xt)
  (zq (qr (m:=3) (ze 0) (vE (k:=2) rfl rfl (xo (zV (i:=1) jH.nd rfl (lo rfl) w9) (xo (zV (i:=2) jH.nd rfl (lo rfl) w9) yH))))
  (zq (wt (vq (PWD.pt (qb (wG (xX F_is_d (hr.mono w9) rfl (zb (ze 1) zf))) (kT (wG (xq yx vL T.isi vj (zb (ze 2) (zb (qC (hm:=T.tuple) (hv:=va)) zf)))))))) (zu (zP Zj)) xt)
  (zq (wt (vq (wG (xq (qy rfl) XM T.all XS (zb (vF (own:=["each"]) (M:=qj) (vi (by rfl)) rfl (vc rfl (ze 2)) (λ_ _ _ _=>(zV (i:=0) Vv rfl (lo rfl) w9)) (λ_ _ _ _=>wS) (λ_ _ _ _=>(xX F_is_thing (hr.mono w9) rfl (zb (ze 0) (zb (ze 2) zf))))) zf)))) (zu (zP Zj)) xt)
  (zu (zP (xX F_rises (hr.mono w9) rfl (zb (vF (own:=["name","place","worth"]) (M:=qj) (vi (by rfl)) rfl (vc rfl (ze 2)) (λ_ _ _ _=>(vE (k:=3) rfl rfl (xo (zV (i:=0) qv rfl (lo rfl) w9) (xo (zV (i:=1) qv rfl (lo rfl) w9) (xo (zV (i:=2) qv rfl (lo rfl) w9) yH))))) (λ_ _ _ _=>wS) (λ_ _ _ _=>(ze 0))) zf))))))))) ?_
 rintro ds n Q hl ⟨i,ts,rfl,hz,ht,q⟩;have nt:∀t:Thing,xR (wF t)=true:=λt=>id rfl;unfold JT at q;simp[xj];refine⟨_,2,rfl,?_⟩;simp;refine⟨i,rfl,?_⟩
 by_cases hd:1<=i/\i<=4
 ·rw [xm hd] at q ⊢
  obtain⟨d,rfl⟩:=xF (show 0<=i by lia)
  have ed:((d:Int)).toNat=d:=w6
  rw[ed] at q;simp[Yw,vB];refine yc wF (λt=>.bl (ky d t)) ts (yz hz) (λt hm R hR=>?_) ?_
  ·simp [nt]
   exact⟨t,d,rfl,w6,w6,ht t hm,hR⟩
  refine⟨ts.map λt=>ky d t,by rw[zF];rfl,?_⟩
  have e:(ts.map λt=>ky d t).all id=ts.all (ky d):=by rw[all_map];rfl
  rw[e];cases ha:ts.all (ky d)
  ·rw[ha] at q;simp at q ⊢;exact q
  ·rw [ha] at q;simp at q ⊢;refine yc wF (λt=>.int t.1) ts (yz hz) (λt ht R hR=>?_) ?_
   ·simp[wF,wx];exact hR
   exact⟨ts.map λt=>t.1,by rw[zF];rfl,by rw[zj];exact hz,q⟩
 ·rw[zO hd] at q ⊢;simp at q ⊢;exact q
def xV(l:List Nat):Option Thing:=
 match zX 32 l with
 |[a,b,c]=>(zS a).bind λi=>(xS b).bind λp=>(zS c).map λv=>(i,p,v)
 |_=>none
def Xi{l a b c:List Nat}(h:zX 32 l=[a,b,c]):xV l=(zS a).bind λi=>(xS b).bind λp=>(zS c).map λv=>(i,p,v):=by unfold xV;rw[h]
def Yr{l:List Nat}(h:(zX 32 l).length≠3):xV l=none:=by
 unfold xV
 split
 ·rename_i e;rw[e] at h;exact absurd rfl h
 ·rfl
abbrev qQ:Stmt:=top 40
abbrev Kg:List Str:=["text","words","name","place","worth"]
def vC:FnScope Kg qZ2 (zL qQ):=⟨rfl,rfl,rfl,x5,rfl,x5,x5⟩
def qI:TFX:=λds n Q R=>∃l:List Nat,ds=[.str (tx l)]/\l.length<=200000/\byO (xV l) (λt=>Q (wF t) n) (R n)
def Vm{C:Addr}(T:Blt mg)(CN_NoText:ClsX K mg "NoText" C)(F:Fun K "read_thing" "read_thing" qQ f fd)(FX_read_number:FnX P w K mg base "read_number" 1 1 C yL)(FX_read_place:FnX P w K mg base "read_place" 2 1 C kP):FnOk P w K mg base (CX1 P w) 3 f fd qZ2 (spX K C 1 qI):=by
 refine Fun.okX (C:=C) F vC (λcdv A0 outer s H E G Z R hr hE=>(zq (xZ (i:=1) vC.nd rfl (lo rfl) (kW (ze 0) (zb zJ zf)))
  (zq (wt (xg Xs Xj (xq we ko T.len kr (zb (ze 1) zf)) zK (xz _)) (zu (vg CN_NoText (xok hE))) xt)
  (zq (qr (m:=5) (ze 1) (zI3 (k:=3) rfl rfl (xo (zV (i:=2) vC.nd rfl (lo rfl) w9) (xo (zV (i:=3) vC.nd rfl (lo rfl) w9) (xo (zV (i:=4) vC.nd rfl (lo rfl) w9) yH)))))
  (zu (zP (yK (zb (kb FX_read_number (YC hE) (hr.mono w9) rfl (zb (ze 2) zf)) (zb (kb FX_read_place (YC hE) (hr.mono w9) rfl (zb (ze 3) zf)) (zb (kb FX_read_number (YC hE) (hr.mono w9) rfl (zb (ze 4) zf)) zf)))))))))) ?_
 rintro ds n Q R hl ⟨l,rfl,hlen,q⟩;have hs:=wM (c:=32) (zX 32 l);rw[xC] at hs;simp[xj,yU];rw[yP]
 refine⟨by rw[xQ];simp,yz (by rw[xQ];lia),yz (by rw[zj];lia),?_⟩
 by_cases h3:(zX 32 l).length=3
 ·match hw : zX 32 l, h3 with
  | [a, b, c], _ =>
   rw[hw] at hs;rw[Xi hw] at q;simp
   refine⟨a,rfl,zm (hs.2 a (by simp)) hlen,?_⟩
   cases ea:zS a with
   |none=>rw[ea] at q;exact q
   | some i =>
    rw[ea] at q
    refine⟨b,rfl,zm (hs.2 b (by simp)) hlen,?_⟩
    cases eb:xS b with
    |none=>rw[eb] at q;exact q
    |some p=>
     rw[eb] at q
     refine⟨c,rfl,zm (hs.2 c (by simp)) hlen,?_⟩
     cases ec:zS c with
     |none=>rw[ec] at q;exact q
     |some v=>rw[ec] at q;exact q
 ·rw [Yr h3] at q
  have h3':¬ ((zX 32 l).length:Int)=3:=w6
  simp[h3',h3,Yp];exact q
end
def hdL(d:Nat):List Nat:=[104,111,117,115,101,32,48+d]
def jT(l:List Nat):Option Nat:=if l=hdL 1 then some 1 else if l=hdL 2 then some 2 else if l=hdL 3 then some 3 else if l=hdL 4 then some 4 else none
def JU{d:Nat}(h1:1<=d)(h4:d<=4):jT (hdL d)=some d:=by
 have:d=1\/d=2\/d=3\/d=4:=w6
 rcases this with rfl |rfl |rfl |rfl<;>rfl
def jr{l:List Nat}{d:Nat}(h:jT l=some d):l=hdL d/\1<=d/\d<=4:=by
 unfold jT at h
 split at h
 ·cases h;exact⟨by assumption,w9,w9⟩
 ·split at h
  ·cases h;exact⟨by assumption,w9,w9⟩
  ·split at h
   ·cases h;exact⟨by assumption,w9,w9⟩
   ·split at h
    ·cases h;exact⟨by assumption,w9,w9⟩
    ·cases h
def zN1(r:List Nat):∀a:Nat,a<=r.foldl (λa c=>10*a+(c-48)) a:=by
 induction r with
 |nil=>intro a;exact zk _
 |cons c r ih=>
  intro a;rw[foldl_cons]
  exact zm w6 (ih _)
def zb2{l:List Nat}{i:Int}(h:zS l=some i)(h1:1<=i)(h4:i<=4):l=[48+i.toNat]:=by
 unfold zS at h
 split at h
 ·cases h
 ·rename_i hc;simp only[not_or,Bool.not_eq_false] at hc;obtain⟨g1,g2,g3⟩:=hc
  have h':(if l.head?=some 45 then -(Yn (ke l):Int) else(Yn (ke l):Int))=i:=by injection h
  by_cases hm:l.head?=some 45
  ·rw[if_pos hm] at h';lia
  ·rw [if_neg hm] at h';rw[vz hm] at g1 g2 g3 h'
   match l,g1 with
   |[c],_=>
    have hf:=zZ.mp g2 c (by simp)
    have hf':48<=c/\c<=57:=by simpa [wc] using hf
    have hv:Yn [c]=c-48:=by simp[Yn]
    rw[hv] at h'
    have:c=48+i.toNat:=w6
    rw[this]
   | c :: e :: r, _ =>
    exfalso
    have hf:=zZ.mp g2 c (by simp)
    have hf':48<=c/\c<=57:=by simpa [wc] using hf
    have hne:c≠48:=λz=>g3 ⟨by rw[z];rfl,by simp⟩
    have hv:10<=Yn (c::e::r):=by
     unfold Yn;rw[foldl_cons,foldl_cons]
     exact zm w6 (zN1 r _)
    lia
def JK{d:Nat}(h1:1<=d)(h4:d<=4):zS [48+d]=some (d:Int):=by
 have:d=1\/d=2\/d=3\/d=4:=w6
 rcases this with rfl |rfl |rfl |rfl<;>decide
def wV(rows:List (List Nat)):Option (Nat × List Thing):=
 match rows with
 |[]=>none
 |f::r=>(jT f).bind λd=>(vI xV r).bind λts=>if (ts.all (ky d)&&yV (ts.map λt=>t.1))=true then some (d,ts) else none
def yE(f:List Nat)(r:List (List Nat)):wV (f::r)=(jT f).bind λd=>(vI xV r).bind λts=>if (ts.all (ky d)&&yV (ts.map λt=>t.1))=true then some (d,ts) else none:=rfl
def vR{f:List Nat}{r:List (List Nat)}(h:jT f=none):wV (f::r)=none:=by rw[yE,h];rfl
def qY{f a b:List Nat}(hf:f=a++32::b)(ha:32 ∉ a)(h:∀d,1<=d->d<=4->a=[104,111,117,115,101]->b≠[48+d]):jT f=none:=by
 cases e:jT f with
 |none=>rfl
 |some d=>
  obtain⟨h1,h2,h3⟩:=jr e
  have e2:[104,111,117,115,101]++32::[48+d]=a++32::b:=by rw[<- hf,h1];rfl
  obtain⟨e3,e4⟩:=WE (by simp) ha e2
  exact absurd e4.symm (h d h2 h3 e3.symm)
def Ql{r:List (List Nat)}:∀{ts:List Thing},vI xV r=some ts->(∀w∈r,w.length<=200000)->∀t∈ts,t.2.1.length<=1000000:=by
 induction r with
 |nil=>intro ts h _ t ht;cases h;cases ht
 | cons w r ih =>
  intro ts h hw t ht;unfold vI at h
  cases e:xV w with
  |none=>rw[e] at h;cases h
  | some u =>
   rw[e] at h
   cases e2:vI xV r with
   |none=>rw[e2] at h;cases h
   | some us =>
    rw[e2] at h;cases h
    rcases zi.mp ht with rfl |ht
    ·have hs := wM (c := 32) (zX 32 w);rw[xC] at hs;unfold xV at e
     split at e
     ·rename_i a b c hsp
      cases ea:zS a with
      |none=>rw[ea] at e;cases e
      | some i =>
       rw[ea] at e
       cases eb:xS b with
       |none=>rw[eb] at e;cases e
       | some p =>
        rw[eb] at e
        cases ec:zS c with
        |none=>rw[ec] at e;cases e
        |some v=>
         rw[ec] at e;cases e
         have hb:b.length<=w.length:=hs.2 b (by rw[hsp];simp)
         have hp:=kz eb;have h44:=wM (c:=44) (zX 44 b);rw[xC] at h44
         have:=hw w (by simp)
         show p.length<=_;lia
     ·cases e
    ·exact ih e2 (λv hv=>hw v (zh _ hv)) t ht
section
variable {P:Program}{w:World}{K:W.Frag}{mg:Str->Option Value}{base:Heap}{f:Addr}{fd:FuncData}
abbrev qT:Stmt:=top 41
abbrev ji:List Str:=["text","first","rows","word","blank","number","house"]
def yM:FnScope ji qZ2 (zL qT):=⟨rfl,rfl,rfl,x5,rfl,x5,x5⟩
def Xz:("row" :: ji:List Str).Nodup:=x5
def XF(a:Nat × List Thing):D:=.tup [.int (a.1:Int),.tup (a.2.map wF)]
def qJ:TFX:=λds n Q R=>(∃l:List Nat,ds=[.str (tx l)]/\l.length<=200000/\byO (wV (zX 10 l)) (λa=>Q (XF a) n) (R n))\/∃x:D,ds=[x]/\xR x=true/\vB x=true/\Yw "str" x=false/\R n
def Vp{C:Addr}(T:Blt mg)(CN_NoText:ClsX K mg "NoText" C)(F:Fun K "read_house" "read_house" qT f fd)(FX_parted:FnX P w K mg base "parted" 1 2 C qK)(FX_read_number:FnX P w K mg base "read_number" 1 1 C yL)(FX_read_thing:FnX P w K mg base "read_thing" 3 1 C qI)(F_is_house:Fn P w K mg base "is_house" 5 1 ZC):FnOk P w K mg base (CX1 P w) 6 f fd qZ2 (spX K C 1 qJ):=by
 refine Fun.okX (C:=C) F yM (λcdv A0 outer s H E G Z R hr hE=>(zq (zs9 (m:=7) rfl rfl (kb FX_parted (YC hE) (hr.mono w9) rfl (zb (ze 0) (zb zJ zf))) (xo (zV (i:=1) yM.nd rfl (lo rfl) w9) (xo (zV (i:=2) yM.nd rfl (lo rfl) w9) yH)))
  (zq (qr (m:=7) (zf5 (ze 1) (zb zJ zf)) (vE (k:=3) rfl rfl (xo (zV (i:=3) yM.nd rfl (lo rfl) w9) (xo (zV (i:=4) yM.nd rfl (lo rfl) w9) (xo (zV (i:=5) yM.nd rfl (lo rfl) w9) yH)))))
  (zq (wt (xg Xs Xj (ze 3) zJ (xz _)) (zu (vg CN_NoText (xok hE))) xt)
  (zq (xZ (i:=6) yM.nd rfl (lo rfl) (yK (zb (kb FX_read_number (YC hE) (hr.mono w9) rfl (zb (ze 5) zf)) (zb (wO yO qx T.tuple va (zb (Vi (zu4 hE) (own:=["row"]) (M:=ji) (vi (by rfl)) rfl (vc rfl (ze 2)) (λ_ _ _ _=>(zV (i:=0) Xz rfl (lo rfl) w9)) (λ_ _ _ _=>wS) (λ_ _ _ _=>(kb FX_read_thing zf9 (hr.mono w9) rfl (zb (ze 0) zf)))) zf)) zf))))
  (zq (wt (vq (wG (xX F_is_house (hr.mono w9) rfl (zb (ze 6) zf)))) (zu (vg CN_NoText (xok hE))) xt)
  (zu (zP (ze 6))))))))) ?_
 rintro ds n Q R hl (⟨l,rfl,hlen,q⟩ |⟨x,rfl,hn,h1,h2,q⟩)
 ·have hs := wM (c := 10) (zX 10 l);rw[xC] at hs
  have hne:zX 10 l≠[]:=λz=>by
   obtain⟨ps,e,h1,_⟩:=vo 10 l;rw[yP,z] at e;exact h1 (wv.mp e.symm)
  simp[xj,Uh,yU,Ko];refine .inl ⟨l,10,rfl,hlen,?_⟩;generalize zX 10 l=ws at q hs hne ⊢
  cases ws with
  |nil=>exact absurd rfl hne
  | cons f r =>
   have hfl:f.length<=200000:=zm (hs.2 f (by simp)) hlen
   rw[zR];rw[xj3];refine⟨_,_,rfl,jd (id rfl) ?_⟩;show ¬ (tx [32]).length=0/\_
   refine⟨by rw[xQ];simp,yz (by rw[xQ];exact zm hfl w9),?_⟩
   have hrl:r.length<=200001:=by
    have:=hs.1;rw[zr] at this;lia
   have hrw:∀w∈r,w.length<=200000:=λw hw=>zm (hs.2 w (zh _ hw)) hlen
   by_cases h32:32∈f
   ·obtain ⟨a, b, hf, ha⟩ := List.eq_append_cons_of_mem h32
    have hp:Txt.partition (tx f) (tx [32])=(tx a,tx [32],tx b):=by rw[hf];exact xl8 ha
    rw[hp]
    by_cases hw:a=[104,111,117,115,101]
    ·have hbl : b.length <= 200000 := by
      have:=congrArg List.length hf;simp at this;lia
     simp only
     rw[if_pos (by rw[hw])]
     refine⟨b,rfl,hbl,?_⟩
     cases eb:zS b with
     |none=>
      rw[vR (qY hf ha λd h1 h4 _ z=>by rw[z,JK h1 h4] at eb;cases eb)] at q
      exact q
     | some i =>
      rw[kA]
      refine jX (λw=>D.str (tx w)) xV wF r (yz w6) (Rf:=R n) (λw hw Q2 h1 h2=>?_) (λh=>?_) λts h=>?_
      ·simp;refine⟨w,rfl,hrw w hw,?_⟩
       cases e:xV w with
       |none=>exact h2 e
       |some t=>exact h1 t e
      ·have e : wV (f :: r) = none := by
        rw[yE,h]
        cases jT f<;>rfl
       rw[e] at q;exact q
      ·simp only [Zh];have htl:=kz h
       refine⟨i,ts,rfl,w6,Ql h hrw,?_⟩
       by_cases hi:1<=i/\i<=4
       ·have hbd := zb2 eb hi.1 hi.2
        have eh:jT f=some i.toNat:=by
         have:f=hdL i.toNat:=by rw[hf,hw,hbd];rfl
         rw[this]
         exact JU w6 w6
        rw[yE,eh,h] at q
        have q':byO (if (ts.all (ky i.toNat)&&yV (ts.map λt=>t.1))=true then some (i.toNat,ts) else none) (λa=>Q (XF a) n) (R n):=q
        have ei:((i.toNat:Nat):Int)=i:=w6
        unfold JT;rw[xm hi,Bool.true_and]
        cases hb:(ts.all (ky i.toNat)&&yV (ts.map λt=>t.1)) with
        |false=>
         rw[hb] at q';exact⟨false,rfl,q'⟩
        |true=>
         rw[hb] at q';have q2:Q (.tup [.int ((i.toNat:Nat):Int),.tup (ts.map wF)]) n:=q';rw[ei] at q2;exact⟨true,rfl,q2⟩
       ·have e : wV (f :: r) = none := vR (qY hf ha λd h1 h4 _ z => by
         rw[z,JK h1 h4] at eb
         have:(d:Int)=i:=by injection eb
         lia)
        rw[e] at q;unfold JT;rw[zO hi,Bool.false_and];exact⟨false,rfl,q⟩
    ·simp only
     rw[if_neg (by rw[qE];exact hw)]
     rw[vR (qY hf ha λd h1 h4 z=>absurd z hw)] at q;exact q
   ·have hp := Qw h32
    have e:wV (f::r)=none:=vR (by
     cases e:jT f with
     |none=>rfl
     |some d=>
      obtain⟨h1,_⟩:=jr e
      exact absurd (by rw[h1];simp[hdL]) h32)
    rw[e] at q;rw[hp];simp only
    by_cases hw:f=[104,111,117,115,101]
    ·rw [if_pos (by rw [hw])]
     exact⟨[],rfl,w9,q⟩
    ·rw [if_neg (by rw [qE]; exact hw)]
     exact q
 ·simp[xj,hn,Uh];exact .inr ⟨x,_,rfl,hn,h1,h2,q⟩
end
def Uj(a b:Int)(r:List Int):yV (a::b::r)=(decide (a<b)&&yV (b::r)):=rfl
def Vx(xs:List Int)(x:Int):Bool:=match xs.getLast? with |none=>true |some y=>decide (y<x)
theorem ZQ:∀(xs:List Int) (x:Int),yV (xs++[x])=(yV xs&&Vx xs x)
 |[],x=>rfl
 |[a],x=>by show yV [a,x]=_;rw[Uj];simp[yV,Vx]
 |a::b::r,x=>by
  have:=ZQ (b::r) x;show yV (a::b::(r++[x]))=_;rw[Uj,Uj]
  have e:Vx (a::b::r) x=Vx (b::r) x:=by unfold Vx;rw[List.getLast?_cons_cons]
  rw[e,Bool.and_assoc,<- this];rfl
theorem Ui:∀(xs ys:List Int),yV (xs++ys)=true->yV xs=true
 |[],_,_=>rfl
 |[a],_,_=>rfl
 |a::b::r,ys,h=>by
  have h':yV (a::b::(r++ys))=true:=h;rw[Uj,zv] at h';rw[Uj,zv];exact⟨h'.1,Ui (b::r) ys h'.2⟩
def zw0{α β:Type}{f:α->Option β}{xs:List α}{ys:List β}(h:vI f xs=some ys){x:α}(hx:x∈xs):∃y∈ys,f x=some y:=by
 have e:=jp h
 have:f x∈ys.map some:=by rw[<- e];exact List.mem_map_of_mem hx
 obtain⟨y,hy,e2⟩:=zN.mp this;exact⟨y,hy,e2.symm⟩
def zj1{α β:Type}{f:α->Option β}{xs:List α}{ys ts:List β}{j:Nat}(h:vI f xs=some ys)(ht:vI f (xs.take j)=some ts):ys.take j=ts:=by
 have e1:=jp h;have e2:=jp ht;rw[map_take,e1,<- map_take] at e2
 exact(List.map_inj_right (λ_ _ z=>by injection z)).mp e2
def zk3{f w:List Nat}{r:List (List Nat)}{d:Nat}(hd:jT f=some d)(hw:w∈r)(h:∀t,xV w=some t->ky d t=false):wV (f::r)=none:=by
 rw[yE,hd]
 cases e:vI xV r with
 |none=>rfl
 | some ts =>
  obtain⟨t,ht,e2⟩:=zw0 e hw
  have:ts.all (ky d)=false:=by
   rw[List.all_eq_false]
   exact⟨t,ht,by rw[h t e2];decide⟩
  show(if (ts.all (ky d)&&yV (ts.map λt=>t.1))=true then some (d,ts) else none)=none
  rw[this];rfl
def QK{f w:List Nat}{r:List (List Nat)}{d j:Nat}{ts:List Thing}{t:Thing}(hd:jT f=some d)(hj:r[j]?=some w)(hts:vI xV (r.take j)=some ts)(ht:xV w=some t)(hl:Vx (ts.map λt=>t.1) t.1=false):wV (f::r)=none:=by
 rw[yE,hd]
 cases e:vI xV r with
 |none=>rfl
 | some us =>
  have e1:vI xV (r.take (j+1))=some (ts++[t]):=by
   rw[xN,hj];exact Zo hts ht
  have e2:=zj1 e e1
  have:yV (us.map λt=>t.1)=false:=by
   cases hr:yV (us.map λt=>t.1) with
   |false=>rfl
   |true=>
    rw[<- List.take_append_drop (j+1) us,e2,wj] at hr;have h3:=Ui _ _ hr;rw[wj,List.map_singleton,ZQ,hl,Bool.and_false] at h3;cases h3
  show(if (us.all (ky d)&&yV (us.map λt=>t.1))=true then some (d,us) else none)=none
  rw[this,Bool.and_false];rfl
def zq8{d:Nat}(h1:1<=d)(h4:d<=4):zX 32 (hdL d)=[[104,111,117,115,101],[48+d]]:=by
 have:d=1\/d=2\/d=3\/d=4:=w6
 rcases this with rfl |rfl |rfl |rfl<;>decide +kernel
def zk4(o:Option (Nat × List Thing)):D:=match o with |some a=>XF a |none=>.non
def yI(w:List Nat):D:=.lst ((zX 32 w).map λv=>D.str (tx v))
def in4{b:List Nat}{k:D->Prop}(h1:(∃d,1<=d/\d<=4/\b=[48+d])->k (.bl false))(h2:(∀d,1<=d->d<=4->b≠[48+d])->k (.bl true)):zp5 true (.str (tx b)) (.tup [.str (Str.ofString "1"),.str (Str.ofString "2"),.str (Str.ofString "3"),.str (Str.ofString "4")]) k:=by
 have e1:Str.ofString "1" = tx [49]:=x5
 have e2:Str.ofString "2" = tx [50]:=x5
 have e3:Str.ofString "3" = tx [51]:=x5
 have e4:Str.ofString "4" = tx [52]:=x5
 rw[e1,e2,e3,e4];refine⟨rfl,_,.inl rfl,rfl,?_⟩
 have bq:∀c:List Nat,(tx c == tx b)=decide (b=c):=λc=>by
  by_cases z:b=c
  ·subst z;simp
  ·rw[zO z];exact beq_eq_false_iff_ne.mpr λy=>z (Jr y).symm
 have ei:inD (.str (tx b)) [.str (tx [49]),.str (tx [50]),.str (tx [51]),.str (tx [52])]=(decide (b=[49])||(decide (b=[50])||(decide (b=[51])||decide (b=[52])))):=by
  simp[inD,eqD,bq]
 rw[ei]
 by_cases hb:∃d,1<=d/\d<=4/\b=[48+d]
 ·have := h1 hb;obtain⟨d,g1,g2,rfl⟩:=hb
  have g:d=1\/d=2\/d=3\/d=4:=w6
  rcases g with rfl |rfl |rfl |rfl<;>exact this
 ·have hb' : ∀ d, 1 <= d -> d <= 4 -> b ≠ [48 + d] := λd g1 g2 z => hb ⟨d, g1, g2, z⟩;have:=h2 hb'
  have n1:¬ b=[49]:=hb' 1 w9 w9
  have n2:¬ b=[50]:=hb' 2 w9 w9
  have n3:¬ b=[51]:=hb' 3 w9 w9
  have n4:¬ b=[52]:=hb' 4 w9 w9
  simp[n1,n2,n3,n4];exact this
structure JHo(r:List (List Nat))(d n:Nat)(l0 l1:D)(i:Nat)(rho:Rho)(m:Nat):Prop where
 e:m=n
 r:∃(ts:List Thing) (a b c k:Option D),vI xV (r.take i)=some ts/\ts.all (ky d)=true/\yV (ts.map λt=>t.1)=true/\rho=[some l0,some l1,some (.int (d:Int)),some (.own (ts.map wF)),a,b,c,k]
section
variable {P:Program}{w:World}{K:W.Frag}{mg:Str->Option Value}{base:Heap}{f:Addr}{fd:FuncData}
abbrev vO:Stmt:=top 61
abbrev vV:List Str:=["_law_text_here","_law_rows","_law_d","_law_things","_law_words","_law_name","_law_place","_law_worth"]
def ya:FnScope vV ["_law_text_here"] (zL vO):=⟨rfl,rfl,rfl,x5,rfl,x5,x5⟩
def ju:("_law_row" :: vV:List Str).Nodup:=x5
def WM:TF:=λds n Q=>∃l:List Nat,ds=[.str (tx l)]/\l.length<=200000/\Short l/\Q (zk4 (wV (zX 10 l))) n
def zh6(T : Blt mg)(F : Fun K "_law_read_house" "_law_read_house" vO f fd)(Y_read_count : Fn P w K mg base "_law_read_count" 2 1 YI)(Y_read_place : Fn P w K mg base "_law_read_place" 2 2 YH)(Y_read_number : Fn P w K mg base "_law_read_number" 1 1 Wk) : FnOk P w K mg base CX0 3 f fd ["_law_text_here"] (spD K 1 WM) := by
 refine Fun.okD F ya (λ_ _ _ s H E G Z hr=>(zq (jQ (i:=1) ya.nd rfl (lo rfl) (own:=["_law_row"]) (M:=vV) (vi (by rfl)) rfl (vc rfl (kW (ze 0) (zb zJ zf))) (λ_ _ _ _=>(zV (i:=0) ju rfl (lo rfl) w9)) (λ_ _ _ _=>wS) (λ_ _ _ _=>(kW (ze 0) (zb zJ zf))))
  (zq (wt (PWD.pt (vZ (xg Xs Xj (xq we ko T.len kr (zb (yk wb yn (ze 1) zK (λ_ _=>rfl)) zf)) zK (xz _)) (vZ (xg Xs Xj (yk wb yn (yk wb yn (ze 1) zK (λ_ _=>rfl)) zK (λ_ _=>rfl)) zJ (xz _)) (vQ (xg kc (KD (neg:=true)) (yk wb yn (yk wb yn (ze 1) zK (λ_ _=>rfl)) zK (λ_ _=>rfl)) (yK (zb zJ (zb zJ (zb zJ (zb zJ zf))))) (by with_unfolding_all rfl)))))) (zu (zP wA)) xt)
  (zq (xZ (i:=2) ya.nd rfl (lo rfl) (wO Zu zn6 T.int jC (zb (yk wb yn (yk wb yn (ze 1) zK (λ_ _=>rfl)) zK (λ_ _=>rfl)) zf)))
  (zq (Ve (i:=3) ya.nd rfl (lo rfl) zf)
  (zq (ZT (m:=8) PassesOwn.never rfl (vc rfl (JG rfl (ze 1) (wT zK) yr)) (zV (i:=4) ya.nd rfl (lo rfl) w9)
  (zq (wt (xg Xs Xj (xq we ko T.len kr (zb (ze 4) zf)) zK (xz _)) (zu (zP wA)) xt)
  (zq (ze0 (i:=5) (j:=6) (k:=7) rfl ya.nd rfl rfl rfl rfl rfl rfl (zb (xX Y_read_count (hr.mono w9) rfl (zb (yk wb yn (ze 4) zK (λ_ _=>rfl)) zf)) (zb (xX Y_read_place (hr.mono w9) rfl (zb (yk wb yn (ze 4) zK (λ_ _=>rfl)) (zb (ze 2) zf))) (zb (xX Y_read_number (hr.mono w9) rfl (zb (yk wb yn (ze 4) zK (λ_ _=>rfl)) zf)) zf))))
  (zq (wt (PWD.pt (vZ (xg kI kH (ze 5) wA (xz _)) (vZ (xg kI kH (ze 6) wA (xz _)) (vZ (xg kI kH (ze 7) wA (xz _)) (vQ (PWD.pt (qb (zd5 (i:=3) hr rfl) (kT (xg zg8 zc6 (yk wb yn (zu2 (i:=3) (Xn zK) (λ_ _=>rfl)) zK (λ_ _=>rfl)) (ze 5) (xz _)))))))))) (zu (zP wA)) xt)
  (zu (jm (i:=3) (zb (yK (zb (ze 5) (zb (ze 6) (zb (ze 7) zf)))) zf) rfl))))))
  (zu (Vf 3 (zP (yK (zb (ze 2) (zb (wO yO qx T.tuple va (zb (ze 3) zf)) zf)))))))))))) ?_
 rintro ds n Q hl ⟨l,rfl,hlen,hsh,q⟩;have hs:=wM (c:=10) (zX 10 l);rw[xC] at hs
 have hwd:∀w∈zX 10 l,w.length<=200000/\Short w:=λw hw=>⟨zm (hs.2 w hw) hlen,by
  obtain⟨a,b,e⟩:=jq (c:=[10]) hw;rw[xC] at e;rw[e] at hsh
  exact hsh.mid⟩
 have hne:zX 10 l≠[]:=λz=>by
  obtain⟨ps,e,h1,_⟩:=vo 10 l;rw[yP,z] at e;exact h1 (wv.mp e.symm)
 simp[xj,Uh,yU];rw[yP]
 refine⟨by rw[xQ];simp,yz (by rw[xQ];lia),yz (by rw[zj];lia),?_⟩
 rw[zF]
 refine yc (λw=>D.str (tx w)) yI (zX 10 l) (yz w6) (λw hw R hR=>?_) ?_
 ·have h2 := wM (c := 32) (zX 32 w);rw[xC] at h2;have h3:=(hwd w hw).1;simp;rw[yP]
  refine⟨by rw[xQ];simp,yz (by rw[xQ];lia),yz (by rw[zj];lia),?_⟩
  rw[zF];exact hR
 generalize zX 10 l=ws at q hs hwd hne ⊢
 cases ws with
 |nil=>exact absurd rfl hne
 | cons f r =>
  rw[zR]
  have hkl:∀k:D->Prop,k (.int ((zX 32 f).length:Int))->zC3 [yI f] k:=λk h=>by
   unfold yI;rw[zd3,zj];exact h
  have hf:=hwd f (by simp)
  have hrw:∀w∈r,w.length<=200000/\Short w:=λw hw=>hwd w (zh _ hw)
  have hrl:r.length<=200001:=by
   have:=hs.1;rw[zr] at this;lia
  clear hwd hs hne;simp;refine hkl _ ?_
  by_cases h2:(zX 32 f).length=2
  ·match hsp : zX 32 f, h2 with
   | [a, b], _ =>
    have i0:∀k:D->Prop,k (.str (tx a))->Kk (yI f) (.int 0) k:=λk h=>⟨_,_,_,.inl (by unfold yI;rw[hsp];try rfl),rfl,rfl,h⟩
    have i1:∀k:D->Prop,k (.str (tx b))->Kk (yI f) (.int 1) k:=λk h=>⟨_,_,_,.inl (by unfold yI;rw[hsp];try rfl),rfl,rfl,h⟩
    have hj:f=a++32::b:=by
     have:=xC 32 f;rw[hsp] at this;rw[<- this];simp[wW]
    have ha:32 ∉ a:=by
     obtain⟨ps,e,_,h3,_⟩:=vo 32 f
     have:zX 32 f=ps:=by
      unfold zX;rw[e,zF];exact map_id'' (λ_=>rfl) _
     rw[hsp] at this
     exact h3 a (by rw[<- this];simp)
    simp;refine i0 _ ?_
    by_cases hw:a=[104,111,117,115,101]
    ·have e1 : tx a = Str.ofString "house" := by rw [hw, Ko]
     simp[e1];refine i1 _ ?_;refine in4 (fun⟨d,h1,h4,hb⟩=>?_) λhb=>?_
     ·have eh : jT f = some d := by
       have:f=hdL d:=by rw[hj,hw,hb];rfl
       rw[this];exact JU h1 h4
      have ec:Yx (yI f::r.map yI) (some 1) none=r.map yI:=by
       unfold Yx HT.sIx;simp
       exact zQ (by simp)
      simp
      refine i1 _ ⟨_,(d:Int),rfl,by rw[xQ,hb];simp,by rw[hb];exact JQ (JK h1 h4) (by simp),?_⟩
      rw[ec];refine⟨JHo r d n (.str (tx l)) (.lst (yI f::r.map yI)),⟨rfl,[],none,none,none,none,rfl,rfl,rfl,rfl⟩,?_,?_⟩
      ·rintro j dd rho m' he ⟨rfl, ts, a1, a2, a3, a4, hts, hok, hri, rfl⟩;rw[xn] at he
       cases hc:r[j]? with
       |none=>rw[hc] at he;cases he
       | some w =>
        rw[hc] at he;cases he;have hm:=xb hc;obtain⟨hwl,hws⟩:=hrw w hm;have hlt:=(zM.mp hc).1
        have htl:ts.length<=200001:=by
         have:=kz hts;rw[wB] at this;lia
        have nw:xR (yI w)=true:=id rfl
        have hklw:∀k:D->Prop,k (.int ((zX 32 w).length:Int))->zC3 [yI w] k:=λk h=>by
         unfold yI;rw[zd3,zj];exact h
        simp[nw];refine hklw _ ?_
        have bad:(∀t,xV w=some t->ky d t=false)->Q .non m':=λh=>by
         rw[zk3 eh hm h] at q;exact q
        by_cases h3:(zX 32 w).length=3
        ·match hsw : zX 32 w, h3 with
         | [x, y, z], _ =>
          have hsz:=wM (c:=32) (zX 32 w);rw[xC] at hsz
          have hsub:∀v∈[x,y,z],v.length<=200000/\Short v:=λv hv=>⟨zm (hsz.2 v (by rw[hsw];exact hv)) hwl,by
           obtain⟨a',b',e'⟩:=jq (c:=[32]) (ws:=zX 32 w) (by rw[hsw];exact hv)
           rw[xC] at e';rw[e'] at hws
           exact hws.mid⟩
          have er:=Xi hsw
          have j0:∀k:D->Prop,k (.str (tx x))->Kk (yI w) (.int 0) k:=λk h=>⟨_,_,_,.inl (by unfold yI;rw[hsw];try rfl),rfl,rfl,h⟩
          have j1:∀k:D->Prop,k (.str (tx y))->Kk (yI w) (.int 1) k:=λk h=>⟨_,_,_,.inl (by unfold yI;rw[hsw];try rfl),rfl,rfl,h⟩
          have j2:∀k:D->Prop,k (.str (tx z))->Kk (yI w) (.int 2) k:=λk h=>⟨_,_,_,.inl (by unfold yI;rw[hsw];try rfl),rfl,rfl,h⟩
          obtain⟨x1,x2⟩:=hsub x (by simp)
          obtain⟨y1,y2⟩:=hsub y (by simp)
          obtain⟨z1,z2⟩:=hsub z (by simp)
          simp;refine j0 _ ⟨x,rfl,x1,x2,j1 _ ⟨y,d,rfl,y1,y2,j2 _ ⟨z,rfl,z1,z2,_,_,_,⟨rfl,rfl,rfl⟩,?_⟩⟩⟩
          cases hx:Zt (zS x) with
          | none =>
           simp[Wv,yt];refine bad λt ht=>?_;rw[er] at ht
           cases e1:zS x with
           |none=>rw[e1] at ht;cases ht
           | some i =>
            rw[e1] at ht hx;rw[jW] at hx
            cases e2:xS y with
            |none=>rw[e2] at ht;cases ht
            | some p =>
             rw[e2] at ht
             cases e3:zS z with
             |none=>rw[e3] at ht;cases ht
             |some v=>
              rw[e3] at ht;cases ht
              have:¬ 0<=i:=λh=>by rw[if_pos h] at hx;cases hx
              simp[ky,this]
          | some i =>
           have ei:zS x=some i/\0<=i:=by
            cases e1:zS x with
            |none=>rw[e1] at hx;cases hx
            |some i'=>
             rw[e1,jW] at hx
             split at hx
             ·rename_i h0;cases hx;exact⟨rfl,h0⟩
             ·cases hx
           have n1:yt (.int i)=false:=rfl;simp[Wv,n1]
           cases hy:Ws d (xS y) with
           | none =>
            have n0:yt .non=true:=rfl;simp[Ut,n0];refine bad λt ht=>?_;rw[er,ei.1] at ht
            cases e2:xS y with
            |none=>rw[e2] at ht;cases ht
            | some p =>
             rw[e2] at ht hy;rw[qt] at hy
             cases e3:zS z with
             |none=>rw[e3] at ht;cases ht
             |some v=>
              rw[e3] at ht;cases ht
              have:¬ p.length=d:=λh=>by rw[if_pos h] at hy;cases hy
              simp[ky,this]
           | some p =>
            have ep:xS y=some p/\p.length=d:=by
             cases e1:xS y with
             |none=>rw[e1] at hy;cases hy
             |some i'=>
              rw[e1,qt] at hy
              split at hy
              ·rename_i h0;cases hy;exact⟨rfl,h0⟩
              ·cases hy
            have np:xR (wx p)=true:=id rfl;have n2:yt (wx p)=false:=rfl;simp[Ut,np,n2]
            cases hz:zS z with
            |none=>
             have n0:yt .non=true:=rfl;simp[n0];refine bad λt ht=>?_;rw[er,ei.1,ep.1,hz] at ht;cases ht
            | some v =>
             have n3:yt (.int v)=false:=rfl
             have et:xV w=some (i,p,v):=by rw[er,ei.1,ep.1,hz];rfl
             have e5:vI xV (r.take (j+1))=some (ts++[(i,p,v)]):=by
              rw[xN,hc];exact Zo hts et
             have okt:ky d (i,p,v)=true:=by simp[ky,ei.2,ep.2]
             simp[n3]
             have oke:okE (.lst (ts.map wF)) 20=true:=zL6.mpr λe he=>by
              obtain⟨t,_,rfl⟩:=zN.mp he;refine zi3.mpr λe he=>?_;simp only[zi,xl,or_false] at he
              rcases he with rfl |rfl |rfl
              ·simp[okE]
              ·refine zi3.mpr λe he=>?_;obtain⟨x,_,rfl⟩:=zN.mp he;simp[okE]
              ·simp[okE]
             refine⟨oke,?_⟩
             have next:Vx (ts.map λt=>t.1) i=true->ts.length<sizeLine/\JHo r d m' (.str (tx l)) (.lst (yI f::r.map yI)) (j+1)
               [some (.str (tx l)),some (.lst (yI f::r.map yI)),some (.int (d:Int)),some (.own (ts.map wF++[.tup [.int i,wx p,.int v]])),some (yI w),some (.int i),some (wx p),some (.int v)] m':=λhlast=>by
              refine⟨wY htl w9,rfl,ts++[(i,p,v)],some (yI w),some (.int i),some (wx p),some (.int v),e5,?_,?_,?_⟩
              ·rw[List.all_append,hok];simp[okt]
              ·rw[wj,List.map_singleton,ZQ,hri,hlast];rfl
              ·rw[wj];rfl
             rcases wk ts with rfl |⟨ts',t,rfl⟩
             ·rw [if_pos (by simp [Wg])]
              exact next rfl
             ·rw [wl] at *
              have ne:Wg ((ts'++[t]).map wF) []=false:=by
               cases ts'<;>simp[Wg]
              rw[if_neg (by rw[ne];decide)]
              have hat:atI ((ts'++[t]).map wF) (-1)=some (wF t):=by
               unfold atI ixN
               rw[if_neg w9,if_pos (by simp;lia)]
               have e7:(-1+(((ts'++[t]).map wF).length:Int)).toNat=ts'.length:=by simp;lia
               rw[Option.bind_some,e7];simp
              have el:Vx ((ts'++[t]).map λt=>t.1) i=decide (t.1<i):=by
               unfold Vx;rw[wj,List.map_singleton,List.getLast?_append];rfl
              refine⟨_,hat,⟨_,_,_,.inr (.inl rfl),rfl,rfl,?_⟩⟩;simp
              by_cases hlt2:t.1<i
              ·rw [if_neg w6]
               have hnx:=next (by rw[el,xm hlt2])
               simp at hnx;exact hnx
              ·rw [if_pos w6]
               rw[QK eh hc hts et (by rw[el,zO hlt2])] at q
               exact q
        ·have h3' : ¬ ((zX 32 w).length : Int) = 3 := by lia
         simp[h3',h3]
         exact bad λt ht=>by rw[Yr h3] at ht;cases ht
      ·rintro rho m' ⟨rfl, ts, a1, a2, a3, a4, hts, hok, hri, rfl⟩;rw[zj,wn] at hts;rw[yE,eh,hts] at q
       have q':Q (zk4 (if (ts.all (ky d)&&yV (ts.map λt=>t.1))=true then some (d,ts) else none)) m':=q
       rw[hok,hri] at q';simp;exact q'
     ·rw[vR (qY hj ha λd h1 h4 _=>hb d h1 h4)] at q;simp;exact q
    ·have e1 : ¬ tx a = Str.ofString "house" := by rw [Ko, qE]; exact hw
     rw[vR (qY hj ha λd _ _ z=>absurd z hw)] at q;simp[e1];exact q
  ·have h2' : ¬ ((zX 32 f).length : Int) = 2 := by lia
   have e:wV (f::r)=none:=vR (by
    cases e:jT f with
    |none=>rfl
    |some d=>
     obtain⟨h1,h3,h4⟩:=jr e;rw[h1,zq8 h3 h4] at h2
     exact absurd rfl h2)
   rw[e] at q;simp[h2',h2];exact q
end
def jx(t:Thing):List Nat:=wW [32] [jo t.1,Ys t.2.1,jo t.2.2]
def US(d:Nat):List Nat:=[104,111,117,115,101]++32::jo d
def UQ(d:Nat)(ts:List Thing):List Nat:=wW [10] (US d::ts.map jx)
def Qn{d:Nat}{t:Thing}(h:OkTh d t)(hd:d<=4):(jx t).length<=243:=by
 have h1:=yZ h.big
 have h2:=ZU (p:=t.2.1) (by rw[h.ln];exact hd) h.each
 have h3:=yZ h.wr;simp[jx,wW];lia
def zl1{d:Nat}(h:d<=4):(US d).length<=243:=by
 have:=yZ (i:=(d:Int)) w6
 simp[US];lia
section
variable {P:Program}{w:World}{K:W.Frag}{mg:Str->Option Value}{base:Heap}{f:Addr}{fd:FuncData}
abbrev qO:Stmt:=top 47
abbrev je:List Str:=["place"]
def WS:FnScope je ["place"] (zL qO):=⟨rfl,rfl,rfl,x5,rfl,x5,x5⟩
def Xv:("number" :: je:List Str).Nodup:=x5
def kN:TF:=λds n Q=>∃p:List Int,ds=[wx p]/\p.length<=4/\(∀x∈p,x.natAbs<1000000000000000000)/\Q (.str (tx (Ys p))) n
def Vk(F:Fun K "show_place" "show_place" qO f fd)(F_show_number:Fn P w K mg base "show_number" 1 1 yC):FnOk P w K mg base CX0 2 f fd ["place"] (spD K 1 kN):=by
 refine Fun.okD F WS (λ_ _ _ s H E G Z hr=>(zu (zP (qc rfl zJ (zb (vF (own:=["number"]) (M:=je) (vi (by rfl)) rfl (vc rfl (ze 0)) (λ_ _ _ _=>(zV (i:=0) Xv rfl (lo rfl) w9)) (λ_ _ _ _=>wS) (λ_ _ _ _=>(xX F_show_number (hr.mono w9) rfl (zb (ze 0) zf)))) zf))))) ?_
 rintro ds n Q hl ⟨p,rfl,hp,ho,q⟩;have ep:wx p=.tup (p.map D.int):=rfl;rw[ep];simp[xj,YR]
 refine yc D.int (λi=>D.str (tx (jo i))) p (yA w6) (λi hi R hR=>?_) ?_
 ·simp;exact⟨i,rfl,ho i hi,hR⟩
 have e:(p.map λi=>D.str (tx (jo i)))=(p.map jo).map λw=>D.str (tx w):=by rw[zF];rfl
 rw[e]
 exact vf 19 (by simp) (λw hw=>by
  obtain⟨i,hi,rfl⟩:=zN.mp hw
  exact yZ (ho i hi)) (by rw[zj];lia) q
abbrev ZG:Stmt:=top 48
abbrev Yi:List Str:=["ask","shown"]
def Xc:FnScope Yi ["ask"] (zL ZG):=⟨rfl,rfl,rfl,x5,rfl,x5,x5⟩
def Vt:("part" :: Yi:List Str).Nodup:=x5
def Zx:TF:=λds n Q=>∃(d:Nat) (x:Str) (b:List js) (qs:List Part),ds=[YF x b qs]/\1<=d/\d<=4/\AskOk d x b qs/\Q (.str (tx (xa0 x b qs))) n
def KK(T:Blt mg)(F:Fun K "show_ask" "show_ask" ZG f fd)(F_show_number:Fn P w K mg base "show_number" 1 1 yC)(F_show_place:Fn P w K mg base "show_place" 2 1 kN)(F_show_box:Fn P w K mg base "show_box" 3 1 jj):FnOk P w K mg base CX0 4 f fd ["ask"] (spD K 1 Zx):=by
 refine Fun.okD F Xc (λ_ _ _ s H E G Z hr=>(zq (jQ (i:=1) Xc.nd rfl (lo rfl) (own:=["part"]) (M:=Yi) (vi (by rfl)) rfl (vc rfl (zf4 rfl (ze 0) (wT zK) yr)) (λ_ _ _ _=>(zV (i:=0) Vt rfl (lo rfl) w9)) (λ_ _ _ _=>wS) (λ_ _ _ _=>(qW (wG (xq yx vL T.isi vj (zb (ze 0) (zb (qC (hm:=T.tuple) (hv:=va)) zf)))) (xX F_show_place (hr.mono w9) rfl (zb (ze 0) zf)) (xX F_show_number (hr.mono w9) rfl (zb (ze 0) zf)))))
  (zu (zP (qc rfl zJ (zb (vA Ux Um (vA Ux Um (ka (zb (yk wb yn (ze 0) zK (λ_ _=>rfl)) zf)) (ze 1)) (ka (zb (xX F_show_box (hr.mono w9) rfl (zb (yk wb yn (ze 0) zK (λ_ _=>rfl)) zf)) zf))) zf)))))) ?_
 rintro ds n Q hl ⟨d,x,b,qs,rfl,h1,h4,ha,q⟩;have no:xR (YF x b qs)=true:=id rfl;have e2:Yx (.str x::wX b::qs.map yT) (some 2) none=qs.map yT:=zO1 (.str x) [wX b] (qs.map yT);have lq:=ha.ql;have nb:xR (wX b)=true:=id rfl;simp[xj,yU,no];refine⟨_,rfl,?_⟩;dsimp only;rw[e2]
 refine yc yT (λq=>D.str (tx (Uu q))) qs (yA w6) (λpt hpt R hR=>?_) ?_
 ·have op := ha.ps pt hpt
  cases pt with
  |place p=>
   have np:xR (wx p)=true:=id rfl;have i1:Yw "tuple" (wx p)=true:=rfl;have i2:vB (wx p)=true:=rfl;simp[yT,np,i1,i2]
   exact⟨p,rfl,by rw[op.1];exact h4,op.2,hR⟩
  |num k=>
   simp[yT,Yw,vB];exact⟨k,rfl,op.2,hR⟩
 refine ix0 ?_;simp
 refine⟨yA w6,ix1 ⟨b,rfl,by have:=ha.bl;lia,ha.bs,yA w6,?_⟩⟩
 have h0:b.map YB≠[]:=by
  intro z;have hz:=wv.mp z;have hb:=ha.bl;rw[hz] at hb;simp at hb;lia
 have e:(D.str x::(qs.map (λq=>D.str (tx (Uu q)))++[D.str (tx (zD7 b))]))=((x.cps.toList::qs.map Uu)++[zD7 b]).map λw=>D.str (tx w):=by
  rw[wj,zR,zF,<- Yz];rfl
 have ej:wW [32] ((x.cps.toList::qs.map Uu)++[zD7 b])=xa0 x b qs:=UN h0 _;rw[e]
 refine vf 172 (by simp) (λw hw=>?_) (by simp;lia) (by rw[ej];exact q)
 rcases xU.mp hw with hw |hw
 ·rcases zi.mp hw with rfl | hw
  ·exact zm (zE0 x ha.w).2 w9
  ·obtain ⟨pt, hpt, rfl⟩ := zN.mp hw
   exact zm (zg4 (ha.ps pt hpt) h4) w9
 ·rw [xh.mp hw]
  exact zz1 (by have:=ha.bl;lia) ha.bs
abbrev qN:Stmt:=top 49
abbrev Kf:List Str:=["thing","name","place","worth"]
def ku:FnScope Kf qZ0 (zL qN):=⟨rfl,rfl,rfl,x5,rfl,x5,x5⟩
def qG:TF:=λds n Q=>∃(t:Thing) (d:Nat),ds=[wF t]/\1<=d/\d<=4/\OkTh d t/\Q (.str (tx (jx t))) n
def Vj(F:Fun K "show_thing" "show_thing" qN f fd)(F_show_number:Fn P w K mg base "show_number" 1 1 yC)(F_show_place:Fn P w K mg base "show_place" 2 1 kN):FnOk P w K mg base CX0 3 f fd qZ0 (spD K 1 qG):=by
 refine Fun.okD F ku (λ_ _ _ s H E G Z hr=>(zq (qr (m:=4) (ze 0) (vE (k:=3) rfl rfl (xo (zV (i:=1) ku.nd rfl (lo rfl) w9) (xo (zV (i:=2) ku.nd rfl (lo rfl) w9) (xo (zV (i:=3) ku.nd rfl (lo rfl) w9) yH)))))
  (zu (zP (qc rfl zJ (zb (ka (zb (xX F_show_number (hr.mono w9) rfl (zb (ze 1) zf)) (zb (xX F_show_place (hr.mono w9) rfl (zb (ze 2) zf)) (zb (xX F_show_number (hr.mono w9) rfl (zb (ze 3) zf)) zf)))) zf)))))) ?_
 rintro ds n Q hl ⟨t,d,rfl,h1,h4,ht,q⟩;obtain⟨x,p,y⟩:=t;have et:wF (x,p,y)=.tup [.int x,wx p,.int y]:=rfl;have np:xR (wx p)=true:=id rfl
 have hp:p.length<=4:=by have:=ht.ln;simp at this;lia
 rw[et];simp[xj,np,yU];refine⟨x,rfl,ht.big,?_⟩;simp[np];refine⟨p,rfl,hp,ht.each,?_⟩;simp;refine⟨y,rfl,ht.wr,?_⟩
 refine vf (ws:=[jo x,Ys p,jo y]) 100 (by simp) (λw hw=>?_) (by simp) q
 have a1:=yZ ht.big;have a2:=ZU hp ht.each;have a3:=yZ ht.wr;simp only[zi,xl,or_false] at hw
 rcases hw with rfl |rfl |rfl
 ·exact zm a1 w6
 ·exact zm a2 w6
 ·exact zm a3 w6
abbrev qP:Stmt:=top 50
abbrev jf:List Str:=["house","d","things"]
def qk:FnScope jf ["house"] (zL qP):=⟨rfl,rfl,rfl,x5,rfl,x5,x5⟩
def Xw:("thing" :: jf:List Str).Nodup:=x5
def qH:TF:=λds n Q=>∃(d:Nat) (ts:List Thing),ds=[.tup [.int (d:Int),.tup (ts.map wF)]]/\1<=d/\d<=4/\ts.length<=60/\(∀t∈ts,OkTh d t)/\Q (.str (tx (UQ d ts))) n
def zX6{d:Nat}{ts:List Thing}{k:D->Prop}(h4:d<=4)(hz:ts.length<=60)(ho:∀t∈ts,OkTh d t)(h:k (.str (tx (UQ d ts)))):Uo (tx [10]) [.lst (.str (tx (US d))::ts.map λt=>D.str (tx (jx t)))] k:=by
 have e:(D.str (tx (US d))::ts.map λt=>D.str (tx (jx t)))=(US d::ts.map jx).map λw=>D.str (tx w):=by rw[zR,zF];rfl
 rw[e]
 refine vf 243 (by simp) (λw hw=>?_) (by rw[zr,zj];lia) h
 rcases zi.mp hw with rfl |hw
 ·exact zl1 h4
 ·obtain⟨t,ht,rfl⟩:=zN.mp hw;exact Qn (ho t ht) h4
def Vl(F:Fun K "show_house" "show_house" qP f fd)(F_show_number:Fn P w K mg base "show_number" 1 1 yC)(F_show_thing:Fn P w K mg base "show_thing" 3 1 qG):FnOk P w K mg base CX0 4 f fd ["house"] (spD K 1 qH):=by
 refine Fun.okD F qk (λ_ _ _ s H E G Z hr=>(zq (qr (m:=3) (ze 0) (vE (k:=2) rfl rfl (xo (zV (i:=1) qk.nd rfl (lo rfl) w9) (xo (zV (i:=2) qk.nd rfl (lo rfl) w9) yH))))
  (zu (zP (qc rfl zJ (zb (vA Ux Um (ka (zb (vA wC yW zJ (xX F_show_number (hr.mono w9) rfl (zb (ze 1) zf))) zf)) (vF (own:=["thing"]) (M:=jf) (vi (by rfl)) rfl (vc rfl (ze 2)) (λ_ _ _ _=>(zV (i:=0) Xw rfl (lo rfl) w9)) (λ_ _ _ _=>wS) (λ_ _ _ _=>(xX F_show_thing (hr.mono w9) rfl (zb (ze 0) zf))))) zf)))))) ?_
 rintro ds n Q hl ⟨d,ts,rfl,h1,h4,hz,ho,q⟩;have nt:∀t:Thing,xR (wF t)=true:=λt=>id rfl;simp[xj,Uh,JS]
 have hn:=yZ (i:=(d:Int)) w6
 refine⟨(d:Int),rfl,w6,yX (by simp;lia) ?_⟩
 refine yc wF (λt=>D.str (tx (jx t))) ts (yA w6) (λt ht R hR=>?_) ?_
 ·simp[nt];exact⟨t,d,rfl,h1,h4,ho t ht,hR⟩
 refine⟨_,_,rfl,rfl,yA (by simp;lia),?_⟩
 exact zX6 h4 hz ho q
end
def zy2{m:Nat}(h:m<10):dg m=[48+m]:=by
 unfold dg;rw[Nat.toDigits_of_lt_base h]
 have:∀m,m<10->[(Nat.digitChar m).toNat]=[48+m]:=w9
 exact this m h
def zN7{a m:Nat}(ha:0<a)(h:m<10):dg (10*a+m)=dg a++[48+m]:=by
 unfold dg
 rw[Nat.toDigits_of_base_le w9 w6,wj,show(10*a+m)/10=a by lia,show(10*a+m)%10=m by lia]
 have:∀m,m<10->[(Nat.digitChar m)].map Char.toNat=[48+m]:=w9
 rw[this m h]
def VR(l:List Nat)(c:Nat):Yn (l++[c])=10*Yn l+(c-48):=by
 unfold Yn;rw[List.foldl_append];rfl
def zl9{c:Nat}:wc c=true↔48<=c/\c<=57:=by simp[wc]
def zN6(l:List Nat):l≠[]->l.all wc=true->l.head?≠some 48->dg (Yn l)=l/\0<Yn l:=by
 refine List.reverseRecOn' (p:=λl=>l≠[]->l.all wc=true->l.head?≠some 48->dg (Yn l)=l/\0<Yn l) l (λh=>absurd rfl h) λb c ih _ ha hh=>?_;rw[all_append,zv] at ha
 have hc:=zl9.mp (by simpa using ha.2)
 cases hb:b with
 |nil=>
  subst hb
  have hc2:c≠48:=λz=>hh (by rw[z];rfl)
  have e:Yn [c]=c-48:=by simp[Yn]
  rw[yf,e,zy2 w6,show 48+(c-48)=c by lia]
  exact⟨rfl,w6⟩
 |cons x b'=>
  rw[<- hb]
  have hne:b≠[]:=by rw[hb];simp
  have h0:b.head?≠some 48:=λz=>hh (by rw[hb] at z ⊢;exact z)
  obtain⟨i1,i2⟩:=ih hne ha.1 h0
  rw[VR,zN7 i2 w6,i1,show 48+(c-48)=c by lia]
  exact⟨rfl,w6⟩
def zE1(l:List Nat):l.all wc=true->Yn l<10^l.length:=by
 refine List.reverseRecOn' (p:=λl=>l.all wc=true->Yn l<10^l.length) l (λ_=>by simp[Yn]) λb c ih ha=>?_
 rw[all_append,zv] at ha
 have hc:=zl9.mp (by simpa using ha.2)
 have:=ih ha.1;rw[VR,zE,xE,Nat.pow_succ];lia
def JJ{l:List Nat}{i:Int}(h:zS l=some i):ke l≠[]/\(ke l).all wc=true/\((ke l).head?=some 48->l=[48])/\i=if l.head?=some 45 then -(Yn (ke l):Int) else Yn (ke l):=by
 unfold zS at h
 split at h
 ·cases h
 ·rename_i hn
  refine⟨λz=>hn (.inl z),?_,λz=>?_,by injection h with h;exact h.symm⟩
  ·cases e : (ke l).all wc with
   |true=>rfl
   |false=>exact absurd (.inr (.inl e)) hn
  ·exact Classical.byContradiction λy=>hn (.inr (.inr ⟨z,y⟩))
def qu{l:List Nat}{i:Int}(h:zS l=some i):jo i=l:=by
 obtain⟨h1,h2,h3,rfl⟩:=JJ h
 by_cases h0:(ke l).head?=some 48
 ·rw[h3 h0];decide +kernel
 obtain⟨e,hp⟩:=zN6 _ h1 h2 h0;unfold jo
 by_cases hm:l.head?=some 45
 ·rw [if_pos hm, if_pos w6, Int.natAbs_neg, Int.natAbs_natCast, e]
  exact(vS hm).symm
 ·rw [if_neg hm, if_neg w6, Int.natAbs_natCast, e]
  exact vz hm
def Je(l:List Nat):∃a,l=a++ke l:=by
 by_cases hm:l.head?=some 45
 ·exact⟨[45],vS hm⟩
 ·exact⟨[],(vz hm).symm⟩
def UB{l:List Nat}{i:Int}(h:zS l=some i)(hs:Short l):i.natAbs<1000000000000000000:=by
 obtain⟨h1,h2,h3,rfl⟩:=JJ h;obtain⟨a,ea⟩:=Je l
 have hl:=hs a (ke l) [] (by rw[xv];exact ea) h2
 have hv:=zE1 _ h2
 have:10^(ke l).length<=10^18:=Nat.pow_le_pow_right w9 hl
 split<;>simp<;>lia
def XH{l sg rest c1 c2:List Nat}{e:End}(h:zp6 l sg rest c1 c2=some e):(l=[45]/\e=none)\/∃i,(sg=c1\/sg=c2)/\zS rest=some i/\e=some (i,decide (sg=c1)):=by
 unfold zp6 at h
 split at h
 ·rename_i h0;cases h;exact .inl ⟨h0,rfl⟩
 ·split at h
  ·cases h
  ·rename_i hb
   cases hr:zS rest with
   |none=>rw[hr] at h;cases h
   |some i=>
    rw[hr] at h;cases h;refine .inr ⟨i,?_,rfl,rfl⟩
    by_cases z:sg=c1
    ·exact .inl z
    ·exact .inr (Classical.byContradiction λy=>hb ⟨z,y⟩)
def zw2{l:List Nat}{e:End}(h:ki l=some e):zW5 e=l:=by
 rcases XH h with ⟨rfl,rfl⟩ |⟨i,hb,hr,rfl⟩
 ·rfl
 ·show (if decide (l.take 1 = [91]) = true then 91 else 40) :: jo i = l
  rw[qu hr]
  cases l with
  |nil=>simp at hb
  |cons a r=>
   have e1:(a::r).take 1=[a]:=rfl;have e2:(a::r).drop 1=r:=rfl;rw[e1] at hb ⊢;rw[e2]
   rcases hb with hb |hb
   ·cases hb;rfl
   ·cases hb;rfl
def zk7{l:List Nat}{e:End}(h:vm l=some e):zk8 e=l:=by
 rcases XH h with ⟨rfl,rfl⟩ |⟨i,hb,hr,rfl⟩
 ·rfl
 ·show jo i ++ [if decide (l.drop (l.length - 1) = [93]) = true then 93 else 41] = l
  rw[qu hr]
  rcases wk l with rfl |⟨r,a,rfl⟩
  ·simp at hb
  ·rw [wl] at hb ⊢
   have e1:(r++[a]).drop ((r++[a]).length-1)=[a]:=by simp
   have e2:(r++[a]).dropLast=r:=by simp
   rw[e1] at hb ⊢;rw[e2]
   rcases hb with hb |hb
   ·cases hb;rfl
   ·cases hb;rfl
def zD0{l sg rest c1 c2:List Nat}{e:End}(h:zp6 l sg rest c1 c2=some e)(hs:Short rest):KW e:=by
 rcases XH h with ⟨_,rfl⟩ |⟨i,_,hr,rfl⟩
 ·intro i b z;cases z
 ·intro j b z;cases z;exact UB hr hs
def VY{l:List Nat}{s:js}(h:xI l=some s):∃a b,l=a++46::46::b/\ki a=some s.1/\vm b=some s.2:=by
 unfold xI at h
 split at h
 ·cases h
 ·rename_i a b hc
  split at h
  ·rename_i x y hx hy;cases h;exact⟨a,b,(kK hc).1,hx,hy⟩
  ·cases h
def zb1{l:List Nat}{s:js}(h:xI l=some s):YB s=l:=by
 obtain⟨a,b,rfl,h1,h2⟩:=VY h;unfold YB;rw[zw2 h1,zk7 h2]
def zE9{l:List Nat}{s:js}(h:xI l=some s)(hs:Short l):Wu s:=by
 obtain⟨a,b,rfl,h1,h2⟩:=VY h
 have sa:Short a:=by
  have:=hs.take a.length
  simpa using this
 have sb:Short b:=by
  have:=hs.drop (a.length+2)
  rwa [show(a++46::46::b).drop (a.length+2)=b by simp[List.drop_append]] at this
 refine⟨zD0 h1 (sa.drop 1),zD0 h2 ?_⟩;have:=sb.take (b.length-1)
 rwa [<- List.dropLast_eq_take] at this
def qf{ws:List (List Nat)}{d:Nat}{b:List js}(h:xa ws d=some b):ws.length=d/\b.length=d/\b.map YB=ws/\∀s∈b,∃w∈ws,xI w=some s:=by
 unfold xa at h
 split at h
 ·rename_i hc;obtain⟨hf,hd⟩:=hc;cases h;refine⟨hd,hf.trans hd,?_,λs hs=>?_⟩
  ·have all : ∀ w ∈ ws, ∃ s, xI w = some s := λw hw => by
    cases e:xI w with
    |some s=>exact⟨s,rfl⟩
    |none=>exact absurd hf (XG hw e)
   clear hf hd
   induction ws with
   |nil=>rfl
   |cons w ws ih=>
    obtain⟨s,e⟩:=all w xi;rw[List.filterMap_cons_some e,zR,zb1 e,ih λv hv=>all v (zh _ hv)]
  ·obtain⟨w,hw,e⟩:=List.mem_filterMap.mp hs;exact⟨w,hw,e⟩
 ·cases h
def vM{c:Nat}{l:List Nat}(h:Short l):∀w∈zX c l,Short w:=λw hw=>by
 obtain⟨a,b,e⟩:=jq (c:=[c]) hw;rw[xC] at e
 exact Short.mid (a:=a) (c:=b) (by rw[<- e];exact h)
def zz0{l:List Nat}{d:Nat}{b:List js}(h:xa (zX 32 l) d=some b):zD7 b=l:=by
 unfold zD7;rw[(qf h).2.2.1,xC]
def Jq{ws:List (List Nat)}{d:Nat}{b:List js}(h:xa ws d=some b)(hs:∀w∈ws,Short w):∀s∈b,Wu s:=λs hm=>by
 obtain⟨w,hw,e⟩:=(qf h).2.2.2 s hm;exact zE9 e (hs w hw)
theorem XA{α β:Type}{f:α->Option β}{g:β->α}(hg:∀a b,f a=some b->g b=a):∀{xs:List α}{ys:List β},vI f xs=some ys->ys.map g=xs
 |[],ys,h=>by cases h;rfl
 |a::r,ys,h=>by
  unfold vI at h;obtain⟨b,hb,h⟩:=zY.mp h;obtain⟨bs,hbs,rfl⟩:=zT.mp h;rw[zR,hg a b hb,XA hg hbs]
theorem Zp{α β:Type}{f:α->Option β}:∀{xs:List α}{ys:List β},vI f xs=some ys->∀y∈ys,∃x∈xs,f x=some y
 |[],ys,h,y,hy=>by cases h;cases hy
 |a::r,ys,h,y,hy=>by
  unfold vI at h;obtain⟨b,hb,h⟩:=zY.mp h;obtain⟨bs,hbs,rfl⟩:=zT.mp h
  rcases zi.mp hy with rfl |hy
  ·exact⟨a,xi,hb⟩
  ·obtain⟨x,hx,e⟩:=Zp hbs y hy;exact⟨x,zh _ hx,e⟩
def Wr{l:List Nat}{p:List Int}(h:xS l=some p):Ys p=l:=by
 unfold xS at h;unfold Ys;rw[XA (λ_ _=>qu) h,xC]
def JE{l:List Nat}{p:List Int}(h:xS l=some p)(hs:Short l):∀x∈p,x.natAbs<1000000000000000000:=λx hx=>by
 obtain⟨w,hw,e⟩:=Zp h x hx;exact UB e (vM hs w hw)
theorem Wz{α β γ:Type}{f:α->Option β}{g:β->γ}{h:α->γ}(hg:∀a b,f a=some b->g b=h a):∀{xs:List α}{ys:List β},vI f xs=some ys->ys.map g=xs.map h
 |[],ys,e=>by cases e;rfl
 |a::r,ys,e=>by
  unfold vI at e;obtain⟨b,hb,e⟩:=zY.mp e;obtain⟨bs,hbs,rfl⟩:=zT.mp e;rw[zR,zR,hg a b hb,Wz hg hbs]
theorem zg3:∀(z:List Nat × Bool) (q:Part),yN z=some q->Uu q=z.1
 |(w,true),q,h=>by
  obtain⟨p,hp,rfl⟩:=zT.mp h;exact Wr hp
 |(w,false),q,h=>by
  obtain⟨i,hi,rfl⟩:=zT.mp h;exact qu hi
theorem zJ9{d:Nat}:∀{z:List Nat × Bool}{q:Part},yN z=some q->Short z.1->Kl d q=true->OkP d q
 |(w,true),q,h,hs,ho=>by
  obtain⟨p,hp,rfl⟩:=zT.mp h
  exact⟨by simpa [Kl] using ho,JE hp hs⟩
 |(w,false),q,h,hs,ho=>by
  obtain⟨i,hi,rfl⟩:=zT.mp h
  exact⟨by simpa [Kl] using ho,UB hi hs⟩
def Qe{l:List Nat}{d:Nat}{a:Str × List js × List Part}(hd:1<=d)(h:vb (zX 32 l) d=some a)(hs:Short l):xa0 a.1 a.2.1 a.2.2=l/\AskOk d a.1 a.2.1 a.2.2:=by
 have sh:=vM (c:=32) hs;have hj:=xC 32 l;generalize zX 32 l=ws at h sh hj
 cases ws with
 |nil=>cases h
 | cons w0 r =>
  rw[yJ] at h
  split at h
  case isFalse=>cases h
  rename_i hw;obtain⟨qs,hq,h⟩:=zY.mp h;obtain⟨b,hb,h⟩:=zY.mp h
  split at h
  case isFalse=>cases h
  rename_i ho;cases h;have sr:∀w∈r,Short w:=λw hm=>sh w (zh _ hm);obtain⟨k1,k2,k3,_⟩:=qf hb;rw[wo] at k1;generalize hks:wH (tx w0)=ks at hq hb k1 k3
  have lt:(r.take ks.length).length=ks.length:=by rw[wB];lia
  have e1:qs.map Uu=r.take ks.length:=by
   rw[Wz (h:=Prod.fst) zg3 hq,List.map_fst_zip w6]
  have ew:(tx w0).cps.toList=w0:=rfl;refine⟨?_,hw,?_,k2,Jq hb λw hm=>sr w (List.mem_of_mem_drop hm),λq hm=>?_,?_⟩
  ·show xa0 (tx w0) b qs=l;unfold xa0 xu7;rw[ew,e1,k3,List.take_append_drop,hj]
  ·show atS Yu Yv (tx w0) = _
   have e2:(wH (tx w0)).map (λb=>D.str (jv b))=qs.map λq=>D.str (Zr q):=by
    have:=jR hq w6
    have e3:(qs.map Zr).map D.str=(ks.map jv).map D.str:=by rw[this]
    rw[zF,zF] at e3;rw[hks];exact e3.symm
   rw[Vy _ hw,e2]
  ·obtain⟨z,hz,e⟩:=Zp hq q hm;have hz1:=(ye (a:=z.1) (b:=z.2) hz).1;exact zJ9 e (sr _ (List.mem_of_mem_take hz1)) (zZ.mp ho q hm)
  ·have:=congrArg List.length e1;rw[zj,lt] at this;show qs.length<=2;rw[this,<- hks];exact UK _
def Qm{w:List Nat}{t:Thing}(h:xV w=some t):jx t=w:=by
 have hj:=xC 32 w;unfold xV at h
 split at h
 ·rename_i a b c e;obtain⟨i,hi,h⟩:=zY.mp h;obtain⟨p,hp,h⟩:=zY.mp h;obtain⟨v,hv,rfl⟩:=zT.mp h;unfold jx;rw[qu hi,Wr hp,qu hv,<- e,hj]
 ·cases h
def zq4{d:Nat}{w:List Nat}{t:Thing}(h:xV w=some t)(hs:Short w)(ho:ky d t=true):OkTh d t:=by
 have sh:=vM (c:=32) hs;unfold xV at h
 split at h
 ·rename_i a b c e;rw[e] at sh;obtain⟨i,hi,h⟩:=zY.mp h;obtain⟨p,hp,h⟩:=zY.mp h;obtain⟨v,hv,rfl⟩:=zT.mp h
  have ho:decide (0<=i)=true/\decide (p.length=d)=true:=by simpa [ky] using ho
  exact⟨of_decide_eq_true ho.1,UB hi (sh a (by simp)),of_decide_eq_true ho.2,JE hp (sh b (by simp)),UB hv (sh c (by simp))⟩
 ·cases h
def zl0{d:Nat}(h1:1<=d)(h4:d<=4):US d=hdL d:=by
 have:jo (d:Int)=[48+d]:=qu (JK h1 h4);unfold US hdL;rw[this];rfl
def WD{l:List Nat}{a:Nat × List Thing}(h:wV (zX 10 l)=some a)(hs:Short l):UQ a.1 a.2=l/\1<=a.1/\a.1<=4/\(∀t∈a.2,OkTh a.1 t)/\a.2.length+1=(zX 10 l).length:=by
 have sh:=vM (c:=10) hs;have hj:=xC 10 l;generalize zX 10 l=ws at h sh hj
 cases ws with
 |nil=>cases h
 |cons f r=>
  rw[yE] at h;obtain⟨d,hd,h⟩:=zY.mp h;obtain⟨ts,ht,h⟩:=zY.mp h
  split at h
  case isFalse=>cases h
  rename_i ho;cases h;rw[zv] at ho;obtain⟨rfl,h1,h4⟩:=jr hd;refine⟨?_,h1,h4,λt hm=>?_,?_⟩
  ·show UQ d ts=l;unfold UQ;rw[zl0 h1 h4,XA (λ_ _=>Qm) ht,hj]
  ·obtain⟨w,hw,e⟩:=Zp ht t hm;exact zq4 e (sh w (zh _ hw)) (zZ.mp ho.1 t hm)
  ·show ts.length+1=_;rw[zr,kz ht]
def Runs(l:List Nat):Prop:=∀k,Zc (l.take k)<=18
def Runs.short{l:List Nat}:Runs l->Short l:=by
 refine List.reverseRecOn' (p:=λl=>Runs l->Short l) l (λ_=>Short.nil) λb c ih h=>?_;refine Short.snoc (ih λk=>?_) ?_
 ·by_cases hk : k <= b.length
  ·have := h k
   rwa [List.take_append_of_le_length hk] at this
  ·have := h b.length;rw[List.take_append_of_le_length (zk _),wn] at this
   rwa [zQ w6]
 ·have := h (b ++ [c]).length
  rwa [wn] at this
def zF5(a b:List Nat){c:Nat}(hc:wc c=false):Zc (a++c::b)=Zc b:=by
 unfold Zc;rw[List.foldl_append,foldl_cons,hc];rfl
def Runs.sep{a b:List Nat}{c:Nat}(ha:Runs a)(hb:Runs b)(hc:wc c=false):Runs (a++c::b):=λk=>by
 by_cases hk:k<=a.length
 ·rw[List.take_append_of_le_length hk];exact ha k
 ·obtain ⟨m, rfl⟩ : ∃ m, k = a.length + (m + 1) := ⟨k - a.length - 1, by lia⟩
  rw[List.take_length_add_append,List.take_succ_cons,zF5 _ _ hc];exact hb m
theorem Runs.join{c:Nat}(hc:wc c=false):∀{ws:List (List Nat)},(∀w∈ws,Runs w)->Runs (wW [c] ws)
 |[],_=>λk=>by simp[wW,Zc]
 |[a],h=>h a (by simp)
 | a :: b :: r, h => by
  have e:wW [c] (a::b::r)=a++c::wW [c] (b::r):=by
   show a++[c]++wW [c] (b::r)=_;simp
  rw[e]
  exact(h a (by simp)).sep (Runs.join hc λw hw=>h w (zh _ hw)) hc
def zr4(l:List Nat):Zc l<=(l.filter wc).length:=by
 refine List.reverseRecOn' (p:=λl=>Zc l<=(l.filter wc).length) l (by simp[Zc]) λb c ih=>?_
 rw[Wo,List.filter_append,zE]
 cases e:wc c with
 |true=>simp[e];exact ih
 |false=>simp
def Runs.few{l:List Nat}(h:(l.filter wc).length<=18):Runs l:=λk=>
 zm (zr4 _) (zm (((List.take_sublist k l).filter _).length_le) h)
structure TxOk(l:List Nat):Prop where
 r:Runs l
 z:l.length<=1000
 nl:l.count 10<=20
def okB(m:Nat)(x:Str):Bool:=decide (x.cps.toList.length<=m)&&decide ((x.cps.toList.filter wc).length<=18)&&decide (x.cps.toList.count 10=0)
structure WOk(m:Nat)(l:List Nat):Prop where
 r:Runs l
 z:l.length<=m
 nl:l.count 10=0
def JI{m:Nat}{x:Str}(h:okB m x=true):WOk m x.cps.toList:=by
 unfold okB at h;simp only[zv,decide_eq_true_eq] at h;exact⟨.few h.1.2,h.1.1,h.2⟩
def WOk.sep{m k:Nat}{a b:List Nat}{c:Nat}(ha:WOk m a)(hb:WOk k b)(hc:wc c=false)(h10:c≠10):WOk (m+1+k) (a++c::b):=by
 refine⟨ha.r.sep hb.r hc,?_,?_⟩
 ·have:=ha.z;have:=hb.z;rw[zE,zr];lia
 ·rw[wf,List.count_cons,ha.nl,hb.nl];simp[h10]
theorem WF{c:Nat}(hc:c≠10):∀{ws:List (List Nat)},(∀w∈ws,w.count 10=0)->(wW [c] ws).count 10=0
 |[],_=>rfl
 |[a],h=>h a (by simp)
 |a::b::r,h=>by
  show(a++[c]++wW [c] (b::r)).count 10=0
  rw[wf,wf,h a (by simp),WF hc λw hw=>h w (zh _ hw)]
  simp[hc]
def WOk.join{m k:Nat}{c:Nat}(hc:wc c=false)(h10:c≠10){ws:List (List Nat)}(h:∀w∈ws,WOk m w)(hk:ws.length<=k):WOk (k*(m+1)) (wW [c] ws):=by
 refine⟨.join hc λw hw=>(h w hw).r,?_,WF h10 λw hw=>(h w hw).nl⟩;have h1:=qX (c:=[c]) (m:=m) λw hw=>(h w hw).z;exact zm h1 (Nat.mul_le_mul_right _ hk)
def Zi{xs:List String}{j:Int}(h0:0<=j)(h1:j<xs.length){k:D->Prop}(h:∀x∈xs,k (.str (Str.ofString x))){ds:List D}(e:ds=xs.map λx=>D.str (Str.ofString x):=by rfl):Kk (.lst ds) (.int j) k:=by
 subst e;obtain⟨m,rfl⟩:=xF h0
 have hm:m<xs.length:=w6
 have hat:atI (xs.map λx=>D.str (Str.ofString x)) (m:Int)=some (.str (Str.ofString xs[m])):=by
  unfold atI ixN
  rw[if_pos w6,if_pos (by rw[zj];lia)]
  simp[hm]
 exact⟨_,_,_,.inl rfl,rfl,hat,h _ (getElem_mem hm)⟩
def zM3:List String:=["-","[3","(-2","[0","[12345678901234567","-","(7","[-0"]
def zk6:List String:=["-","3]","-2)","0]","12345678901234567]","-","7)","05]"]
def zw1:∀x∈zM3,okB 19 (Str.ofString x)=true:=x5
def zk5:∀x∈zk6,okB 19 (Str.ofString x)=true:=x5
section
variable {P:Program}{w:World}{K:W.Frag}{mg:Str->Option Value}{base:Heap}{f:Addr}{fd:FuncData}
abbrev kh:Stmt:=top 64
abbrev YG:List Str:=["_law_left_here","_law_lows","_law_highs","_law_low"]
def yY:FnScope YG qZ6 (zL kh):=⟨rfl,rfl,rfl,x5,rfl,x5,x5⟩
def Kr:TF:=λds n Q=>ds=[.st]/\n=2/\∀l,WOk 40 l->Q (.str (tx l)) n
def zv1(T:Blt mg)(F:Fun K "_law_box_piece" "_law_box_piece" kh f fd)(Y_pick:Fn P w K mg base "_law_pick" 1 2 YU):FnOk P w K mg base CX0 2 f fd qZ6 (spD K 1 Kr):=by
 refine Fun.okD F yY (λ_ _ _ s H E G Z hr=>(zq (xZ (i:=1) yY.nd rfl (lo rfl) (ka (zb zJ (zb zJ (zb zJ (zb zJ (zb zJ (zb zJ (zb zJ (zb zJ zf))))))))))
  (zq (xZ (i:=2) yY.nd rfl (lo rfl) (ka (zb zJ (zb zJ (zb zJ (zb zJ (zb zJ (zb zJ (zb zJ (zb zJ zf))))))))))
  (zq (xZ (i:=3) yY.nd rfl (lo rfl) (yk wb yn (ze 1) (xX Y_pick (hr.mono w9) rfl (zb (ze 0) (zb (zf3 zK (wO jc XJ T.int jC (zb (vJ zg7 zc5 (xX Y_pick (hr.mono w9) rfl (zb (ze 0) (zb zK zf))) zK (xz _)) zf))) zf))) (λ_ _=>rfl)))
  (zu (zP (vA wC yW (vA wC yW (ze 3) zJ) (yk wb yn (ze 2) (xX Y_pick (hr.mono w9) rfl (zb (ze 0) (zb (zf3 zK (wO jc XJ T.int jC (zb (vJ zg7 zc5 (xX Y_pick (hr.mono w9) rfl (zb (ze 0) (zb zK zf))) zK (xz _)) zf))) zf))) (λ_ _=>rfl))))))))) ?_
 rintro ds n Q hl ⟨rfl,rfl,q⟩;have l8:zM3.length=8:=rfl;have h8:zk6.length=8:=rfl;simp[xj]
 refine⟨yA w9,yb w9 w9 λa ha0 ha1=>?_⟩
 simp
 refine yb (by split<;>lia) (by split<;>lia) λj hj0 hj1=>?_
 refine Zi (xs:=zM3) hj0 (by split at hj1<;>lia) λx hx=>?_
 have ox:=JI (zw1 x hx)
 have lx:(Str.ofString x).length=(Str.ofString x).cps.toList.length:=by rw[<- xQ,<- Yz]
 have zx:=ox.z;simp[Yb]
 refine⟨yz (by rw[lx,xQ,zr,xE];lia),yb w9 w9 λb hb0 hb1=>?_⟩
 simp
 refine yb (by split<;>lia) (by split<;>lia) λk hk0 hk1=>?_
 refine Zi (xs:=zk6) hk0 (by split at hk1<;>lia) λy hy=>?_
 have oy:=JI (zk5 y hy)
 have ly:(Str.ofString y).length=(Str.ofString y).cps.toList.length:=by rw[<- xQ,<- Yz]
 have zy:=oy.z;rw[Yz (Str.ofString x),Yz (Str.ofString y),Za];simp
 refine⟨yz (by rw[xQ,xQ,zE,zr,xE];lia),?_⟩
 rw[Za];have e:(Str.ofString x).cps.toList++46::46::(Str.ofString y).cps.toList=(Str.ofString x).cps.toList++46::([]++46::(Str.ofString y).cps.toList):=rfl;refine q _ ?_
 have w0:WOk 0 []:=⟨λk=>by simp[Zc],zk _,rfl⟩
 have:=ox.sep (w0.sep oy (c:=46) rfl w9) (c:=46) rfl w9
 simpa using this
abbrev ZP:Stmt:=top 66
abbrev Ym:List Str:=["_law_left_here","_law_some"]
def Xf:FnScope Ym qZ6 (zL ZP):=⟨rfl,rfl,rfl,x5,rfl,x5,x5⟩
def Vw:("_law_k" :: Ym:List Str).Nodup:=x5
def zO7:List String:=["-","[","]","(",")","..","5","-3","0"," "," ",",","count","near","house 1","\n","x",".","-..-"]
structure SmOk(l:List Nat):Prop where
 z:l.length<=7
 f:(l.filter wc).length<=1
 nl:l.count 10<=1
def zz3:∀x∈zO7,(Str.ofString x).cps.toList.length<=7/\((Str.ofString x).cps.toList.filter wc).length<=1/\(Str.ofString x).cps.toList.count 10<=1:=x5
theorem UM:∀ws:List (List Nat),wW [] ws=ws.flatten
 |[]=>rfl
 |[a]=>by simp[wW]
 |a::b::r=>by
  show a++[]++wW [] (b::r)=_;rw[UM (b::r),xv];rfl
def zF0{ws:List (List Nat)}(h:∀w∈ws,SmOk w):ws.flatten.length<=ws.length*7/\(ws.flatten.filter wc).length<=ws.length/\ws.flatten.count 10<=ws.length:=by
 induction ws with
 |nil=>simp
 |cons a r ih=>
  obtain⟨h1,h2,h3⟩:=ih λw hw=>h w (zh _ hw);have ha:=h a xi;have:=ha.z;have:=ha.f;have:=ha.nl;rw[List.flatten_cons,zE,List.filter_append,zE,wf,zr];lia
theorem WQ{p:List Nat->Prop}:∀{items es:List D},Paired (λ_ e=>∃l:List Nat,p l/\e=.str (tx l)) items es->∃ws:List (List Nat),es=ws.map (λw=>D.str (tx w))/\ws.length=items.length/\∀w∈ws,p w
 |[],_,h=>by cases h;exact⟨[],rfl,rfl,λw hw=>by cases hw⟩
 | x :: items, _, h => by
  cases h with
  |@cons _ e _ es h1 h2=>
   obtain⟨l,hp,rfl⟩:=h1;obtain⟨ws,rfl,hl,hw⟩:=WQ h2
   refine⟨l::ws,rfl,by rw[zr,hl,zr],λw hm=>?_⟩
   rcases zi.mp hm with rfl |hm
   ·exact hp
   ·exact hw w hm
def zE4:TF:=λds n Q=>ds=[.st]/\n=2/\∀l,TxOk l->Q (.str (tx l)) n
def zW0(T:Blt mg)(F:Fun K "_law_any" "_law_any" ZP f fd)(Y_pick:Fn P w K mg base "_law_pick" 1 2 YU):FnOk P w K mg base CX0 2 f fd qZ6 (spD K 1 zE4):=by
 refine Fun.okD F Xf (λ_ _ _ s H E G Z hr=>(zq (xZ (i:=1) Xf.nd rfl (lo rfl) (ka (zb zJ (zb zJ (zb zJ (zb zJ (zb zJ (zb zJ (zb zJ (zb zJ (zb zJ (zb zJ (zb zJ (zb zJ (zb zJ (zb zJ (zb zJ (zb zJ (zb zJ (zb zJ zf))))))))))))))))))))
  (zu (zP (qc rfl zJ (zb (vF (own:=["_law_k"]) (M:=Ym) (vi (by rfl)) rfl (Xk T.range (zb (qB zK (xX Y_pick (hr.mono w9) rfl (zb (ze 0) (zb zK zf)))) zf)) (λ_ _ _ _=>(zV (i:=0) Vw rfl (lo rfl) w9)) (λ_ _ _ _=>wS) (λ_ _ _ _=>(yk wb yn (vA Ux Um (ze 2) (ka (zb zJ zf))) (xX Y_pick (hr.mono w9) rfl (zb (ze 1) (zb zK zf))) (λ_ _=>rfl)))) zf)))))) ?_
 rintro ds n Q hl ⟨rfl,rfl,q⟩;have l19:zO7.length=19:=rfl;simp[xj]
 refine⟨yA w9,yb w9 w9 λa ha0 ha1=>?_⟩
 simp
 refine⟨w6,w6,XO _ 2 (λ_ e=>∃l,SmOk l/\e=.str (tx l)) (yA (by rw[qU];lia)) (λi e he R hR=>?_) λes hes=>?_⟩
 ·simp
  refine⟨yA w9,yb w9 w9 λk hk0 hk1=>?_⟩
  refine Zi (xs:=zO7) hk0 w6 λx hx=>?_
  obtain⟨h1,h2,h3⟩:=zz3 x hx
  exact hR _ ⟨_,⟨h1,h2,h3⟩,by rw[<- Yz]⟩
 ·obtain ⟨ws, rfl, hws, hw⟩ := WQ hes;rw[qU] at hws;obtain⟨h1,h2,h3⟩:=zF0 hw;rw[Zs]
  refine vf 7 w9 (λw hm=>(hw w hm).z) w6 ?_
  rw[UM]
  exact q _ ⟨.few w6,w6,w6⟩
end
def WOk.tx{m:Nat}{l:List Nat}(h:WOk m l)(hm:m<=1000):TxOk l:=⟨h.r,zm h.z hm,by rw[h.nl];lia⟩
def WOk.more{m k:Nat}{l:List Nat}(h:WOk m l)(hk:m<=k):WOk k l:=⟨h.r,zm h.z hk,h.nl⟩
def zt3{ds:List D}{j:Int}(h0:0<=j)(h1:j<ds.length){k:D->Prop}(h:∀e∈ds,k e):Kk (.lst ds) (.int j) k:=by
 obtain⟨m,rfl⟩:=xF h0
 have hm:m<ds.length:=w6
 have hat:atI ds (m:Int)=some ds[m]:=by
  unfold atI ixN
  rw[if_pos w6,if_pos w6]
  simp[hm]
 exact⟨_,_,_,.inl rfl,rfl,hat,h _ (getElem_mem hm)⟩
def zL8:List String:=["0","-4","17","-0"]
def Kn:List String:=["0","-5","99","+1"]
def zv5:∀x∈zL8,okB 2 (Str.ofString x)=true:=x5
def Qh:∀x∈Kn,okB 2 (Str.ofString x)=true:=x5
def xt1(x:Str):Bool:=decide (x.cps.toList.dropLast++[32]=x.cps.toList)&&decide (x.cps.toList.dropLast.length<=30)&&decide ((x.cps.toList.dropLast.filter wc).length<=18)&&decide (x.cps.toList.dropLast.count 10=0)
def xu9(e:D):Prop:=∃p,e=.str (tx (p++[32]))/\WOk 30 p
def zH8{x:Str}(h:xt1 x=true):xu9 (.str x):=by
 unfold xt1 at h;simp only[zv,decide_eq_true_eq] at h;refine⟨x.cps.toList.dropLast,?_,.few h.1.2,h.1.1.2,h.2⟩;rw[h.1.1.1,<- Yz]
def zi5{i:Int}(h0:0<=i)(h:i.natAbs<1000000000000000000):WOk 18 (jo i):=by
 have e:jo i=dg i.natAbs:=if_neg w6
 have hl:=zm4 h;rw[e]
 exact⟨.few (zm (List.length_filter_le ..) hl),hl,List.count_eq_zero.mpr λz=>by have:=zy3 z;lia⟩
theorem JY:∀{ws:List (List Nat)},(∀w∈ws,w.count 10=0)->(wW [10] ws).count 10<=ws.length
 |[],_=>by simp[wW]
 |[a],h=>by rw[show wW [10] [a]=a from rfl,h a (by simp)];simp
 |a::b::r,h=>by
  have:=JY (ws:=b::r) λw hw=>h w (zh _ hw);show(a++[10]++wW [10] (b::r)).count 10<=_
  rw[wf,wf,h a (by simp),zr]
  simp at this ⊢;lia
structure JRow(hd:List (Option D))(i:Nat)(rho:Rho)(n':Nat):Prop where
 e:n'=2
 r:∃(ws:List (List Nat)) (z:Option D),ws.length=i+1/\(∀w∈ws,WOk 60 w)/\rho=hd++[some (.own (ws.map λw=>D.str (tx w))),z]
section
variable {P:Program}{w:World}{K:W.Frag}{mg:Str->Option Value}{base:Heap}{f:Addr}{fd:FuncData}
abbrev jM:Stmt:=top 65
abbrev kM:List Str:=["_law_left_here","_law_kind","_law_d","_law_box","_law_place","_law_some","_law_rows","_law_k"]
def vv:FnScope kM xl3 (zL jM):=⟨rfl,rfl,rfl,x5,rfl,x5,x5⟩
def We:("_law_i" :: kM:List Str).Nodup:=x5
def Wd:("_law_i" :: kM:List Str).Nodup:=x5
def za3:TF:=λds n Q=>∃(kind d:Nat),ds=[.st,.int (kind:Int),.int (d:Int)]/\n=2/\kind<3/\1<=d/\d<=4/\∀l,TxOk l->Q (.str (tx l)) n
def zK5(T:Blt mg)(F:Fun K "_law_text" "_law_text" jM f fd)(Y_pick:Fn P w K mg base "_law_pick" 1 2 YU)(Y_box_piece:Fn P w K mg base "_law_box_piece" 2 1 Kr):FnOk P w K mg base CX0 3 f fd xl3 (spD K 3 za3):=by
 refine Fun.okD F vv (λ_ _ _ s H E G Z hr=>(zq (xZ (i:=3) vv.nd rfl (lo rfl) (qc rfl zJ (zb (vF (own:=["_law_i"]) (M:=kM) (vi (by rfl)) rfl (Xk T.range (zb (ze 2) zf)) (λ_ _ _ _=>(zV (i:=0) We rfl (lo rfl) w9)) (λ_ _ _ _=>wS) (λ_ _ _ _=>(xX Y_box_piece (hr.mono w9) rfl (zb (ze 1) zf)))) zf)))
  (zq (wt (xg km kj (ze 1) zK (xz _)) (zu (zP (ze 3))) xt)
  (zq (xZ (i:=4) vv.nd rfl (lo rfl) (qc rfl zJ (zb (vF (own:=["_law_i"]) (M:=kM) (vi (by rfl)) rfl (Xk T.range (zb (ze 2) zf)) (λ_ _ _ _=>(zV (i:=0) Wd rfl (lo rfl) w9)) (λ_ _ _ _=>wS) (λ_ _ _ _=>(yk wb yn (ka (zb zJ (zb zJ (zb zJ (zb zJ zf))))) (xX Y_pick (hr.mono w9) rfl (zb (ze 1) (zb (zf3 zK (wO jc XJ T.int jC (zb (vJ zg7 zc5 (xX Y_pick (hr.mono w9) rfl (zb (ze 1) (zb zK zf))) zK (xz _)) zf))) zf))) (λ_ _=>rfl)))) zf)))
  (zq (wt (xg km kj (ze 1) zK (xz _)) (zq (xZ (i:=5) vv.nd rfl (lo rfl) (ka (zb zJ (zb zJ (zb zJ (zb zJ (zb zJ (zb zJ (zb zJ (zb (vA wC yW (vA wC yW zJ (ze 4)) zJ) zf))))))))))
  (zu (zP (vA wC yW (yk wb yn (vA Ux Um (ze 5) (ka (zb zJ (zb zJ zf)))) (xX Y_pick (hr.mono w9) rfl (zb (ze 0) (zb zK zf))) (λ_ _=>rfl)) (ze 3))))) xt)
  (zq (Ve (i:=6) vv.nd rfl (lo rfl) (zb (vA wC yW zJ (wO jb zn4 T.str XR (zb (ze 2) zf))) zf))
  (zq (ZT (m:=8) PassesOwn.never rfl (Xk T.range (zb (xX Y_pick (hr.mono w9) rfl (zb (ze 0) (zb zK zf))) zf)) (zV (i:=7) vv.nd rfl (lo rfl) w9)
  (zu (jm (i:=6) (zb (vA wC yW (vA wC yW (vA wC yW (vA wC yW (wO jb zn4 T.str XR (zb (qB (ze 7) (xX Y_pick (hr.mono w9) rfl (zb (ze 0) (zb zK zf)))) zf)) zJ) (ze 4)) zJ) (yk wb yn (ka (zb zJ (zb zJ (zb zJ (zb zJ zf))))) (xX Y_pick (hr.mono w9) rfl (zb (ze 0) (zb zK zf))) (λ_ _=>rfl))) zf) rfl)))
  (zu (Vf 6 (zP (qc rfl zJ (zb (ze 6) zf)))))))))))) ?_
 rintro ds n Q hl ⟨kind,d,rfl,rfl,hk3,hd1,hd4,q⟩;generalize hS:zp4 (sIf _ _ _) _=S;simp[xj]
 refine⟨w6,XO _ 2 (λ_ e=>∃l,WOk 40 l/\e=.str (tx l)) (yA (by rw[qU];lia)) (λi e he R hR=>?_) λes hes=>?_⟩
 ·simp;exact⟨rfl,rfl,λl hl=>hR _ ⟨l,hl,rfl⟩⟩
 ·obtain ⟨ws, rfl, hws, hw⟩ := WQ hes;rw[qU] at hws;rw[yU]
  refine vf 40 w9 (λw hm=>(hw w hm).z) w6 ?_
  have hb:=WOk.join (c:=32) (k:=4) rfl w9 hw w6
  generalize wW [32] ws=box at hb;subst hS;generalize hS:zp4 (zQ9 4 _) _=S;simp
  rcases(show kind=0\/kind≠0 by lia) with rfl |hk0
  ·simp
   exact q _ (hb.tx w6)
  rw[if_neg w6]
  subst hS;generalize hS:zp4 (sIf _ _ _) _=S;simp
  refine⟨w6,XO _ 2 (λ_ e=>∃l,WOk 2 l/\e=.str (tx l)) (yA (by rw[qU];lia)) (λi e he R hR=>?_) λes hes=>?_⟩
  ·simp
   refine yb w9 w9 λa ha0 ha1=>?_
   simp
   refine yb (by split<;>lia) (by split<;>lia) λk hj0 hj1=>?_
   have l4:zL8.length=4:=rfl
   refine Zi (xs:=zL8) hj0 (by split at hj1<;>lia) λx hx=>?_
   exact hR _ ⟨_,JI (zv5 x hx),by rw[<- Yz]⟩
  ·obtain ⟨vs, rfl, hvs, hv⟩ := WQ hes;rw[qU] at hvs;rw[YR]
   refine vf 2 w9 (λw hm=>(hv w hm).z) w6 ?_
   have hp:=WOk.join (c:=44) (k:=4) rfl w9 hv w6
   generalize wW [44] vs=place at hp;subst hS;generalize hS:zp4 (xf0 6 _) _=S;have zp:=hp.z;simp
   rcases(show kind=1\/kind=2 by lia) with rfl |rfl
   ·have n5 : Str.ofString "near " = tx [110, 101, 97, 114, 32] := by decide +kernel
    have t3:Str.ofString " 3 " = tx [32,51,32]:=x5
    simp;rw[n5,t3,Za,Za]
    refine⟨yz (by rw[xQ,xQ];simp;lia),yz (by rw[xQ,xQ];simp;lia),yA w9,yA w9,yb w9 w9 λk hj0 hj1=>zt3 hj0 (by simp;lia) λe he=>?_⟩
    have hpre:xu9 e:=by
     simp only[zi,xl,or_false] at he
     rcases he with rfl |rfl |rfl |rfl |rfl |rfl |rfl |rfl |rfl |rfl
     case inr.inr.inr.inr.inr.inr.inr.inl=>
      have w4:WOk 4 [110,101,97,114]:=⟨.few w9,w9,w9⟩
      have w1:WOk 1 [51]:=⟨.few w9,w9,w9⟩
      exact⟨[110,101,97,114]++32::(place++32::[51]),by simp,(w4.sep (hp.sep w1 (c:=32) rfl w9) (c:=32) rfl w9).more w6⟩
     all_goals exact zH8 x5
    obtain⟨p,rfl,ok⟩:=hpre;have z1:=ok.z;have z2:=hb.z
    refine yX (by rw[zE,xE];lia) (q _ ?_)
    rw[append_assoc]
    exact(ok.sep hb (c:=32) rfl w9).tx w6
   ·simp;subst hS;simp;have es:∀ i:Int,Str.ofString i.repr=tx (jo i):=str_int
    have dw:=zi5 (i:=(d:Int)) w6 w6
    have zd:=dw.z;rw[es,JS,Za]
    refine⟨zD (ZY (i:=(d:Int)) w6) (zk _),yz (by rw[xQ,xQ];simp;lia),yb w9 w9 λm hm0 hm1=>?_⟩
    refine⟨m,rfl,w6,w6,JRow [some .st,some (.int 2),some (.int (d:Int)),some (.str (tx box)),some (.str (tx place)),none],⟨rfl,[[104,111,117,115,101,32]++jo (d:Int)],none,rfl,?_,rfl⟩,?_,?_⟩
    ·intro w hw;rw[xh.mp hw]
     have w5:WOk 5 [104,111,117,115,101]:=⟨.few w9,w9,w9⟩
     exact(w5.sep dw (c:=32) rfl w9).more w6
    ·rintro i dd rho n' e ⟨rfl, ws, z, hws2, hw2, rfl⟩;obtain⟨hi,rfl⟩:=zA7 e;simp
     refine⟨wY (show ws.length<=10 by lia) w9,yb w9 w9 λa ha0 ha1=>?_⟩
     have nw:=zi5 (i:=(i:Int)+a) w6 w6
     have zn:=nw.z;have w4l:Kn.length=4:=rfl;simp;rw[es,yU];simp only[Za]
     have lz:∀a b:List Nat,a.length+b.length<=1000->(tx a).length+(tx b).length<=sizeLine:=λa b h=>yz (by rw[xQ,xQ];lia)
     refine⟨ZY w6,lz _ _ (by simp;lia),lz _ _ (by simp;lia),lz _ _ (by simp;lia),yb w9 w9 λk hj0 hj1=>?_⟩
     refine Zi (xs:=Kn) hj0 w6 λx hx=>?_
     have ox:=JI (Qh x hx);have zx:=ox.z;rw[Yz (Str.ofString x)]
     refine yX (by simp only[zE,zr,yg];lia) ⟨rfl,ws++[jo ((i:Int)+a)++[32]++place++[32]++(Str.ofString x).cps.toList],some (.int (i:Int)),by rw[zE,hws2];rfl,λw hm=>?_,by rw[wj];rfl⟩
     rcases xU.mp hm with hm |hm
     ·exact hw2 w hm
     ·rw [xh.mp hm]
      have:=nw.sep (hp.sep ox (c:=32) rfl w9) (c:=32) rfl w9
      have e:jo ((i:Int)+a)++[32]++place++[32]++(Str.ofString x).cps.toList=jo ((i:Int)+a)++32::(place++32::(Str.ofString x).cps.toList):=by simp
      rw[e]
      exact this.more w6
    ·rintro rho n' ⟨rfl, ws, z, hws2, hw2, rfl⟩;rw[qU] at hws2;simp;rw[Uh]
     refine vf 60 w9 (λw hm=>(hw2 w hm).z) w6 (q _ ?_)
     have h1:=qX (c:=[10]) (m:=60) λw hm=>(hw2 w hm).z;have h2:=JY λw hm=>(hw2 w hm).nl
     have h3:ws.length*(60+1)<=6*61:=Nat.mul_le_mul_right _ w6
     exact⟨.join rfl λw hm=>(hw2 w hm).r,zm h1 (zm h3 w9),w6⟩
end
def Wm(l:List Nat):(zX 10 l).length=l.count 10+1/\∀w∈zX 10 l,w.count 10=0:=by
 obtain⟨ps,e,h1,h2,h3⟩:=vo 10 l
 have:zX 10 l=ps:=by
  unfold zX;rw[e,zF];exact map_id'' (λ_=>rfl) _
 rw[this];refine⟨?_,λw hw=>List.count_eq_zero.mpr (h2 w hw)⟩
 have gen:∀ps:List (List Nat),ps≠[]->(∀p∈ps,10 ∉ p)->ps.length=(wW [10] ps).count 10+1:=by
  intro ps
  induction ps with
  |nil=>intro h;exact absurd rfl h
  | cons a r ih =>
   intro _ h
   have ha:a.count 10=0:=List.count_eq_zero.mpr (h a (by simp))
   cases r with
   |nil=>simp[wW,ha]
   |cons b r=>
    have:=ih (by simp) λp hp=>h p (zh _ hp)
    show _=(a++[10]++wW [10] (b::r)).count 10+1;rw[wf,wf,ha,zr,this];simp;lia
 rw[gen ps h1 h2,h3]
def kX(kind:Nat)(l:List Nat)(d:Nat):Option D:=
 if kind=0 then(xa (zX 32 l) d).map wX else if kind=1 then(vb (zX 32 l) d).map (λa=>YF a.1 a.2.1 a.2.2) else(wV (zX 10 l)).map XF
def zE3(o:Option D)(l:List Nat):D:=match o with |some v=>.tup [.str "read",v,.str (tx l)] |none=>.tup [.str "none",.non,.non]
section
variable {P:Program}{w:World}{K:W.Frag}{mg:Str->Option Value}{base:Heap}{f:Addr}{fd:FuncData}
abbrev jL:Stmt:=top 63
abbrev Jn:List Str:=["_law_kind","_law_text_here","_law_d","_law_found","_law_caught","e"]
def yD:FnScope Jn xl2 (zL jL):=⟨rfl,rfl,rfl,x5,rfl,x5,x5⟩
def za2:TF:=λds n Q=>∃(kind:Nat) (l:List Nat) (d:Nat),ds=[.int (kind:Int),.str (tx l),.int (d:Int)]/\kind<3/\1<=d/\d<=4/\TxOk l/\Q (zE3 (kX kind l d) l) n
def zK4{C CB C1 C2 C3 C4:Addr}(T:Blt mg)(F:Fun K "_law_told" "_law_told" jL f fd)(FX_read_box:FnX P w K mg base "read_box" 6 2 C Zz)(FX_read_ask:FnX P w K mg base "read_ask" 8 2 C ZA)(FX_read_house:FnX P w K mg base "read_house" 6 1 C qJ)
  (F_show_box:Fn P w K mg base "show_box" 3 1 jj) (F_show_ask:Fn P w K mg base "show_ask" 4 1 Zx) (F_show_house:Fn P w K mg base "show_house" 4 1 qH) (EC:ExcC K C) (CX_BoxError:mg "BoxError" = some (.ref CB)) (EXM:W.exmOne K (.ref C) (.ref CB)=some true)
  (CX_NoText:mg "NoText" = some (.ref C)) (KIT_NoText:W.kitOne K (.ref C) (.ref C)=some true) (VE:mg "ValueError" = none) (KIT_ValueError:W.kitOne K (.ref C) (.type "ValueError")=some true)
  (CX_NoLine:mg "NoLine" = some (.ref C1)) (CX_NoNumber:mg "NoNumber" = some (.ref C2)) (CX_NoThing:mg "NoThing" = some (.ref C3)) (CX_Taken:mg "Taken" = some (.ref C4)) (KIT_tup:W.kitAny K (.ref C) ([V.ref C1,V.ref C2,V.ref C3,V.ref C4].map zD5)=some false) :
  FnOk P w K mg base CX0 9 f fd xl2 (spD K 3 za2):=by
 refine Fun.okD F yD (λ_ _ _ s H E G Z hr=>(zq (qr (m:=6) (yK (zb wA (zb wA zf))) (vE (k:=2) rfl rfl (xo (zV (i:=3) yD.nd rfl (lo rfl) w9) (xo (zV (i:=4) yD.nd rfl (lo rfl) w9) yH))))
  (zq (zs8 (zd7 (xg km kj (ze 0) zK (xz _)) (Vd (j:=3) (i:=5) FX_read_box (hr.mono w9) rfl (zb (ze 1) (zb (ze 2) zf)) CX_BoxError EXM yD.nd rfl rfl rfl rfl
  (λev=>(zu (xZ (i:=4) yD.nd rfl (lo rfl) (ze 5)))))
  (zd7 (xg km kj (ze 0) zK (xz _)) (Vd (j:=3) (i:=5) FX_read_ask (hr.mono w9) rfl (zb (ze 1) (zb (ze 2) zf)) CX_BoxError EXM yD.nd rfl rfl rfl rfl
  (λev=>(zu (xZ (i:=4) yD.nd rfl (lo rfl) (ze 5)))))
  (Vd (j:=3) (i:=5) FX_read_house (hr.mono w9) rfl (zb (ze 1) zf) CX_BoxError EXM yD.nd rfl rfl rfl rfl
  (λev=>(zu (xZ (i:=4) yD.nd rfl (lo rfl) (ze 5))))))))
  (zq (wt (xg kI kH (ze 4) wA (xz _)) (zu (zP (yK (zb zJ (zb (ze 3) (zb (zu1 (i:=0) F_show_box F_show_ask F_show_house (hr.mono w9) (hr.mono w9) (hr.mono w9) rfl rfl (by first |exact .inl rfl |exact .inr (.inl rfl)) (zb (ze 3) zf)) zf)))))) xt)
  (zq (wt (PWD.pt (vZ (vq (wG (zJ3 EC (ze 4) CX_NoText KIT_NoText T.isi))) (vQ (vq (wG (zJ4 EC (ze 4) VE VC KIT_ValueError T.isi)))))) (zu (zP (yK (zb zJ (zb wA (zb wA zf)))))) xt)
  (zu (zP (qW (wG (zJ2 EC (ze 4) (vt (zf0 CX_NoLine) (vt (zf0 CX_NoNumber) (vt (zf0 CX_NoThing) (vt (zf0 CX_Taken) Xr)))) (yA (by simp)) rfl KIT_tup T.isi)) (yK (zb zJ (zb wA (zb wA zf)))) (yK (zb zJ (zb wA (zb wA zf)))))))))))) ?_
 have ne:xR (D.exc C)=true:=id rfl;rintro ds n Q hl ⟨kind,l,d,rfl,hk,hd1,hd4,ok,q⟩;have sh:=ok.r.short;have hz:=ok.z
 rcases(show kind=0\/kind=1\/kind=2 by lia) with rfl |rfl |rfl
 ·simp [xj, zr3, Jg]
  refine .inl ⟨l,d,rfl,w6,hd1,hd4,?_⟩
  have qe:kX 0 l d=(xa (zX 32 l) d).map wX:=rfl;rw[qe] at q
  cases hr:xa (zX 32 l) d with
  |none=>
   rw[hr] at q;rw[qz];simp[ne];exact q
  |some b=>
   have nb:xR (wX b)=true:=id rfl;rw[hr] at q;rw[kA];simp[nb,yt]
   refine⟨0,w6,rfl,.inl ⟨rfl,b,rfl,by rw[(qf hr).2.1];exact hd4,Jq hr (vM sh),?_⟩⟩
   rw[zz0 hr];exact q
 ·simp [xj, zr3, Jg]
  refine .inl ⟨l,d,rfl,w6,hd1,hd4,?_⟩
  have qe:kX 1 l d=(vb (zX 32 l) d).map (λa=>YF a.1 a.2.1 a.2.2):=rfl;rw[qe] at q
  cases hr:vb (zX 32 l) d with
  |none=>
   rw[hr] at q;rw[qz];simp[ne,yt];exact q
  |some a=>
   have nb:xR (YF a.1 a.2.1 a.2.2)=true:=id rfl;obtain⟨hb,ho⟩:=Qe hd1 hr sh;rw[hr] at q;rw[kA];simp[nb]
   refine⟨1,w6,rfl,.inr (.inl ⟨rfl,d,a.1,a.2.1,a.2.2,rfl,hd1,hd4,ho,?_⟩)⟩
   rw[hb];exact q
 ·simp [xj, zr3, Jg]
  refine .inl ⟨l,rfl,w6,?_⟩
  have qe:kX 2 l d=(wV (zX 10 l)).map XF:=rfl;rw[qe] at q
  cases hr:wV (zX 10 l) with
  |none=>
   rw[hr] at q;rw[qz];simp[ne,yt];exact q
  |some a=>
   have nb:xR (XF a)=true:=id rfl;obtain⟨hb,h1,h4,ho,hlen⟩:=WD hr sh;have:=(Wm l).1;have:=ok.nl;rw[hr] at q;rw[kA];simp[nb]
   refine⟨2,w6,rfl,.inr (.inr ⟨rfl,a.1,a.2,rfl,h1,h4,w6,ho,?_⟩)⟩
   rw[hb];exact q
end
def zL4(e:End)(k:Nat):okT (vK e) (k+1)=true:=by
 rcases e with _ |⟨i,b⟩
 ·simp[vK,okT]
 ·exact qd.mpr ⟨by simp,by simp[okT]⟩
def zi2{b:List js}(h:b.length<=4)(k:Nat):okT (wX b) (k+3)=true:=by
 refine qd.mpr ⟨by rw[zj];lia,λd hd=>?_⟩
 obtain⟨s,_,rfl⟩:=zN.mp hd
 exact qd.mpr ⟨by simp,by simp[zL4]⟩
def zv2{d:Nat}{q:Part}(h:OkP d q)(hd:d<=4):okT (yT q) 3=true:=by
 cases q with
 |place p=>
  refine qd.mpr ⟨by rw[zj,h.1];lia,λe he=>?_⟩
  obtain⟨x,_,rfl⟩:=zN.mp he;simp[okT]
 |num k=>simp[yT,okT]
def zL5{d:Nat}{x:Str}{b:List js}{qs:List Part}(h:AskOk d x b qs)(hd:d<=4):okT (YF x b qs) 4=true:=by
 have lq:=h.ql;have lb:=h.bl
 refine qd.mpr ⟨by simp;lia,λe he=>?_⟩
 rcases zi.mp he with rfl |he
 ·simp[okT]
 ·rcases zi.mp he with rfl | he
  ·exact zi2 w6 0
  ·obtain⟨q,hq,rfl⟩:=zN.mp he;exact zv2 (h.ps q hq) hd
def zi1{d:Nat}{ts:List Thing}(h:∀t∈ts,OkTh d t)(hd:d<=4)(hz:ts.length<=60):okT (.tup [.int (d:Int),.tup (ts.map wF)]) 4=true:=by
 refine qd.mpr ⟨by simp,λe he=>?_⟩
 simp only[zi,xl,or_false] at he
 rcases he with rfl |rfl
 ·simp[okT]
 refine qd.mpr ⟨by rw[zj];lia,λe he=>?_⟩
 obtain⟨t,ht,rfl⟩:=zN.mp he
 refine qd.mpr ⟨by simp,λe he=>?_⟩
 simp only[zi,xl,or_false] at he
 rcases he with rfl |rfl |rfl
 ·simp[okT]
 ·refine qd.mpr ⟨by rw [zj, (h t ht).ln]; lia, λe he => ?_⟩
  obtain⟨x,_,rfl⟩:=zN.mp he;simp[okT]
 ·simp[okT]
def zx5{kind d:Nat}{l:List Nat}{v:D}(h:kX kind l d=some v)(hd1:1<=d)(hd4:d<=4)(ok:TxOk l):∃es,v=.tup es/\okT v 4=true:=by
 have sh:=ok.r.short;unfold kX at h
 split at h
 ·obtain ⟨b, hb, rfl⟩ := zT.mp h
  exact⟨_,rfl,zi2 (by rw[(qf hb).2.1];exact hd4) 1⟩
 ·split at h
  ·obtain⟨a,ha,rfl⟩:=zT.mp h;exact⟨_,rfl,zL5 (Qe hd1 ha sh).2 hd4⟩
  ·obtain ⟨a, ha, rfl⟩ := zT.mp h;obtain⟨_,h1,h4,ho,hlen⟩:=WD ha sh;have:=(Wm l).1;have:=ok.nl
   exact⟨_,rfl,zi1 ho h4 w6⟩
def zP4(o:Option D):D:=match o with |some v=>v |none=>.non
def xB0(l:List Nat)(d:Nat):QX (xa (zX 32 l) d)=zP4 (kX 0 l d):=by
 have e:kX 0 l d=(xa (zX 32 l) d).map wX:=rfl;rw[e]
 cases xa (zX 32 l) d<;>rfl
def xA9(l:List Nat)(d:Nat):xu8 (vb (zX 32 l) d)=zP4 (kX 1 l d):=by
 have e:kX 1 l d=(vb (zX 32 l) d).map (λa=>YF a.1 a.2.1 a.2.2):=rfl;rw[e]
 cases vb (zX 32 l) d<;>rfl
def xA8(l:List Nat)(d:Nat):zk4 (wV (zX 10 l))=zP4 (kX 2 l d):=by
 have e:kX 2 l d=(wV (zX 10 l)).map XF:=rfl;rw[e]
 cases wV (zX 10 l)<;>rfl
def zM8{c:Prop}{i:Decidable c}{A B:Prop}(h:c)(a:A):@ite Prop c i A B:=by rw[if_pos h];exact a
def zX9{c:Prop}{i:Decidable c}{A B:Prop}(h:¬ c)(b:B):@ite Prop c i A B:=by rw[if_neg h];exact b
structure JLaw(ns:List Int)(i:Nat)(rho:Rho)(n:Nat):Prop where
 e:n=2
 r:∃(a b c d e f g h k:Option D),rho=[some (wm ns),a,b,c,d,e,f,g,h,k]
structure JTx(hd:List (Option D))(i:Nat)(rho:Rho)(n:Nat):Prop where
 e:n=2
 r:∃(a b c d e:Option D),rho=hd++[a,b,c,d,e]
section
variable {P:Program}{w:World}{K:W.Frag}{mg:Str->Option Value}{base:Heap}{f:Addr}{fd:FuncData}
abbrev WV:Stmt:=top 67
abbrev xn4:List Str:=["_law_script","_law_k","_law_left_here","_law_kind","_law_d","_law_text_here","_law_due","_law_word","_law_found","_law_again"]
def qL:FnScope xn4 ["_law_script"] (zL WV):=⟨rfl,rfl,rfl,x5,rfl,x5,x5⟩
def zV9(T:Blt mg)(F:Fun K "law" "law" WV f fd)(Y_left:Fn P w K mg base "_law_left" 2 2 za5)(Y_pick:Fn P w K mg base "_law_pick" 1 2 YU)(Y_text:Fn P w K mg base "_law_text" 3 3 za3)(Y_any:Fn P w K mg base "_law_any" 2 1 zE4)(Y_read_box:Fn P w K mg base "_law_read_box" 3 2 Jt)(Y_read_ask:Fn P w K mg base "_law_read_ask" 4 2 za6)(Y_read_house:Fn P w K mg base "_law_read_house" 3 1 WM)(Y_same:Fn P w K mg base "_law_same" 5 2 (Js 5))(Y_told:Fn P w K mg base "_law_told" 9 3 za2) :
  FnOk P w K mg base CX0 10 f fd ["_law_script"] (Ua K):=by
 refine Fun.okLaw F qL 2 (λ_ _ _ s H E hr=>(zq (ZT (m:=10) PassesOwn.never rfl (Xk T.range (zb (xq (Ka rfl) zn5 T.max zD6 (zb zK (zb (xq (zo4 rfl) zO2 T.min zZ7 (zb zK (zb (xq we ko T.len kr (zb (ze 0) zf)) zf))) zf))) zf)) (zV (i:=1) qL.nd rfl (lo rfl) w9)
  (zs7 (i:=2) rfl qL.nd rfl (lo rfl) Y_left (hr.mono w9) rfl (zb (ze 0) (zb (ze 1) zf)) (λc Z H0=>(zq (JD (i:=3) (j:=4) rfl qL.nd rfl rfl w9 rfl rfl (zb (xX Y_pick (hr.mono w9) rfl (zb (ze 2) (zb zK zf))) (zb (qB zK (xX Y_pick (hr.mono w9) rfl (zb (ze 2) (zb zK zf)))) zf)))
  (zu (ZT (m:=10) PassesOwn.never rfl (vc rfl (ka (zb (xX Y_text (hr.mono w9) rfl (zb (ze 2) (zb (ze 3) (zb (ze 4) zf)))) (zb (xX Y_any (hr.mono w9) rfl (zb (ze 2) zf)) (zb (xX Y_text (hr.mono w9) rfl (zb (ze 2) (zb (ze 3) (zb (ze 4) zf)))) zf))))) (zV (i:=5) qL.nd rfl (lo rfl) w9)
  (zq (wt (xg km kj (ze 3) zK (xz _)) (zu (xZ (i:=6) qL.nd rfl (lo rfl) (xX Y_read_box (hr.mono w9) rfl (zb (kW (ze 5) (zb zJ zf)) (zb (ze 4) zf))))) (zu (wt (xg km kj (ze 3) zK (xz _)) (zu (xZ (i:=6) qL.nd rfl (lo rfl) (xX Y_read_ask (hr.mono w9) rfl (zb (ze 5) (zb (ze 4) zf))))) (zu (xZ (i:=6) qL.nd rfl (lo rfl) (xX Y_read_house (hr.mono w9) rfl (zb (ze 5) zf)))))))
  (zq (qr (m:=10) (xX Y_told (hr.mono w9) rfl (zb (ze 3) (zb (ze 5) (zb (ze 4) zf)))) (vE (k:=3) rfl rfl (xo (zV (i:=7) qL.nd rfl (lo rfl) w9) (xo (zV (i:=8) qL.nd rfl (lo rfl) w9) (xo (zV (i:=9) qL.nd rfl (lo rfl) w9) yH)))))
  (zq (wt (PWD.pt (vZ (xg (zh0 hr) (zA8 rfl) (vJ (zB9 hr) (zA9 rfl) (ze 7) zJ (xz _)) (vJ kI kH (ze 6) wA (xz _)) (xz _)) (vQ (xg (zB9 hr) (zA9 rfl) (ze 7) zJ (xz _))))) (zu (zP Zj)) xt)
  (zu (wt (PWD.pt (qb (xg zg5 zc4 (ze 6) wA (xz _)) (kT (PWD.pt (vZ (vq (wG (xX Y_same (hr.mono w9) rfl (zb (ze 8) (zb (ze 6) zf))))) (vQ (xg (zh0 hr) (zA8 rfl) (ze 9) (ze 5) (xz _)))))))) (zu (zP Zj)) xt)))))))))))
  (zu (zP Zj)))) ?_
 intro ns hns;have nsc:xR (wm ns)=true:=id rfl
 have oks:∀s:Str,okE (.str s) 20=true:=λs=>by simp[okE]
 have okb:∀b:Bool,okE (.bl b) 20=true:=λb=>by simp[okE]
 have q0:eqD (.bl (eqD (.str "none") (.str "none"))) (.bl true)=true:=by simp[eqD]
 have n1:¬ Str.ofString "read" = Str.ofString "none" := by decide +kernel
 have n2:¬ Str.ofString "none" = Str.ofString "other" := by decide +kernel
 have n3:¬ Str.ofString "read" = Str.ofString "other" := by decide +kernel
 have q1:eqD (.bl (eqD (.str "read") (.str "none"))) (.bl false)=true:=by simp[eqD,n1]
 have q2:¬ eqD (.str "none") (.str "other")=true:=by simp[eqD,n2]
 have q3:¬ eqD (.str "read") (.str "other")=true:=by simp[eqD,n3]
 have q4:∀s:Str,eqD (.str s) (.str s)=true:=λs=>by simp[eqD]
 simp[xj,nsc]
 refine⟨w6,w6,JLaw ns,⟨rfl,_,_,_,_,_,_,_,_,_,rfl⟩,?_,?_⟩
 ·rintro i d' rho m e ⟨rfl, a, b, c, d1, e1, f1, g1, h1, k1, rfl⟩;obtain⟨hi,rfl⟩:=zA7 e;simp
  refine zi7 ns (by simp) w9 rfl (i:Int) (by simp[nsc]) (λP P' h=>by simp[nsc];exact h _ _) ?_
  refine⟨ns,_,rfl,hns,w6,w6,λx y hx hy hy2=>⟨[x,y],rfl,rfl,by simp[hx,hy],by simp[hy2],?_⟩⟩
  generalize hS:zp4 (sIf _ _ _) _=S;simp[Wx,vG]
  refine yb w9 w9 λkk hkk hkk'=>?_
  obtain⟨kind,rfl⟩:=xF hkk
  have hk3:kind<3:=w6
  refine yb w9 w9 λk0 hk0 hk0'=>?_
  obtain⟨d,hd⟩:=xF (show 0<=1+k0 by lia)
  have hd1:1<=d:=w6
  have hd4:d<=4:=w6
  simp;rw[hd];refine⟨kind,d,rfl,rfl,hk3,hd1,hd4,λl1 o1=>⟨rfl,rfl,λl2 o2=>⟨kind,d,rfl,rfl,hk3,hd1,hd4,λl3 o3=>?_⟩⟩⟩;refine⟨JTx [some (wm ns),none,some .st,some (.int (kind:Int)),some (.int (d:Int))],⟨rfl,_,_,_,_,_,rfl⟩,?_,?_⟩
  ·rintro j e2 rho m2 he ⟨rfl, a2, b2, c2, d2, e3, rfl⟩
   obtain⟨l,rfl,ok⟩:∃l,e2=.str (tx l)/\TxOk l:=by
    have:=xb he;simp only[zi,xl,or_false] at this
    rcases this with rfl |rfl |rfl
    ·exact⟨l1,rfl,o1⟩
    ·exact⟨l2,rfl,o2⟩
    ·exact⟨l3,rfl,o3⟩
   have sh:=ok.r.short;have hz:=ok.z;subst hS;generalize hS:zp4 (xe8 _ _) _=S
   have key:∀F:EndsD,(∀a b c d' e',F.nx ([some (wm ns),none,some .st,some (.int (kind:Int)),some (.int (d:Int))]++[a,b,c,d',e']) 2) ->
     S F [some (wm ns),none,some .st,some (.int (kind:Int)),some (.int (d:Int)),some (.str (tx l)),some (zP4 (kX kind l d)),c2,d2,e3] 2:=λF hF=>by
    subst hS;simp;refine⟨kind,l,d,rfl,hk3,hd1,hd4,ok,?_⟩
    cases hf:kX kind l d with
    |none=>
     simp[zE3,zP4];refine⟨oks _,okb _,okb _,?_⟩;refine zM8 q0 ?_;refine⟨oks _,oks _,?_⟩;refine zX9 q2 ?_;exact hF _ _ _ _ _
    |some v=>
     obtain⟨es,rfl,okv⟩:=zx5 hf hd1 hd4 ok;simp[zE3,zP4];refine⟨oks _,oks _,okb _,okb _,?_⟩;refine zM8 q1 ?_;refine⟨oks _,oks _,?_⟩;refine zX9 q3 ?_;refine⟨_,rfl,okv,?_⟩;simp;refine⟨oks _,?_⟩;refine zM8 (q4 _) ?_;exact hF _ _ _ _ _
   simp
   rcases(show kind=0\/kind=1\/kind=2 by lia) with rfl |rfl |rfl
   ·simp;have hs:=wM (c:=32) (zX 32 l);rw[xC] at hs;rw[yU,yP]
    refine⟨by rw[xQ];simp,yz (by rw[xQ];lia),yz (by rw[zj];lia),?_⟩
    rw[zF]
    refine⟨zX 32 l,d,rfl,w6,λw hw=>⟨zm (hs.2 w hw) w6,vM sh w hw⟩,?_⟩
    rw[xB0];exact key _ λa b c d e=>⟨rfl,_,_,_,_,_,rfl⟩
   ·simp
    refine⟨l,d,rfl,w6,sh,hd1,hd4,?_⟩
    rw[xA9];exact key _ λa b c d e=>⟨rfl,_,_,_,_,_,rfl⟩
   ·simp
    refine⟨l,rfl,w6,sh,?_⟩
    rw[xA8];exact key _ λa b c d e=>⟨rfl,_,_,_,_,_,rfl⟩
  ·rintro rho m2 ⟨rfl,a2,b2,c2,d2,e3,rfl⟩;exact⟨rfl,rfl,rfl,rfl,_,_,_,_,_,_,_,_,_,rfl⟩
 ·rintro rho n' ⟨rfl,a,b,c,d1,e1,f1,g1,h1,k1,rfl⟩;simp
end
def vY{α:Type}{us:List α}{c:Nat}(h:us.length=c+1):∃a r,us=a::r/\r.length=c:=by
 cases us with
 |nil=>cases h
 |cons a r=>exact⟨a,r,rfl,Nat.succ.inj h⟩
def Yy{fd:FuncData}{ps:List Str}{us:List Value}(h:us.length=1)(q:∀x0,bindArgs fd ⟨[x0],[]⟩=pure (ps.zip [x0])):bindArgs fd ⟨us,[]⟩=pure (ps.zip us):=by
 obtain⟨x0,u0,rfl,h0⟩:=vY h;obtain rfl:=xO.mp h0;exact q x0
def Wj{fd:FuncData}{ps:List Str}{us:List Value}(h:us.length=2)(q:∀x0 x1,bindArgs fd ⟨[x0,x1],[]⟩=pure (ps.zip [x0,x1])):bindArgs fd ⟨us,[]⟩=pure (ps.zip us):=by
 obtain⟨x0,u0,rfl,h0⟩:=vY h;obtain⟨x1,u1,rfl,h1⟩:=vY h0;obtain rfl:=xO.mp h1;exact q x0 x1
def xd4{fd:FuncData}{ps:List Str}{us:List Value}(h:us.length=3)(q:∀x0 x1 x2,bindArgs fd ⟨[x0,x1,x2],[]⟩=pure (ps.zip [x0,x1,x2])):bindArgs fd ⟨us,[]⟩=pure (ps.zip us):=by
 obtain⟨x0,u0,rfl,h0⟩:=vY h;obtain⟨x1,u1,rfl,h1⟩:=vY h0;obtain⟨x2,u2,rfl,h2⟩:=vY h1;obtain rfl:=xO.mp h2;exact q x0 x1 x2
def xv3{fd:FuncData}{ps:List Str}{us:List Value}(h:us.length=4)(q:∀x0 x1 x2 x3,bindArgs fd ⟨[x0,x1,x2,x3],[]⟩=pure (ps.zip [x0,x1,x2,x3])):bindArgs fd ⟨us,[]⟩=pure (ps.zip us):=by
 obtain⟨x0,u0,rfl,h0⟩:=vY h;obtain⟨x1,u1,rfl,h1⟩:=vY h0;obtain⟨x2,u2,rfl,h2⟩:=vY h1;obtain⟨x3,u3,rfl,h3⟩:=vY h2;obtain rfl:=xO.mp h3;exact q x0 x1 x2 x3
structure Dn(K:W.Frag)(x:Str)(st:Stmt):Prop where
 ex:∃(f:Addr) (fd:FuncData),W.nsIn K mainGlobals x=some (some (.ref f))/\Fun K x x st f fd
def dn{K:W.Frag}{x:Str}{st:Stmt}{f:Addr}{oc:Value}{od an:Option Addr}{osl:Array (Option Value)}{kV doc pm cdv ct:Value}(a:W.nsIn K mainGlobals x=some (some (.ref f)))(l:K.lookup f=some ⟨oc,od,.func (W.fnOf x x (qw st) (vT st) (zL st) .none kV doc pm an cdv ct),osl⟩)(c:W.codeIn K cdv x=true)(k:W.keepIn K (.ref f)=true):Dn K x st:=⟨f,_,a,zC6 (st:=st) l c k⟩
def Dn.fn{P:Program}{w:World}{K:W.Frag}{mg:Str->Option Value}{base h:Heap}{x:Str}{st:Stmt}{kk k:Nat}{t:TF}{ps:List Str}(d:Dn K x st)(X:K.In h)(G:h.Ns mainGlobals mg)(b:∀(kV doc pm:Value) (an:Option Addr) (cdv ct:Value) (us:List Value),us.length=ps.length->bindArgs (W.fnOf x x (qw st) (vT st) (zL st) .none kV doc pm an cdv ct) ⟨us,[]⟩=pure (ps.zip us))(ok:∀(f:Addr) (fd:FuncData),Fun K x x st f fd->mg x=some (.ref f)->W.keepIn K (.ref f)=true->Binds K fd ps []->FnOk P w K mg base CX0 kk f fd ps (spD K k t)):Fn P w K mg base x kk k t:=by
 obtain⟨f,fd,a,F⟩:=d.ex;have m:=W.mg_of X G a;have B:=F.binds b;exact⟨f,fd,ps,ok f fd F m F.kp B,m,F.kp,B⟩
def Dn.fnX{P:Program}{w:World}{K:W.Frag}{mg:Str->Option Value}{base h:Heap}{x:Str}{st:Stmt}{kk k:Nat}{C:Addr}{t:TFX}{ps:List Str}(d:Dn K x st)(X:K.In h)(G:h.Ns mainGlobals mg)(b:∀(kV doc pm:Value) (an:Option Addr) (cdv ct:Value) (us:List Value),us.length=ps.length->bindArgs (W.fnOf x x (qw st) (vT st) (zL st) .none kV doc pm an cdv ct) ⟨us,[]⟩=pure (ps.zip us))(ok:∀(f:Addr) (fd:FuncData),Fun K x x st f fd->FnOk P w K mg base (CX1 P w) kk f fd ps (spX K C k t)):FnX P w K mg base x kk k C t:=by
 obtain⟨f,fd,a,F⟩:=d.ex;exact⟨f,fd,ps,ok f fd F,W.mg_of X G a,F.kp,F.binds b⟩
def all_mk{l:W.OpenLaw}{w:World}{K:W.Frag}{h:Heap}{mg:Str->Option Value}{fa f49:Addr}(X:K.In h)(G:h.Ns mainGlobals mg)(hfa:mg "law" = some (.ref fa))
  {od49 an49:Option Addr}{sl49:Array (Option Value)}{oc49 kV49 dc49 pm49 cd49 ct49:Value}
  (d0:Dn K "is_whole" ZK)
  (d1:Dn K "is_from_zero" kZ)
  (d2:Dn K "is_below" Qt)
  (d3:Dn K "is_d" zc1)
  (d4:Dn K "is_tuple_of" qp)
  (d5:Dn K "is_place" ZM)
  (d6:Dn K "is_end" WW)
  (d7:Dn K "is_span" Xg)
  (d8:Dn K "is_box" WX)
  (d9:Dn K "has_form" ZO)
  (d10:Dn K "is_part" Xh)
  (d11:Dn K "has_parts" jK)
  (d12:Dn K "is_ask" WY)
  (d13:Dn K "is_thing" ZL)
  (d14:Dn K "rises" KB)
  (d15:Dn K "is_house" ZN)
  (d16:Dn K "parted" WU)
  (d17:Dn K "read_number" qo)
  (d18:Dn K "read_end" ZH)
  (d19:Dn K "read_span" jJ)
  (d20:Dn K "read_spans" qR)
  (d21:Dn K "read_box" ZI)
  (d22:Dn K "read_place" qS)
  (d23:Dn K "read_ask" ZJ)
  (d24:Dn K "read_thing" qQ)
  (d25:Dn K "read_house" qT)
  (d26:Dn K "show_number" qm)
  (d27:Dn K "show_low" ZE)
  (d28:Dn K "show_high" jI)
  (d29:Dn K "show_box" ZF)
  (d30:Dn K "show_place" qO)
  (d31:Dn K "show_ask" ZG)
  (d32:Dn K "show_thing" qN)
  (d33:Dn K "show_house" qP)
  (d34:Dn K "_law_cell_at" qa)
  (d35:Dn K "_law_left" jP)
  (d36:Dn K "_law_pick" jO)
  (d37:Dn K "_law_read_number" vD)
  (d38:Dn K "_law_read_end" kE)
  (d39:Dn K "_law_read_box" kF)
  (d40:Dn K "_law_read_place" vN)
  (d41:Dn K "_law_read_count" vP)
  (d42:Dn K "_law_read_ask" kG)
  (d43:Dn K "_law_read_house" vO)
  (d44:Dn K "_law_same" jN)
  (d45:Dn K "_law_told" jL)
  (d46:Dn K "_law_box_piece" kh)
  (d47:Dn K "_law_text" jM)
  (d48:Dn K "_law_any" ZP)
  (a49:W.nsIn K mainGlobals "law" = some (some (.ref f49))) (l49:K.lookup f49=some ⟨oc49,od49,.func (W.fnOf "law" "law" (qw WV) (vT WV) (zL WV) .none kV49 dc49 pm49 an49 cd49 ct49),sl49⟩) (c49:W.codeIn K cd49 "law" = true) (k49:W.keepIn K (.ref f49)=true)
  {C_BoxError:Addr} (cn0:W.nsIn K mainGlobals "BoxError" = some (some (.ref C_BoxError)))
  {C_NoThing:Addr} (cn1:W.nsIn K mainGlobals "NoThing" = some (some (.ref C_NoThing)))
  {C_Taken:Addr} (cn2:W.nsIn K mainGlobals "Taken" = some (some (.ref C_Taken)))
  {C_NoText:Addr} (cn3:W.nsIn K mainGlobals "NoText" = some (some (.ref C_NoText)))
  {C_NoLine:Addr} (cn4:W.nsIn K mainGlobals "NoLine" = some (some (.ref C_NoLine)))
  {C_NoNumber:Addr} (cn5:W.nsIn K mainGlobals "NoNumber" = some (some (.ref C_NoNumber)))
  (xh_ga:W.findIn K (.ref C_NoText) "__getattribute__" = some (some (.builtin "BaseException.__getattribute__")))
  (xh_gt:W.findIn K (.ref C_NoText) "__getattr__" = some none)
  (xh_cl:W.findIn K (.ref C_NoText) "__class__" = some (some (.builtin "object.__class__")))
  (xh_gs:W.specialIn K (.builtin "object.__class__") "__get__" = some (some (.builtin "getset_descriptor.__get__")))
  (xh_tk:W.takesIn K (.builtin "object.__class__")=some true)
  (xh_ob:W.mroIn K C_NoText (.type "object")=some true)
  (xh_be:W.mroIn K C_NoText (.type "BaseException")=some true)
  (xh_hd:W.hasDictIn K C_NoText=true)
  (xh_ei:W.excIn K C_NoText zq1 "ValueError.__new__" = true)
  (xh_em:W.exmOne K (.ref C_NoText) (.ref C_BoxError)=some true)
  (xh_kn:W.kitOne K (.ref C_NoText) (.ref C_NoText)=some true)
  (xh_kv:W.kitOne K (.ref C_NoText) (.type "ValueError")=some true)
  (xh_kt:W.kitAny K (.ref C_NoText) ([V.ref C_NoLine,V.ref C_NoNumber,V.ref C_NoThing,V.ref C_Taken].map zD5)=some false)
  (zn0:W.nsIn K mainGlobals "ValueError" = some none)
  {et0:Tok} (yy0:W.nsIn K mainGlobals "MOST_NUMBERS" = some (some (.int 4 et0)))
  {gst0:Tok} (gsy0:W.nsIn K mainGlobals "FIGURES" = some (some (.str "0123456789" gst0)))
  {xe0:Addr}{xo0:Option Addr}{xn0:Nat}{xt0_0 xt0_1 xt0_2 xt0_3 xt0_4 xt0_5 xt0_6 xt0_7:Tok}{xs0:Array (Option Value)} (xy0:W.nsIn K mainGlobals "BOX_WORDS" = some (some (.ref xe0))) (xh0:K.lookup xe0=some ⟨.type "tuple",xo0,.seq #[.str "count" xt0_0,.str "sum" xt0_1,.str "least" xt0_2,.str "most" xt0_3,.str "all" xt0_4,.str "first" xt0_5,.str "best" xt0_6,.str "near" xt0_7] xn0,xs0⟩)
  {ge rr0 rr1 rr2 rr3 rr4 rr5 rr6 rr7 rr8 rr9:Addr}{gep nn0 nn1 nn2 nn3 nn4 nn5 nn6 nn7 nn8 nn9:Nat}{tt0 tt1 tt2 tt3 tt4 tt5 tt6 tt7 tt8 tt9 uu0_0 uu1_0 uu2_0 uu3_0 uu4_0 uu5_0 uu5_1 uu6_0 uu6_1 uu7_0 uu7_1 uu7_2 uu8_0 uu8_1 uu9_0:Tok}{dd0 dd1 dd2 dd3 dd4 dd5 dd6 dd7 dd8 dd9:Option Addr}{ss0 ss1 ss2 ss3 ss4 ss5 ss6 ss7 ss8 ss9:Array (Option Value)}
  (gy:W.nsIn K mainGlobals "PARTS" = some (some (.ref ge))) (gs:(ge == sysModules)=false) {go:Obj} (gh:K.lookup ge=some go) (gw:go={ cls:=.type "dict",data:=.dict #[{ hash:=PyData.keyHash w.params "count",key:=.str "count" tt0,val:=.ref rr0 },{ hash:=PyData.keyHash w.params "sum",key:=.str "sum" tt1,val:=.ref rr1 },{ hash:=PyData.keyHash w.params "least",key:=.str "least" tt2,val:=.ref rr2 },{ hash:=PyData.keyHash w.params "most",key:=.str "most" tt3,val:=.ref rr3 },{ hash:=PyData.keyHash w.params "all",key:=.str "all" tt4,val:=.ref rr4 },{ hash:=PyData.keyHash w.params "first",key:=.str "first" tt5,val:=.ref rr5 },{ hash:=PyData.keyHash w.params "best",key:=.str "best" tt6,val:=.ref rr6 },{ hash:=PyData.keyHash w.params "near",key:=.str "near" tt7,val:=.ref rr7 },{ hash:=PyData.keyHash w.params "number",key:=.str "number" tt8,val:=.ref rr8 },{ hash:=PyData.keyHash w.params "worth",key:=.str "worth" tt9,val:=.ref rr9 }] gep })
  (gq0:K.lookup rr0=some ⟨.type "tuple",dd0,.seq #[.str "box" uu0_0] nn0,ss0⟩)
  (gq1:K.lookup rr1=some ⟨.type "tuple",dd1,.seq #[.str "box" uu1_0] nn1,ss1⟩)
  (gq2:K.lookup rr2=some ⟨.type "tuple",dd2,.seq #[.str "box" uu2_0] nn2,ss2⟩)
  (gq3:K.lookup rr3=some ⟨.type "tuple",dd3,.seq #[.str "box" uu3_0] nn3,ss3⟩)
  (gq4:K.lookup rr4=some ⟨.type "tuple",dd4,.seq #[.str "box" uu4_0] nn4,ss4⟩)
  (gq5:K.lookup rr5=some ⟨.type "tuple",dd5,.seq #[.str "box" uu5_0,.str "k" uu5_1] nn5,ss5⟩)
  (gq6:K.lookup rr6=some ⟨.type "tuple",dd6,.seq #[.str "box" uu6_0,.str "k" uu6_1] nn6,ss6⟩)
  (gq7:K.lookup rr7=some ⟨.type "tuple",dd7,.seq #[.str "box" uu7_0,.str "place" uu7_1,.str "k" uu7_2] nn7,ss7⟩)
  (gq8:K.lookup rr8=some ⟨.type "tuple",dd8,.seq #[.str "name" uu8_0,.str "i" uu8_1] nn8,ss8⟩)
  (gq9:K.lookup rr9=some ⟨.type "tuple",dd9,.seq #[.str "name" uu9_0] nn9,ss9⟩)
  (z0:W.nsIn K mainGlobals "len" = some none) (z1:W.nsIn K mainGlobals "abs" = some none) (z2:W.nsIn K mainGlobals "all" = some none) (z3:W.nsIn K mainGlobals "any" = some none) (z4:W.nsIn K mainGlobals "isinstance" = some none) (z5:W.nsIn K mainGlobals "int" = some none) (z6:W.nsIn K mainGlobals "bool" = some none) (z7:W.nsIn K mainGlobals "str" = some none) (z8:W.nsIn K mainGlobals "tuple" = some none) (z9:W.nsIn K mainGlobals "list" = some none) (z10:W.nsIn K mainGlobals "range" = some none) (z11:W.nsIn K mainGlobals "zip" = some none) (z12:W.nsIn K mainGlobals "enumerate" = some none) (z13:W.nsIn K mainGlobals "max" = some none) (z14:W.nsIn K mainGlobals "min" = some none) (z15:W.nsIn K mainGlobals "sorted" = some none) :
  ∃fd:FuncData,(∀(s:Shared) (v:Value),BindsTo s fd ⟨[v],[]⟩ [("_law_script",v)])/\∀base:Heap,K.In base->base.Ns mainGlobals mg->base.NoDigits->FnOk l.prog w K mg base CX0 10 fa fd ["_law_script"] (Ua K):=by
 have e:=hfa.symm.trans (W.mg_of X G a49);cases e;have T:Blt mg:=⟨W.mg_none_of X G z0,W.mg_none_of X G z1,W.mg_none_of X G z2,W.mg_none_of X G z3,W.mg_none_of X G z4,W.mg_none_of X G z5,W.mg_none_of X G z6,W.mg_none_of X G z7,W.mg_none_of X G z8,W.mg_none_of X G z9,W.mg_none_of X G z10,W.mg_none_of X G z11,W.mg_none_of X G z12,W.mg_none_of X G z13,W.mg_none_of X G z14,W.mg_none_of X G z15⟩;have CX_BoxError:=W.mg_of X G cn0;have CX_NoThing:=W.mg_of X G cn1;have CX_Taken:=W.mg_of X G cn2;have CX_NoText:=W.mg_of X G cn3;have CX_NoLine:=W.mg_of X G cn4;have CX_NoNumber:=W.mg_of X G cn5;have N_ValueError:=W.mg_none_of X G zn0;have EC:ExcC K C_NoText:=⟨xh_ga,xh_gt,xh_cl,xh_gs,xh_tk,xh_ob,xh_be,xh_hd⟩;have CN_NoText:ClsX K mg "NoText" C_NoText:=⟨CX_NoText,EC,xh_ei⟩;have G_MOST_NUMBERS:zp7 K mg "MOST_NUMBERS" (.int 4):=zx4 (W.mg_of X G yy0);have G_FIGURES:=zC7 ▸ zx3 (K:=K) (W.mg_of X G gsy0)
 have G_BOX_WORDS:zp7 K mg "BOX_WORDS" (.tup ([("count" : Str),("sum" : Str),("least" : Str),("most" : Str),("all" : Str),("first" : Str),("best" : Str),("near" : Str)].map D.str)):=zx2 (W.mg_of X G xy0) xh0 rfl rfl (yA (by simp)) (xs:=[(.str "count" : V),(.str "sum" : V),(.str "least" : V),(.str "most" : V),(.str "all" : V),(.str "first" : V),(.str "best" : V),(.str "near" : V)]) (.cons ⟨xt0_0,rfl⟩ (.cons ⟨xt0_1,rfl⟩ (.cons ⟨xt0_2,rfl⟩ (.cons ⟨xt0_3,rfl⟩ (.cons ⟨xt0_4,rfl⟩ (.cons ⟨xt0_5,rfl⟩ (.cons ⟨xt0_6,rfl⟩ (.cons ⟨xt0_7,rfl⟩ (.nil))))))))) (λ_ _ _=>Uk _)
 have G_PARTS:=zu5 (W.mg_of X G gy) gs (gw ▸ gh) gq0 gq1 gq2 gq3 gq4 gq5 gq6 gq7 gq8 gq9;have U49:=zC6 (st:=WV) l49 c49 k49;refine⟨W.fnOf "law" "law" (qw WV) (vT WV) (zL WV) .none kV49 dc49 pm49 an49 cd49 ct49,λs v=>.of_eq rfl,λbase _ _ ND=>?_⟩;have F_is_whole:Fn l.prog w K mg base "is_whole" 1 1 jD:=d0.fn X G (ps:=qZ0) (λ_ _ _ _ _ _ _ h=>Yy h λ_=>rfl) λ_ _ U M N B=>zu8 T U;have F_is_from_zero:Fn l.prog w K mg base "is_from_zero" 2 1 xa6:=d1.fn X G (ps:=qZ0) (λ_ _ _ _ _ _ _ h=>Yy h λ_=>rfl) λ_ _ U M N B=>xl9 U F_is_whole;have F_is_below:Fn l.prog w K mg base "is_below" 3 2 zA1:=d2.fn X G (ps:=["thing","limit"]) (λ_ _ _ _ _ _ _ h=>Wj h λ_ _=>rfl) λ_ _ U M N B=>FnOk.botK λ_ _ _ z=>z;have F_is_d:Fn l.prog w K mg base "is_d" 2 1 VT:=d3.fn X G (ps:=qZ0) (λ_ _ _ _ _ _ _ h=>Yy h λ_=>rfl) λ_ _ U M N B=>zL3 G_MOST_NUMBERS U F_is_whole;have F_is_tuple_of:Fn l.prog w K mg base "is_tuple_of" 1 2 qF:=d4.fn X G (ps:=["thing","length"]) (λ_ _ _ _ _ _ _ h=>Wj h λ_ _=>rfl) λ_ _ U M N B=>zu9 T U;have F_is_place:Fn l.prog w K mg base "is_place" 3 2 jk:=d5.fn X G (ps:=qZ1) (λ_ _ _ _ _ _ _ h=>Wj h λ_ _=>rfl) λ_ _ U M N B=>KP T U F_is_whole F_is_d F_is_tuple_of;have F_is_end:Fn l.prog w K mg base "is_end" 2 1 WN:=d6.fn X G (ps:=qZ0) (λ_ _ _ _ _ _ _ h=>Yy h λ_=>rfl) λ_ _ U M N B=>zh8 T U F_is_whole F_is_tuple_of;have F_is_span:Fn l.prog w K mg base "is_span" 3 1 YV:=d7.fn X G (ps:=qZ0) (λ_ _ _ _ _ _ _ h=>Yy h λ_=>rfl) λ_ _ U M N B=>Qy U F_is_end F_is_tuple_of;have F_is_box:Fn l.prog w K mg base "is_box" 4 2 YJ:=d8.fn X G (ps:=qZ1) (λ_ _ _ _ _ _ _ h=>Wj h λ_ _=>rfl) λ_ _ U M N B=>zh9 T U F_is_d F_is_tuple_of F_is_span;have F_has_form:Fn l.prog w K mg base "has_form" 1 2 ZD:=d9.fn X G (ps:=["thing","words"]) (λ_ _ _ _ _ _ _ h=>Wj h λ_ _=>rfl) λ_ _ U M N B=>KR T G_PARTS U;have F_is_part:Fn l.prog w K mg base "is_part" 5 3 YW:=d10.fn X G (ps:=qZ9) (λ_ _ _ _ _ _ _ h=>xd4 h λ_ _ _=>rfl) λ_ _ U M N B=>Qz T U F_is_box F_is_place F_is_from_zero F_is_below;have F_has_parts:Fn l.prog w K mg base "has_parts" 6 2 jG:=d11.fn X G (ps:=["ask","d"]) (λ_ _ _ _ _ _ _ h=>Wj h λ_ _=>rfl) λ_ _ U M N B=>UA T G_PARTS U F_is_part;have F_is_ask:Fn l.prog w K mg base "is_ask" 7 2 WO:=d12.fn X G (ps:=qZ1) (λ_ _ _ _ _ _ _ h=>Wj h λ_ _=>rfl) λ_ _ U M N B=>zi0 G_BOX_WORDS U F_has_form F_has_parts;have F_is_thing:Fn l.prog w K mg base "is_thing" 4 2 ZB:=d13.fn X G (ps:=qZ1) (λ_ _ _ _ _ _ _ h=>Wj h λ_ _=>rfl) λ_ _ U M N B=>KO U F_is_whole F_is_from_zero F_is_place F_is_tuple_of;have F_rises:Fn l.prog w K mg base "rises" 1 1 Kq:=d14.fn X G (ps:=["numbers"]) (λ_ _ _ _ _ _ _ h=>Yy h λ_=>rfl) λ_ _ U M N B=>zv0 T U;have F_is_house:Fn l.prog w K mg base "is_house" 5 1 ZC:=d15.fn X G (ps:=qZ0) (λ_ _ _ _ _ _ _ h=>Yy h λ_=>rfl) λ_ _ U M N B=>KQ T U F_is_d F_is_tuple_of F_is_thing F_rises;have FX_parted:FnX l.prog w K mg base "parted" 1 2 C_NoText qK:=d16.fnX X G (ps:=["text","sign"]) (λ_ _ _ _ _ _ _ h=>Wj h λ_ _=>rfl) λ_ _ U=>Qx T CN_NoText U;have FX_read_number:FnX l.prog w K mg base "read_number" 1 1 C_NoText yL:=d17.fnX X G (ps:=qZ2) (λ_ _ _ _ _ _ _ h=>Yy h λ_=>rfl) λ_ _ U=>Wb T CN_NoText G_FIGURES U;have FX_read_end:FnX l.prog w K mg base "read_end" 2 4 C_NoText Zy:=d18.fnX X G (ps:=qZ8) (λ_ _ _ _ _ _ _ h=>xv3 h λ_ _ _ _=>rfl) λ_ _ U=>KL CN_NoText U FX_read_number;have FX_read_span:FnX l.prog w K mg base "read_span" 3 1 C_NoText jF:=d19.fnX X G (ps:=qZ2) (λ_ _ _ _ _ _ _ h=>Yy h λ_=>rfl) λ_ _ U=>Uz U FX_read_end;have FX_read_spans:FnX l.prog w K mg base "read_spans" 5 2 C_NoText kO:=d20.fnX X G (ps:=["words","d"]) (λ_ _ _ _ _ _ _ h=>Wj h λ_ _=>rfl) λ_ _ U=>Vn T CN_NoText U FX_read_span F_is_box;have FX_read_box:FnX l.prog w K mg base "read_box" 6 2 C_NoText Zz:=d21.fnX X G (ps:=qZ4) (λ_ _ _ _ _ _ _ h=>Wj h λ_ _=>rfl) λ_ _ U=>KM U FX_parted FX_read_spans;have FX_read_place:FnX l.prog w K mg base "read_place" 2 1 C_NoText kP:=d22.fnX X G (ps:=qZ2) (λ_ _ _ _ _ _ _ h=>Yy h λ_=>rfl) λ_ _ U=>Vo T U FX_read_number;have FX_read_ask:FnX l.prog w K mg base "read_ask" 8 2 C_NoText ZA:=d23.fnX X G (ps:=qZ4) (λ_ _ _ _ _ _ _ h=>Wj h λ_ _=>rfl) λ_ _ U=>KN T CN_NoText G_BOX_WORDS G_PARTS U FX_parted FX_read_number FX_read_place FX_read_spans F_is_ask;have FX_read_thing:FnX l.prog w K mg base "read_thing" 3 1 C_NoText qI:=d24.fnX X G (ps:=qZ2) (λ_ _ _ _ _ _ _ h=>Yy h λ_=>rfl) λ_ _ U=>Vm T CN_NoText U FX_read_number FX_read_place;have FX_read_house:FnX l.prog w K mg base "read_house" 6 1 C_NoText qJ:=d25.fnX X G (ps:=qZ2) (λ_ _ _ _ _ _ _ h=>Yy h λ_=>rfl) λ_ _ U=>Vp T CN_NoText U FX_parted FX_read_number FX_read_thing F_is_house;have F_show_number:Fn l.prog w K mg base "show_number" 1 1 yC:=d26.fn X G (ps:=["number"]) (λ_ _ _ _ _ _ _ h=>Yy h λ_=>rfl) λ_ _ U M N B=>Wa T U;have F_show_low:Fn l.prog w K mg base "show_low" 2 1 Zw:=d27.fn X G (ps:=["end"]) (λ_ _ _ _ _ _ _ h=>Yy h λ_=>rfl) λ_ _ U M N B=>KI T U F_show_number;have F_show_high:Fn l.prog w K mg base "show_high" 2 1 jE:=d28.fn X G (ps:=["end"]) (λ_ _ _ _ _ _ _ h=>Yy h λ_=>rfl) λ_ _ U M N B=>Uy T U F_show_number;have F_show_box:Fn l.prog w K mg base "show_box" 3 1 jj:=d29.fn X G (ps:=["box"]) (λ_ _ _ _ _ _ _ h=>Yy h λ_=>rfl) λ_ _ U M N B=>KJ T U F_show_low F_show_high;have F_show_place:Fn l.prog w K mg base "show_place" 2 1 kN:=d30.fn X G (ps:=["place"]) (λ_ _ _ _ _ _ _ h=>Yy h λ_=>rfl) λ_ _ U M N B=>Vk U F_show_number;have F_show_ask:Fn l.prog w K mg base "show_ask" 4 1 Zx:=d31.fn X G (ps:=["ask"]) (λ_ _ _ _ _ _ _ h=>Yy h λ_=>rfl) λ_ _ U M N B=>KK T U F_show_number F_show_place F_show_box;have F_show_thing:Fn l.prog w K mg base "show_thing" 3 1 qG:=d32.fn X G (ps:=qZ0) (λ_ _ _ _ _ _ _ h=>Yy h λ_=>rfl) λ_ _ U M N B=>Vj U F_show_number F_show_place;have F_show_house:Fn l.prog w K mg base "show_house" 4 1 qH:=d33.fn X G (ps:=["house"]) (λ_ _ _ _ _ _ _ h=>Yy h λ_=>rfl) λ_ _ U M N B=>Vl U F_show_number F_show_thing;have Y_cell_at:Fn l.prog w K mg base "_law_cell_at" 1 2 YX:=d34.fn X G (ps:=qZ3) (λ_ _ _ _ _ _ _ h=>Wj h λ_ _=>rfl) λ_ _ U M N B=>QA T U;have Y_left:Fn l.prog w K mg base "_law_left" 2 2 za5:=d35.fn X G (ps:=qZ3) (λ_ _ _ _ _ _ _ h=>Wj h λ_ _=>rfl) λ_ _ U M N B=>zL0 T ND U Y_cell_at;have Y_pick:Fn l.prog w K mg base "_law_pick" 1 2 YU:=d36.fn X G (ps:=["_law_left_here","_law_many"]) (λ_ _ _ _ _ _ _ h=>Wj h λ_ _=>rfl) λ_ _ U M N B=>zK7 U;have Y_read_number:Fn l.prog w K mg base "_law_read_number" 1 1 Wk:=d37.fn X G (ps:=qZ5) (λ_ _ _ _ _ _ _ h=>Yy h λ_=>rfl) λ_ _ U M N B=>zK8 T U;have Y_read_end:Fn l.prog w K mg base "_law_read_end" 2 2 za4:=d38.fn X G (ps:=["_law_word","_law_low"]) (λ_ _ _ _ _ _ _ h=>Wj h λ_ _=>rfl) λ_ _ U M N B=>zK9 U Y_read_number;have Y_read_box:Fn l.prog w K mg base "_law_read_box" 3 2 Jt:=d39.fn X G (ps:=["_law_words","_law_d"]) (λ_ _ _ _ _ _ _ h=>Wj h λ_ _=>rfl) λ_ _ U M N B=>zL1 T U Y_read_end;have Y_read_place:Fn l.prog w K mg base "_law_read_place" 2 2 YH:=d40.fn X G (ps:=["_law_word","_law_d"]) (λ_ _ _ _ _ _ _ h=>Wj h λ_ _=>rfl) λ_ _ U M N B=>zh2 T U Y_read_number;have Y_read_count:Fn l.prog w K mg base "_law_read_count" 2 1 YI:=d41.fn X G (ps:=qZ5) (λ_ _ _ _ _ _ _ h=>Yy h λ_=>rfl) λ_ _ U M N B=>zh7 U Y_read_number;have Y_read_ask:Fn l.prog w K mg base "_law_read_ask" 4 2 za6:=d42.fn X G (ps:=["_law_text_here","_law_d"]) (λ_ _ _ _ _ _ _ h=>Wj h λ_ _=>rfl) λ_ _ U M N B=>zL2 T U Y_read_box Y_read_count Y_read_place;have Y_read_house:Fn l.prog w K mg base "_law_read_house" 3 1 WM:=d43.fn X G (ps:=["_law_text_here"]) (λ_ _ _ _ _ _ _ h=>Yy h λ_=>rfl) λ_ _ U M N B=>zh6 T U Y_read_count Y_read_place Y_read_number;have Y_same:Fn l.prog w K mg base "_law_same" 5 2 (Js 5):=d44.fn X G (ps:=qZ7) (λ_ _ _ _ _ _ _ h=>Wj h λ_ _=>rfl) λ_ _ U M N B=>zK6 T U M N B 5;have Y_told:Fn l.prog w K mg base "_law_told" 9 3 za2:=d45.fn X G (ps:=xl2) (λ_ _ _ _ _ _ _ h=>xd4 h λ_ _ _=>rfl) λ_ _ U M N B=>zK4 T U FX_read_box FX_read_ask FX_read_house F_show_box F_show_ask F_show_house EC CX_BoxError xh_em CX_NoText xh_kn N_ValueError xh_kv CX_NoLine CX_NoNumber CX_NoThing CX_Taken xh_kt;have Y_box_piece:Fn l.prog w K mg base "_law_box_piece" 2 1 Kr:=d46.fn X G (ps:=qZ6) (λ_ _ _ _ _ _ _ h=>Yy h λ_=>rfl) λ_ _ U M N B=>zv1 T U Y_pick;have Y_text:Fn l.prog w K mg base "_law_text" 3 3 za3:=d47.fn X G (ps:=xl3) (λ_ _ _ _ _ _ _ h=>xd4 h λ_ _ _=>rfl) λ_ _ U M N B=>zK5 T U Y_pick Y_box_piece;have Y_any:Fn l.prog w K mg base "_law_any" 2 1 zE4:=d48.fn X G (ps:=qZ6) (λ_ _ _ _ _ _ _ h=>Yy h λ_=>rfl) λ_ _ U M N B=>zW0 T U Y_pick;exact zV9 T U49 Y_left Y_pick Y_text Y_any Y_read_box Y_read_ask Y_read_house Y_same Y_told
def walk{l:W.OpenLaw}{q:Program}{loose:List Str}{XP:(Str->Option Value)->Heap->Prop}{YP:World->Heap->Prop}{d:DefRec}{K:Params->W.Frag}(hn:l.most=some 63)(hdf:d.params.defaults=[])
  (hY:∀(w:World) (h:Heap),YP w h->(K w.params).In h)
  (F : ∀ (w : World) (mg : Str -> Option Value) (fa : Addr) (h : Heap), (K w.params).In h -> h.Ns mainGlobals mg -> mg d.name = some (.ref fa) ->
   ∃fd:FuncData,(∀(s:Shared) (u:Value),BindsTo s fd ⟨[u],[]⟩ [("_law_script",u)])/\∀base:Heap,(K w.params).In base->base.Ns mainGlobals mg->base.NoDigits->FnOk l.prog w (K w.params) mg base CX0 10 fa fd ["_law_script"] (Ua (K w.params))) :
  W.WalkO q loose XP YP l.row.toRowW d [] (λf vs=>PySem.call f vs):=
 L2.zq0 (n:=63) (k:=10) (x := "_law_script") (CX:=λ_=>CX0) (sp:=λw=>Ua (K w.params)) hn w9 hdf ⟨rfl,w9,w9,rfl⟩ hY F (λ_ _ a ns hl hO hS=>⟨a,ns,rfl,hO,hS,hl,λ_=>rfl⟩) λ_ _ _ _ _ z=>z
end K77
open PySem PySem.W PyProof.Rows
set_option maxRecDepth 100000 in
set_option maxHeartbeats 0 in
theorem PySem.Challenge.cw_boxlayers_k77_whole_any_pieces_holds : PySem.Challenge.rw_boxlayers_k77_whole_any_pieces.Holds := by
 w_on;refine PySem.W.holds_law (by kernel_rfl) λsaid=>?_;k_head;(case hw=>w_witness2)
 k_fill
 refine K77.walk (l:=PySem.Challenge.rw_boxlayers_k77_whole_any_pieces) rfl rfl (λw h Y=>PySem.W.kIn_of Y) ?kF
 case kF=>
  intro w mg fa h KX G hmg;refine' K77.all_mk KX G hmg ?d0 ?d1 ?d2 ?d3 ?d4 ?d5 ?d6 ?d7 ?d8 ?d9 ?d10 ?d11 ?d12 ?d13 ?d14 ?d15 ?d16 ?d17 ?d18 ?d19 ?d20 ?d21 ?d22 ?d23 ?d24 ?d25 ?d26 ?d27 ?d28 ?d29 ?d30 ?d31 ?d32 ?d33 ?d34 ?d35 ?d36 ?d37 ?d38 ?d39 ?d40 ?d41 ?d42 ?d43 ?d44 ?d45 ?d46 ?d47 ?d48 ?a49 ?l49 ?c49 ?k49 ?cn0 ?cn1 ?cn2 ?cn3 ?cn4 ?cn5 ?xh_ga ?xh_gt ?xh_cl ?xh_gs ?xh_tk ?xh_ob ?xh_be ?xh_hd ?xh_ei ?xh_em ?xh_kn ?xh_kv ?xh_kt ?zn0 ?yy0 ?gsy0 ?xy0 ?xh0 ?gy ?gs ?gh ?gw ?gq0 ?gq1 ?gq2 ?gq3 ?gq4 ?gq5 ?gq6 ?gq7 ?gq8 ?gq9 ?z0 ?z1 ?z2 ?z3 ?z4 ?z5 ?z6 ?z7 ?z8 ?z9 ?z10 ?z11 ?z12 ?z13 ?z14 ?z15
  (case a49=>k_is)
  (case l49=>k_is)
  (case c49=>k_is)
  (case k49=>k_is)
  (case cn0=>k_is)
  (case cn1=>k_is)
  (case cn2=>k_is)
  (case cn3=>k_is)
  (case cn4=>k_is)
  (case cn5=>k_is)
  (case xh_ga=>(first | k_is | rfl | kernel_rfl))
  (case xh_gt=>(first | k_is | rfl | kernel_rfl))
  (case xh_cl=>(first | k_is | rfl | kernel_rfl))
  (case xh_gs=>(first | k_is | rfl | kernel_rfl))
  (case xh_tk=>(first | k_is | rfl | kernel_rfl))
  (case xh_ob=>(first | k_is | rfl | kernel_rfl))
  (case xh_be=>(first | k_is | rfl | kernel_rfl))
  (case xh_hd=>(first | k_is | rfl | kernel_rfl))
  (case xh_ei=>(first | k_is | rfl | kernel_rfl))
  (case xh_em=>(first | k_is | rfl | kernel_rfl))
  (case xh_kn=>(first | k_is | rfl | kernel_rfl))
  (case xh_kv=>(first | k_is | rfl | kernel_rfl))
  (case xh_kt=>(first | k_is | rfl | kernel_rfl))
  (case zn0=>k_is)
  (case yy0=>k_is)
  (case gsy0=>k_is)
  (case xy0=>k_is)
  (case xh0=>k_is)
  (case gy=>k_is)
  (case gh=>k_is)
  (case gw=>rfl)
  (case gs=>rfl)
  (case gq0=>k_is)
  (case gq1=>k_is)
  (case gq2=>k_is)
  (case gq3=>k_is)
  (case gq4=>k_is)
  (case gq5=>k_is)
  (case gq6=>k_is)
  (case gq7=>k_is)
  (case gq8=>k_is)
  (case gq9=>k_is)
  (case z0=>k_is)
  (case z1=>k_is)
  (case z2=>k_is)
  (case z3=>k_is)
  (case z4=>k_is)
  (case z5=>k_is)
  (case z6=>k_is)
  (case z7=>k_is)
  (case z8=>k_is)
  (case z9=>k_is)
  (case z10=>k_is)
  (case z11=>k_is)
  (case z12=>k_is)
  (case z13=>k_is)
  (case z14=>k_is)
  (case z15=>k_is)
  all_goals (apply K77.dn;k_is;k_is;k_is;k_is)
end
#print axioms PySem.Challenge.cw_boxlayers_k77_whole_any_pieces_holds
