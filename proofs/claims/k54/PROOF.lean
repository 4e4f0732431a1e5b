import PyProof.Rows.All
import Wide.All
import OpenK.AllK
import Wide.FinOn
import Lean
import PyProof.EqAt
import PyProof.EqKinds
import PyProof.TupleCall
import PyProof.CompFree
import PyProof.ZipIter
import PyProof.Cells
import PyProof.Rows.CellsFrame
import PyProof.EnumMake
import PyProof.TupleIter
import PyProof.IsiPairs
import PyProof.IsiSeqPairs
import PyProof.IsiNone
import PyProof.ConsumeWalk
import PyProof.DictCompW
import PyProof.NeKinds
import PyProof.MinMaxWalk
import PyProof.Rows.SortRev
import KE.KIsAll
import KE.KDictOf
import PyProof.AttrMissHeap
import PyProof.CallFns
import KE.KDictList
import KE.KDictSum
import PyProof.FactsDict
import KE.KLam
import KE.KSortKey
import PySem.Challenge.RW_boxlayers_k54_comings_refused
def PySem.W.Fast.tw12882072475200195518:=0
def PySem.W.Fast.tw12730293948967902348:=0
def PySem.W.Fast.tw12054535345744314494:=0
def PySem.W.Fast.tw9746887777067040671:=0
def PySem.W.Fast.tw18376887494246303918:=0
def PySem.W.Fast.tw1475026930754409821:=0
def PySem.W.Fast.tw8887992695276966821:=0
def PySem.W.Fast.tw9049162691362626517:=0
def PySem.W.Fast.tw786802011174699722:=0
def PySem.W.Fast.tw13462933925057148423:=0
def PySem.W.Fast.tw17368393639797636059:=0
def PySem.W.Fast.tw9843947931536374570:=0
def PySem.W.Fast.tw9116351327363235300:=0
def PySem.W.Fast.tw6293339640594821888:=0
def PySem.W.Fast.tw11447766522911198294:=0
def PySem.W.Fast.tw17401354927517112549:=0
def PySem.W.Fast.tw12760255162652185036:=0
def PySem.W.Fast.tw13341053826418020331:=0
def PySem.W.Fast.tw8052363368948378295:=0
def PySem.W.Fast.tw2019260753469586278:=0
def PySem.W.Fast.tw9296751532017286613:=0
def PySem.W.Fast.tw3091003377683489892:=0
def PySem.W.Fast.tw18418324774451593459:=0
def PySem.W.Fast.tw16664593765934588631:=0
def PySem.W.Fast.tw15089359701865770293:=0
def PySem.W.Fast.tw8230634582802018594:=0
def PySem.W.Fast.tw10171527401778360641:=0
def PySem.W.Fast.tw4155888637766171552:=0
def PySem.W.Fast.tw12536735048133069614:=0
def PySem.W.Fast.tw13919380500947887321:=0
def PySem.W.Fast.tw13175714724976908555:=0
def PySem.W.Fast.tw14663508339415379364:=0
def PySem.W.Fast.tw18256373684797953809:=0
def PySem.W.Fast.tw9481113513962975423:=0
def PySem.W.Fast.tw10843450249518248050:=0
def PySem.W.Fast.tw17051211313441329949:=0
def PySem.W.Fast.tw12457283648893842761:=0
def PySem.W.Fast.tw2650625145243295334:=0
def PySem.W.Fast.tw491134531143806422:=0
def PySem.W.Fast.tw8331614099372473378:=0
def PySem.W.Fast.tw951443986459971650:=0
def PySem.W.Fast.tw16145140314897700670:=0
def PySem.W.Fast.tw1990228669737760810:=0
def PySem.W.Fast.tw14841524854338727924:=0
def PySem.W.Fast.tw15656795376559718816:=0
def PySem.W.Fast.tw4386166588923866681:=0
def PySem.W.Fast.tw9988283220623452092:=0
def PySem.W.Fast.tw10763692103936618790:=0
def PySem.W.Fast.tw6784931269056447848:=0
def PySem.W.Fast.tw16839181838943479822:=0
def PySem.W.Fast.tw7600019048877458961:=0
def PySem.W.Fast.tw6127998622994185909:=0
def PySem.W.Fast.tw7416191471018968751:=0
def PySem.W.Fast.tw3165918065068628157:=0
def PySem.W.Fast.tw652189112900911539:=0
def PySem.W.Fast.tw5304887072188690967:=0
def PySem.W.Fast.tw10664253974762386510:=0
def PySem.W.Fast.tw1366903222725472741:=0
def PySem.W.Fast.tw2209111537855784416:=0
def PySem.W.Fast.tw3691404163295890249:=0
open PySem PySem.Spec PyProof.Rows
open List (of_mem_zip replicate take_sublist length_set forIn_nil any_cons filter_cons take_left' getElem_mem drop_drop reverse_reverse reverse_perm zipIdx_cons map_take map_drop flatMap_append)
noncomputable section
set_option bootstrap.genMatcherCode false
set_option genSizeOf false
set_option compiler.extract_closed false
set_option Elab.async false
set_option linter.all false
set_option maxRecDepth 100000
section
def wI:=@Array.getD_eq_getD_getElem?
def wv:=@Array.getElem?_eq_getElem
def wN:=@Array.getElem?_eq_none
def zB:=@Array.getElem?_toList
def zf:=@Array.length_toList
def xO:=@Array.map_append
def xq:=@Array.map_extract
def xN:=@Array.perm_iff_toList_perm
def wC:=@Array.size_extract
def zK:=@Array.size_map
def wP:=@Array.size_range
def zS:=@Array.toList_append
def xX:=@Array.toList_extract
def yC:=@Array.toList_push
def yo:=@Array.toList_range
def xg:=@Bool.and_eq_true
def xW:=@Bool.false_eq_true
def zT:=@Bool.false_ne_true
def zh:=@Heap.get?_push_of_some
def zQ:=@Heap.get?_push_size
def zw:=@Heap.lt_size
def wE:=@Heap.size_push
def yv:=@Int.emod_nonneg
def wG:=@Int.eq_ofNat_of_zero_le
def yg:=@List.all_eq_true
def wb:=@List.append_assoc
def xG:=@List.append_nil
def yb:=@List.drop_left'
def yH:=@List.drop_zero
def xF:=@List.extract_eq_take_drop
def wL:=@List.filterMap_cons
def yf:=@List.filter_cons_of_neg
def ye:=@List.filter_cons_of_pos
def xz:=@List.filter_sublist
def yu:=@List.find?_cons
def wq:=@List.flatMap_cons
def xf:=@List.getD_eq_getElem?_getD
def xE:=@List.getElem?_append_left
def xm:=@List.getElem?_append_right
def xV:=@List.getElem?_drop
def zk:=@List.getElem?_eq_getElem
def zN:=@List.getElem?_eq_some_iff
def zE:=@List.getElem?_map
def we:=@List.getElem?_replicate
def xI:=@List.getElem?_set_ne
def xt:=@List.getElem?_set_self
def yn:=@List.getElem?_take
def zA:=@List.length_append
def zt:=@List.length_cons
def wB:=@List.length_drop
def wF:=@List.length_eq_zero_iff
def zm:=@List.length_map
def ya:=@List.length_nil
def wc:=@List.length_replicate
def xk:=@List.length_take
def xu:=@List.lookup_cons
def al_List_lookup_cons_self:=@List.lookup_cons_self
def xU:=@List.map_append
def zu:=@List.map_cons
def xi:=@List.map_map
def xM:=@List.map_nil
def zI:=@List.mem_append
def xR:=@List.mem_append_left
def zr:=@List.mem_append_right
def zd:=@List.mem_cons
def zc:=@List.mem_cons_of_mem
def zo:=@List.mem_cons_self
def xh:=@List.mem_filter
def wj:=@List.mem_flatMap
def zD:=@List.mem_map
def zG:=@List.mem_map_of_mem
def wg:=@List.mem_of_getElem?
def wf:=@List.mem_reverse
def zq:=@List.mem_singleton
def xl:=@List.nil_append
def xy:=@List.nodup_append
def xo:=@List.nodup_cons
def xZ:=@List.not_mem_nil
def wS:=@List.pairwise_cons
def xD:=@List.pairwise_iff_getElem
def xQ:=@List.pairwise_map
def wR:=@List.perm_append_comm
def wK:=@List.reverse_append
def zJ:=@List.size_toArray
def xx:=@List.take_add_one
def wy:=@List.take_append_drop
def wA:=@List.take_length
def yj:=@List.take_of_length_le
def ym:=@List.zip_cons_cons
def yl:=@Nat.le_of_eq
def xJ:=@Nat.le_of_lt
def zj:=@Nat.le_refl
def xY:=@Nat.le_succ
def zF:=@Nat.le_trans
def wn:=@Nat.lt_irrefl
def yk:=@Nat.lt_of_le_of_lt
def wd:=@Nat.lt_of_le_of_ne
def zR:=@Nat.lt_of_lt_of_le
def yB:=@Nat.lt_of_succ_lt
def wH:=@Nat.lt_succ_of_lt
def zU:=@Nat.ne_of_lt
def wZ:=@Nat.pow_succ
def wT:=@Nat.zero_le
def wM:=@Option.map_eq_some_iff
def zy:=@Option.some.inj
def zW:=@decide_eq_false
def xv:=@decide_eq_true
def yA:=@decide_eq_true_eq
def wz:=@wpAny_Call_Name_kw
def zb:=@wpAny_bind
def wY:=@wpAny_comprehension_free
def yt:=@wpAny_execs_nil
def wm:=@wpAny_holding
def xT:=@wpAny_mono
def wa:=@wpAny_newObj_type
def wX:=@wpAny_passesOwn
def zg:=@wpAny_pure
def yi:=@wpAny_rule
def wl:=@wpAny_standAt
def yz:=@wpAny_truthy_bool
def zl:=@wpS_bind
def wk:=@wpS_forRange
def yh:=@wpS_modify
def yx:=@wpS_mono
def zP:=@wpS_pure
end
def q5 {p:Prop}(h:p:=by lia):p:=h
def q9 {p:Prop}(h:p:=by decide):p:=h
def w5 {p:Prop}(h:p:=by decide +kernel):p:=h
local macro_rules|`(tactic|exists $t)=>`(tactic|with_unfolding_all exact $t)
namespace L2
abbrev Key:=Sum Int Str
def UJ:Key->Value->Bool
 |.inl k,v=>Value.isInt k v
 |.inr x,v=>Value.isStrOf x v
def xs7(w:World):Key->Int
 |.inl k=>hashInt k
 |.inr x=>hashStr w x
theorem yI:∀{k:Key}{v:Value},UJ k v=true->(∃i t,k=Sum.inl i/\v=Value.int i t)\/(∃x t,k=Sum.inr x/\v=Value.str x t)
 |.inl i,v,h=>by
  obtain⟨t,e⟩:=Value.isInt_shape (k:=i) (v:=v) h;exact .inl ⟨i,t,rfl,e⟩
 |.inr x,v,h=>by
  obtain⟨t,e⟩:=Value.isStrOf_shape (x:=x) (v:=v) h;exact .inr ⟨x,t,rfl,e⟩
def zd9(i:Int)(t:Tok):UJ (.inl i) (.int i t)=true:=by simp[UJ,Value.isInt]
def zd8(x:Str)(t:Tok):UJ (.inr x) (.str x t)=true:=by simp[UJ,Value.isStrOf]
def zS2(a b:Int):decide ((Sum.inl a:Key)=Sum.inl b)=(a == b):=by
 by_cases e:a=b
 ·subst e;simp
 ·have h:¬ (Sum.inl a:Key)=Sum.inl b:=λq=>e (Sum.inl.inj q);rw[zW h];exact(beq_eq_false_iff_ne.mpr e).symm
def zR9(a b:Str):decide ((Sum.inr a:Key)=Sum.inr b)=decide (a=b):=by
 by_cases e:a=b
 ·subst e;simp
 ·have h:¬ (Sum.inr a:Key)=Sum.inr b:=λq=>e (Sum.inr.inj q);rw[zW h,zW e]
def zS1(a:Int)(b:Str):decide ((Sum.inl a:Key)=Sum.inr b)=false:=zW (λq=>nomatch q)
def zS0(a:Str)(b:Int):decide ((Sum.inr a:Key)=Sum.inl b)=false:=zW (λq=>nomatch q)
def yT(prog:Program)(w:World):PySem.KeyKind prog w Key where
 is:=UJ
 hash:=xs7 w
 inj:=λv a b ha hb=>by
  rcases yI ha with ⟨i,t,rfl,rfl⟩ |⟨x,t,rfl,rfl⟩
  ·rcases yI hb with ⟨j, u, rfl, e⟩ | ⟨y, u, rfl, e⟩
   ·injection e with e1 _;rw[e1]
   ·exact nomatch e
  ·rcases yI hb with ⟨j, u, rfl, e⟩ | ⟨y, u, rfl, e⟩
   ·exact nomatch e
   ·injection e with e1 _;rw[e1]
 byValue:=λk v h=>by
  rcases yI h with ⟨i,t,rfl,rfl⟩ |⟨x,t,rfl,rfl⟩<;>rfl
 pyHash:=λhv h=>by
  rcases yI hv with ⟨i,t,rfl,rfl⟩ |⟨x,t,rfl,rfl⟩
  ·exact wpAny_pyHash_int h
  ·exact wpAny_pyHash_str h
 eqBool:=λhu hv h=>by
  rcases yI hu with ⟨i,t,rfl,rfl⟩ |⟨x,t,rfl,rfl⟩
  ·rcases yI hv with ⟨j, u, rfl, rfl⟩ | ⟨y, u, rfl, rfl⟩
   ·rw[zS2] at h;exact wpAny_eqBool_int h
   ·rw[zS1] at h;exact SeqAt.EqAt.int_str i t y u _ _ _ _ h
  ·rcases yI hv with ⟨j, u, rfl, rfl⟩ | ⟨y, u, rfl, rfl⟩
   ·rw[zS0] at h;exact SeqAt.EqAt.str_int x t j u _ _ _ _ h
   ·rw[zR9] at h;exact wpAny_eqBool_str h
 «strs»:=λk x t v h=>by
  rcases yI h with ⟨i,u,rfl,e⟩ |⟨y,u,rfl,e⟩
  ·exact nomatch e
  ·injection e with e1 _;subst e1
   cases v<;>rfl
def UF(prog:Program)(w:World)(i:Int)(t:Tok):(yT prog w).is (.inl i) (.int i t)=true:=zd9 i t
def UE(prog:Program)(w:World)(x:Str)(t:Tok):(yT prog w).is (.inr x) (.str x t)=true:=zd8 x t
inductive V where
 |non |bl (b:Bool) |int (i:Int) |str (x:Str) |byt (b:Array UInt8) |flt (b:UInt64) |ref (a:Addr) |ty (n:String)
 deriving DecidableEq
def RelV:V->Value->Prop
 |.non,u=>u=Value.none
 |.bl b,u=>u=Value.bool b
 |.int i,u=>∃t,u=Value.int i t
 |.str x,u=>∃t,u=Value.str x t
 |.byt b,u=>∃t,u=Value.bytes b t
 |.flt b,u=>∃t,u=Value.float b t
 |.ref a,u=>u=Value.ref a
 |.ty n,u=>u=Value.type n
abbrev Vals:List V->List Value->Prop:=Paired RelV
def Vals.length{xs:List V}{us:List Value}(r:Vals xs us):xs.length=us.length:=Paired.length r
theorem Vals.get:∀{xs:List V}{us:List Value}{i:Nat}{x:V},Vals xs us->xs[i]?=some x->∃u,us[i]?=some u/\RelV x u
 |_,_,_,_,.nil,e=>by simp at e
 |_,_,0,_,.cons r _,e=>by simp at e;subst e;exact⟨_,rfl,r⟩
 |_,_,i+1,x,.cons _ t,e=>by
  obtain⟨u,h1,h2⟩:=Vals.get (i:=i) (x:=x) t (by simpa using e)
  exact⟨u,by simpa using h1,h2⟩
theorem Vals.set{x:V}{u:Value}(r:RelV x u):∀{xs:List V}{us:List Value} (i:Nat),Vals xs us->Vals (xs.set i x) (us.set i u)
 |_,_,_,.nil=>.nil
 |_,_,0,.cons _ t=>.cons r t
 |_,_,i+1,.cons q t=>.cons q (Vals.set r i t)
theorem Vals.append:∀{xs ys:List V}{us ws:List Value},Vals xs us->Vals ys ws->Vals (xs++ys) (us++ws)
 |_,_,_,_,.nil,s=>s
 |_,_,_,_,.cons r t,s=>.cons r (Vals.append t s)
theorem Vals.take:∀{xs:List V}{us:List Value} (n:Nat),Vals xs us->Vals (xs.take n) (us.take n)
 |_,_,0,_=>.nil
 |_,_,_+1,.nil=>.nil
 |_,_,n+1,.cons r t=>.cons r (Vals.take n t)
theorem Vals.drop:∀{xs:List V}{us:List Value} (n:Nat),Vals xs us->Vals (xs.drop n) (us.drop n)
 |_,_,0,r=>r
 |_,_,_+1,.nil=>.nil
 |_,_,n+1,.cons _ t=>Vals.drop n t
def RelO:Option V->Option Value->Prop
 |some v,some u=>RelV v u
 |none,none=>True
 |_,_=>False
def KV{κ:Type}:List (κ × V)->List (κ × Value)->Prop:=Paired fun(p:κ × V) (q:κ × Value)=>p.1=q.1/\RelV p.2 q.2
def kV:Key->V
 |.inl i=>.int i
 |.inr x=>.str x
inductive HO where
 /-- a list -/
 |lst (xs:List V)
 /-- a tuple (never changes) -/
 |tup (xs:List V)
 /-- a dict whose keys are ints and texts; one whose keys are tuples of ints and texts (the empty one is both) -/
 |dK (kvs:List (Key × V)) |dT (kvs:List (List Key × V))
 /-- a set of ints: its members, its size -/
 |set (S:Int->Bool) (n:Nat)
 /-- an instance of the class at C, its dict at dx, its attributes -/
 |ins (C dx:Addr) (fs:List (Str × V))
 /-- the dict of the instance at x -/
 |own (x:Addr)
 /-- the dict of an exception -/
 |xd (fs:List (Str × V))
 /-- a bound method, f of x -/
 |met (f x:Addr)
 /-- a range object lo, lo + 1, .. below hi -/
 |rng (lo hi:Int)
 /-- a thing that is known to the object (the script; a dict while a loop walks it): read, never written while it is so -/
 |frz (o:Obj) (u:HO)
 /-- a code object's table -/
 |tbl (ps:Array Value)
 /-- a code object's table: the code objects in it are known and stay -/
 |cot (q:Str)
 /-- any other thing, by what is true of its one object (a def of one's own: SetO a S n := HO.ext λh => ..) -/
 |ext (φ:Heap->Prop)
abbrev Hp:=Addr->Option HO
def upd(H:Hp)(a:Addr)(o:HO):Hp:=λb=>if b=a then some o else H b
def yd{H:Hp}{a:Addr}{o:HO}:upd H a o a=some o:=by unfold upd;rw[if_pos rfl]
def xS{H:Hp}{a b:Addr}{o:HO}(h:b≠a):upd H a o b=H b:=by unfold upd;rw[if_neg h]
def xh3{H:Hp}{a b:Addr}{o u:HO}(h:H a=some o)(h':H b=some u)(d:o≠u):a≠b:=by
 intro e;subst e;rw[h] at h';exact d (zy h')
def wJ{H:Hp}{a b:Addr}{o:HO}(h:H a=some o)(h':H b=none):a≠b:=by
 intro e;subst e;rw[h] at h';cases h'
def zJ9(oc:Obj)(q:Str):Prop:=∃vs t,oc.data=.fields vs/\vs[1]?=some (.str q t)
inductive TabG(φ:Addr->Prop):List Value->Prop where
 |nil:TabG φ []
 |cons {i j:Int}{t u:Tok}{c:Addr}{r:List Value} (h:φ c) (g:TabG φ r):TabG φ (.int i t::.int j u::.ref c::r)
def TabG.imp{φ ψ:Addr->Prop}(f:∀c,φ c->ψ c){l:List Value}(g:TabG φ l):TabG ψ l:=by
 induction g with
 |nil=>exact .nil
 |cons h _ ih=>exact .cons (f _ h) ih
section
variable (P:Program) (w:World)
def ObjOk(H:Hp)(h:Heap)(a:Addr):HO->Prop
 |.lst xs=>xs.length<=sizeLine/\∃(its:List Value) (n:Nat),Vals xs its/\h.get? a=some { cls:=.type "list",data:=.seq its.toArray n }
 |.tup xs=>xs.length<=sizeLine/\∃its:List Value,Vals xs its/\IsTup h a its.toArray
 |.dK kvs=>kvs.length<=sizeLine/\(a == sysModules)=false/\∃vs,KV kvs vs/\h.DictOf (yT P w) a vs
 | .dT kvs => kvs.length <= sizeLine /\ (a == sysModules) = false /\ ∃ xs : List (List Key × Addr × Value),
   Paired (fun(p:List Key × V) (q:List Key × Addr × Value)=>p.1=q.1/\H q.2.1=some (.tup (p.1.map kV))/\RelV p.2 q.2.2) kvs xs /\
   ∃o es ep,h.get? a=some o/\o.ExactDict/\o.data=.dict es ep/\es.toList=xs.map (entryOfKey (tupleKind (yT P w)))/\(xs.map (·.1)).Nodup
 |.set S n=>h.SetOf (intKind P w) a S n
 | .ins C dx fs => H dx = some (.own a) /\ fs.length <= 1000 /\ dx ≠ a /\ h.get? a = some (W.instObj C dx) /\
   ∃mA,h.Ns1 dx mA/\(∀f,RelO (fs.lookup f) (mA f))/\PySem.Within mA (fs.map (·.1))
 |.own _=>∃o,h.get? a=some o
 |.xd fs=>∃mA,h.Ns1 a mA/\∀f,RelO (fs.lookup f) (mA f)
 |.rng lo hi=>∃t u v,h.get? a=some { cls:=.type "range",data:=.fields #[.int lo t,.int hi u,.int 1 v] }
 |.frz o u=>h.get? a=some o/\ObjOk H h a u
 |.tbl ps=>h.get? a=some { cls:=.none,data:=.fields ps }
 |.cot q=>∃ps:Array Value,h.get? a=some { cls:=.none,data:=.fields ps }/\TabG (λc=>∃oc,H c=some (.frz oc (.own 0))/\zJ9 oc q) ps.toList
 |.met f x=>h.get? a=some (W.methodObj (.ref f) (.ref x))
 |.ext φ=>φ h/\(∃o,h.get? a=some o)/\∀h1 h2:Heap,φ h1->(∀o,h1.get? a=some o->h2.get? a=some o)->φ h2
def HOk(H:Hp)(h:Heap):Prop:=∀a o,H a=some o->ObjOk P w H h a o
end
section
variable {P:Program}{w:World}{H H':Hp}{h h':Heap}{a:Addr}{o:HO}
def ObjOk.lt(x:ObjOk P w H h a o):a<h.objs.size:=by
 cases o with
 |lst xs=>obtain⟨_,_,_,_,e⟩:=x;exact zw e
 |tup xs=>obtain⟨_,_,_,p⟩:=x;exact p.lt
 |dK kvs=>obtain⟨_,_,_,_,o,_,_,e,_⟩:=x;exact zw e
 |dT kvs=>obtain⟨_,_,_,_,o,_,_,e,_⟩:=x;exact zw e
 |set S n=>obtain⟨o,_,_,_,e,_⟩:=x;exact zw e
 |ins C dx fs=>obtain⟨_,_,_,e,_⟩:=x;exact zw e
 |own y=>obtain⟨_,e⟩:=x;exact zw e
 |xd fs=>obtain⟨_,⟨_,_,_,e,_⟩,_⟩:=x;exact zw e
 |rng lo hi=>obtain⟨_,_,_,e⟩:=x;exact zw e
 |frz ob u=>obtain⟨e,_⟩:=x;exact zw e
 |tbl ps=>exact zw (show h.get? a=some _ from x)
 |cot q=>obtain⟨ps,e,_⟩:=x;exact zw e
 |met f y=>exact zw (show h.get? a=some _ from x)
 |ext φ=>obtain⟨_,⟨_,e⟩,_⟩:=x;exact zw e
theorem Paired.mapP{α β:Type}{F G:α->β->Prop}:∀{l₁:List α}{l₂:List β},Paired F l₁ l₂->(∀a b,F a b->G a b)->Paired G l₁ l₂
 |_,_,.nil,_=>.nil
 |_,_,.cons r t,f=>.cons (f _ _ r) (Paired.mapP t f)
def ObjOk.stay(x:ObjOk P w H h a o)(k:∀b u,(b=a\/H b=some (.own a))->h.get? b=some u->h'.get? b=some u)
  (ho:∀b,H b=some (.own a)->H' b=some (.own a)) (ht:∀b xs,H b=some (.tup xs)->H' b=some (.tup xs)) (hz:∀b o u,H b=some (.frz o u)->H' b=some (.frz o u)):ObjOk P w H' h' a o:=by
 induction o with
 |lst xs=>obtain⟨z,its,n,r,e⟩:=x;exact⟨z,its,n,r,k _ _ (.inl rfl) e⟩
 |tup xs=>obtain⟨z,its,r,ob,e,c⟩:=x;exact⟨z,its,r,ob,k _ _ (.inl rfl) e,c⟩
 |dK kvs=>obtain⟨z,y,vs,r,ob,es,ep,e,c⟩:=x;exact⟨z,y,vs,r,ob,es,ep,k _ _ (.inl rfl) e,c⟩
 |dT kvs=>
  obtain⟨z,y,xs,r,ob,es,ep,e,c⟩:=x;exact⟨z,y,xs,Paired.mapP r λp q z=>⟨z.1,ht _ _ z.2.1,z.2.2⟩,ob,es,ep,k _ _ (.inl rfl) e,c⟩
 |set S n=>obtain⟨ob,es,ep,t,e,c⟩:=x;exact⟨ob,es,ep,t,k _ _ (.inl rfl) e,c⟩
 |ins C dx fs=>
  obtain⟨d,z,ne,e,mA,⟨od,es,ep,e2,c⟩,r⟩:=x;exact⟨ho _ d,z,ne,k _ _ (.inl rfl) e,mA,⟨od,es,ep,k _ _ (.inr d) e2,c⟩,r⟩
 |own y=>obtain⟨ob,e⟩:=x;exact⟨ob,k _ _ (.inl rfl) e⟩
 |xd fs=>obtain⟨mA,⟨od,es,ep,e,c⟩,r⟩:=x;exact⟨mA,⟨od,es,ep,k _ _ (.inl rfl) e,c⟩,r⟩
 |rng lo hi=>obtain⟨t,u,v,e⟩:=x;exact⟨t,u,v,k _ _ (.inl rfl) e⟩
 |frz ob u ih=>obtain⟨e,q⟩:=x;exact⟨k _ _ (.inl rfl) e,ih q⟩
 |cot q=>obtain⟨ps,e,g⟩:=x;exact⟨ps,k _ _ (.inl rfl) e,g.imp λc ⟨oc,z,i⟩=>⟨oc,hz _ _ _ z,i⟩⟩
 |tbl ps=>
  have e:h.get? a=some { cls:=.none,data:=.fields ps }:=x;show h'.get? a=some { cls:=.none,data:=.fields ps };exact k a _ (.inl rfl) e
 |met f y=>
  have e:h.get? a=some (W.methodObj (.ref f) (.ref y)):=x;show h'.get? a=some (W.methodObj (.ref f) (.ref y));exact k a _ (.inl rfl) e
 |ext φ=>obtain⟨p,⟨o,e⟩,st⟩:=x;exact⟨st _ _ p λo q=>k _ _ (.inl rfl) q,⟨o,k _ _ (.inl rfl) e⟩,st⟩
def HOk.lt(x:HOk P w H h)(e:H a=some o):a<h.objs.size:=(x a o e).lt
def HOk.fresh(x:HOk P w H h)(e:h.objs.size<=a):H a=none:=by
 cases q:H a with
 |none=>rfl
 |some u=>exact absurd (zR (x.lt q) e) (wn _)
def HOk.kept(x:HOk P w H h)(k:∀b u,h.get? b=some u->h'.get? b=some u):HOk P w H h':=λa o e=>
 (x a o e).stay (λb u _ q=>k b u q) (λ_ q=>q) (λ_ _ q=>q) λ_ _ _ q=>q
def HOk.laid(x:HOk P w H h)(k:∀b u,h.get? b=some u->h'.get? b=some u)(hp:h.objs.size<=a)(new:ObjOk P w (upd H a o) h' a o):HOk P w (upd H a o) h':=λb u e=>by
 have hn:=x.fresh hp
 by_cases hb:b=a
 ·subst hb;rw[yd] at e;cases e;exact new
 ·rw [xS hb] at e
  exact(x b u e).stay (λc v _ q=>k c v q) (λc q=>by rw[xS (wJ q hn)];exact q) (λc xs q=>by rw[xS (wJ q hn)];exact q) λc o u q=>by rw[xS (wJ q hn)];exact q
end
def Rd(H:Hp)(a:Addr)(u:HO):Prop:=H a=some u\/∃o,H a=some (.frz o u)
def Rd.ok{P:Program}{w:World}{H:Hp}{h:Heap}{a:Addr}{u:HO}(r:Rd H a u)(x:HOk P w H h):ObjOk P w H h a u:=by
 rcases r with r |⟨o,r⟩
 ·exact x a u r
 ·obtain⟨_,q⟩:=x a _ r;exact q
def Mut:Option HO->Prop
 |some (.lst _)=>True
 |some (.dK _)=>True
 |some (.dT _)=>True
 |some (.set _ _)=>True
 |some (.ins _ _ _)=>True
 |some (.ext _)=>True
 |_=>False
section
variable {P:Program}{w:World}{H:Hp}{h h':Heap}{x e:Addr}{o':HO}
def HOk.write(ok:HOk P w H h)(mu:Mut (H x))(he:e=x\/H e=some (.own x))(k:∀b u,b≠e->h.get? b=some u->h'.get? b=some u)(heo:∃u,h'.get? e=some u)
  (new:ObjOk P w (upd H x o') h' x o'):HOk P w (upd H x o') h':=λb u q=>by
 have nown:∀c y,H c=some (.own y)->c≠x:=λc y r z=>by subst z;rw[r] at mu;exact mu
 have ntup:∀c xs,H c=some (.tup xs)->c≠x:=λc xs r z=>by subst z;rw[r] at mu;exact mu
 by_cases hb:b=x
 ·subst hb;rw[yd] at q;cases q;exact new
 ·rw [xS hb] at q
  by_cases hbe:b=e
  ·have q' : H b = some (.own x) := by
    rcases he with z |z
    ·exact absurd (hbe.trans z) hb
    ·rw[hbe];exact z
   rw[q] at q';cases q';obtain⟨v,hv⟩:=heo
   exact⟨v,by rw[hbe];exact hv⟩
  ·refine (ok b u q).stay (λc v hc r => k c v ?_ r) (λc r => by rw [xS (nown c b r)]; exact r) (λc xs r => by rw [xS (ntup c xs r)]; exact r) λc o u r => by rw [xS (λz => by rw [<- z, r] at mu; exact mu)]; exact r
   rcases hc with rfl |hc
   ·exact hbe
   ·rintro rfl
    rcases he with z |z
    ·exact nown c b hc z
    ·rw[hc] at z;cases z;exact hb rfl
end
structure Un(fs ex:List Addr)(H H':Hp)(h h':Heap):Prop where
 keep:∀b o,h.get? b=some o->H b=none->b ∉ fs->b ∉ ex->h'.get? b=some o
 slot:∀b o,h.get? b=some o->H b=none->b∈fs->b ∉ ex->∃sl,h'.get? b=some { o with slots:=sl }
 free:∀b o,h.get? b=some o->H b=none->b ∉ ex->H' b=none
 there:∀b o,h.get? b=some o->b ∉ ex->∃o',h'.get? b=some o'
 tups:∀b xs,H b=some (.tup xs)->H' b=some (.tup xs)
 frzs:∀b o u,H b=some (.frz o u)->H' b=some (.frz o u)
 tbls:∀b ps,H b=some (.tbl ps)->∃more,H' b=some (.tbl (ps++more))
section
variable {fs fs' ex ex':List Addr}{H H1 H2:Hp}{h h1 h2 h':Heap}{a x e:Addr}{o:HO}
def Un.any(u:Un fs ex H H1 h h1){b:Addr}{ob:Obj}(q:h.get? b=some ob)(n:H b=none)(hx:b ∉ ex):∃sl,h1.get? b=some { ob with slots:=sl }:=by
 by_cases hb:b∈fs
 ·exact u.slot b ob q n hb hx
 ·exact⟨ob.slots,u.keep b ob q n hb hx⟩
def Un.trans(a:Un fs ex H H1 h h1)(b:Un fs ex H1 H2 h1 h2):Un fs ex H H2 h h2 where
 keep:=λc ob q n hc hx=>b.keep c ob (a.keep c ob q n hc hx) (a.free c ob q n hx) hc hx
 slot:=λc ob q n hc hx=>by
  obtain⟨sl,e1⟩:=a.slot c ob q n hc hx;obtain⟨sl',e2⟩:=b.slot c _ e1 (a.free c ob q n hx) hc hx;exact⟨sl',e2⟩
 free:=λc ob q n hx=>by
  obtain⟨o',e1⟩:=a.there c ob q hx;exact b.free c o' e1 (a.free c ob q n hx) hx
 there:=λc ob q hx=>by
  obtain⟨o',e1⟩:=a.there c ob q hx;exact b.there c o' e1 hx
 tups:=λc xs q=>b.tups c xs (a.tups c xs q)
 frzs:=λc ob xs q=>b.frzs c ob xs (a.frzs c ob xs q)
 tbls:=λc ps q=>by
  obtain⟨m1,e1⟩:=a.tbls c ps q;obtain⟨m2,e2⟩:=b.tbls c _ e1
  exact⟨m1++m2,by rw[e2,Array.append_assoc]⟩
def Un.kept(k:∀b u,h.get? b=some u->h'.get? b=some u):Un fs ex H H h h':=
 ⟨λb ob q _ _ _=>k b ob q,λb ob q _ _ _=>⟨ob.slots,k b ob q⟩,λ_ _ _ n _=>n,λb ob q _=>⟨ob,k b ob q⟩,λ_ _ q=>q,λ_ _ _ q=>q,λ_ ps q=>⟨#[],by rw[q];simp⟩⟩
def Un.refl:Un fs ex H H h h:=Un.kept λ_ _ q=>q
def Un.laid(k:∀b u,h.get? b=some u->h'.get? b=some u)(hp:h.objs.size<=a)(hn:H a=none):Un fs ex H (upd H a o) h h' where
 keep:=λb u q _ _ _=>k b u q
 slot:=λb u q _ _ _=>⟨u.slots,k b u q⟩
 free:=λb u q n _=>by rw[xS (zU (zR (zw q) hp))];exact n
 there:=λb u q _=>⟨u,k b u q⟩
 tups:=λb xs q=>by rw[xS (wJ q hn)];exact q
 frzs:=λb u xs q=>by rw[xS (wJ q hn)];exact q
 tbls:=λb ps q=>⟨#[],by rw[xS (wJ q hn),q];simp⟩
def Un.write(mu:Mut (H x))(he:e=x\/H e=some (.own x))(k:∀b u,b≠e->h.get? b=some u->h'.get? b=some u)(heo:∃u,h'.get? e=some u):Un fs ex H (upd H x o) h h':=by
 have hx:∀b,H b=none->b≠x:=λb n z=>by subst z;rw[n] at mu;exact mu
 have hb:∀b,H b=none->b≠e:=λb n z=>by
  subst z
  rcases he with r |r
  ·exact hx b n r
  ·rw[n] at r;cases r
 have hm:∀b u,H b=some u->¬ Mut (some u)->b≠x:=λb u q nm z=>by subst z;rw[q] at mu;exact nm mu
 refine⟨λb u q n _ _=>k b u (hb b n) q,λb u q n _ _=>⟨u.slots,k b u (hb b n) q⟩,λb u q n _=>by rw[xS (hx b n)];exact n,λb u q _=>?_,
  λb xs q=>by rw[xS (hm b _ q λz=>z)];exact q,λb u xs q=>by rw[xS (hm b _ q λz=>z)];exact q,λb ps q=>⟨#[],by rw[xS (hm b _ q λz=>z),q];simp⟩⟩
 by_cases hbe:b=e
 ·subst hbe;exact heo
 ·exact⟨u,k b u hbe q⟩
end
def trk(h:Heap)(H:Hp):List Addr:=(List.range h.objs.size).filter λa=>(H a).isSome
def zk3(h:Heap)(H:Hp):Heap:=W.hideAll h (trk h H)
def zf1(h:Heap)(H:Hp):(zk3 h H).objs.size=h.objs.size:=W.hideAll_size _ _
def zr3{h:Heap}{H:Hp}{b:Addr}{o:Obj}(e:h.get? b=some o)(n:H b=none):(zk3 h H).get? b=some o:=
 PySem.W.hideAll_get _ e λhm=>by
  have q:(H b).isSome=true:=(xh.mp hm).2;rw[n] at q;simp at q
def zF2{h:Heap}{H:Hp}{b:Addr}{o:Obj}(e:(zk3 h H).get? b=some o):h.get? b=some o/\H b=none:=by
 have e':h.get? b=some o:=W.of_hideAll (trk h H) e;refine⟨e',?_⟩
 cases q:H b with
 |none=>rfl
 |some x=>
  have hm:b∈trk h H:=xh.mpr ⟨List.mem_range.mpr (zw e'),by simp[q]⟩
  have z:(zk3 h H).get? b=none:=W.hideAll_none (trk h H) hm;rw[z] at e;cases e
def zJ4(g h:Heap)(L:Addr):List (Addr × Obj):=(List.range h.objs.size).filterMap λa=>if a=L\/(g.get? a).isSome=true then none else(h.get? a).map λo=>(a,o)
def rest(g h:Heap)(L d:Addr):List (Addr × Obj):=(zJ4 g h L).filter λp=>decide (p.1≠d)
structure Mod(K:W.Frag)(mg:Str->Option Value)(base:Heap):Prop where
 kin:K.In base
 glob:base.Ns mainGlobals mg
 blt:∃mb,base.Ns builtinsNs mb/\∀x:Str,x ≠ "__name__" -> mb x=bootBuiltins x
 nolimit:base.NoLimit
structure Cx where
 prog:Program
 w:World
 K:W.Frag
 mg:Str->Option Value
 base:Heap
 A:Around
 N:List Str
 s₀:Shared
 H₀:Hp
 env:Env
 outer:List Env
 stack:List Env
 ex:List Addr
 fn:Str->Bool
 calm:Bool
 pn:List (Addr × Obj)
 xe:Value->Shared->Prop
def frs(l:List Env):List Addr:=l.filterMap (·.frame)
abbrev Cx.fs(X:Cx):List Addr:=frs X.outer
def Vis(sc:Scope)(x:Str):Prop:=sc.names.lookup x=some .local\/sc.names.lookup x=some .cell\/sc.names.lookup x=some .free
def Loc(sc:Scope)(x:Str):Prop:=sc.names.lookup x=some .local\/sc.names.lookup x=some .cell
def xu3(env:Env)(h:Heap)(m:Str->Option Value)(x:Str)(u:Value):Prop:=
 (env.kindOf x=some .local/\m x=some u)\/((env.kindOf x=some .cell\/env.kindOf x=some .free)/\∃c,env.cells.lookup x=some c/\h.IsCell c (some u))
structure Cx.Ok(X:Cx):Prop where
 mod:Mod X.K X.mg X.base
 kind:X.env.scope.kind=.function
 glob:X.env.globals=mainGlobals
 blt:X.env.builtins=builtinsNs
 above:X.s₀.heap.objs.size<=X.env.locals
 inj:∀x y c,X.env.cells.lookup x=some c->X.env.cells.lookup y=some c->x=y
 has:∀x,(X.env.kindOf x=some .cell\/X.env.kindOf x=some .free)->∃c,X.env.cells.lookup x=some c
 cab:∀x c,X.fn x=true->X.env.cells.lookup x=some c->X.s₀.heap.objs.size<=c
 hd:X.calm=true->X.A.handled=none
 frames:X.A.frames=some X.stack
 stk:X.stack=X.outer\/(X.stack=X.env::X.outer/\X.env.frame=some X.env.locals)
 exf:∀b∈X.ex,b≠X.env.locals/\∀x c,X.env.cells.lookup x=some c->c≠b
 bs:∀b o,X.base.get? b=some o->X.s₀.heap.get? b=some o/\X.H₀ b=none
 bsz:X.base.objs.size<=X.s₀.heap.objs.size
 noex:∀b o,X.base.get? b=some o->b ∉ X.ex
 exfs:∀b∈X.ex,b ∉ X.fs
 funs:X.s₀.heap.FunFrames X.base X.outer
 frf:∀b∈X.fs,X.H₀ b=none
structure Inv(X:Cx)(pins:List (Addr × Obj))(σ:List (Option V))(H:Hp)(s:Shared):Prop where
 ok:X.Ok
 os:s.os=X.s₀.os
 bare:AllBare s.gens
 base:Un X.fs X.ex X.H₀ H X.s₀.heap s.heap
 loc:∃m,s.heap.Ns X.env.locals m/\∀(i:Nat) (x:Str) (v:V),X.N[i]?=some x->σ[i]?=some (some v)->Vis X.env.scope x->∃u,RelV v u/\xu3 X.env s.heap m x u
 cell:∀x c,X.env.cells.lookup x=some c->∃v,s.heap.IsCell c v
 free:H X.env.locals=none
 freeC:∀x c,X.env.cells.lookup x=some c->H c=none
 pin:∀p∈X.pn++pins,s.heap.get? p.1=some p.2/\H p.1=none/\p.1≠X.env.locals/\p.1 ∉ X.fs/\∀v,p.2.data≠.cell v
 hok:HOk X.prog X.w H s.heap
 len:σ.length=X.N.length
section
variable {X:Cx}{pins:List (Addr × Obj)}{σ:List (Option V)}{H H':Hp}{s:Shared}{h':Heap}
def Cx.Ok.nofr(ok:X.Ok){b:Addr}{o:Obj}(e:X.base.get? b=some o):b ∉ X.fs:=λhb=>by
 have:=(ok.funs.mem hb).1;rw[e] at this;cases this
def Inv.bs(I:Inv X pins σ H s):∀b o,X.base.get? b=some o->s.heap.get? b=some o/\H b=none:=λb o e=>
 ⟨I.base.keep b o (I.ok.bs b o e).1 (I.ok.bs b o e).2 (I.ok.nofr e) (I.ok.noex b o e),I.base.free b o (I.ok.bs b o e).1 (I.ok.bs b o e).2 (I.ok.noex b o e)⟩
def Inv.bk(I:Inv X pins σ H s):∀b o,X.base.get? b=some o->s.heap.get? b=some o:=λb o e=>(I.bs b o e).1
def Inv.mod(I:Inv X pins σ H s):Mod X.K X.mg X.base:=I.ok.mod
def Inv.kIn(I:Inv X pins σ H s):X.K.In s.heap:=I.ok.mod.kin.keeps I.bk
def Inv.lt(I:Inv X pins σ H s):X.env.locals<s.heap.objs.size:=let ⟨_,hn,_⟩:=I.loc;hn.lt
def Inv.sz(I:Inv X pins σ H s):X.s₀.heap.objs.size<=s.heap.objs.size:=zF I.ok.above (xJ I.lt)
def Inv.nofs(I:Inv X pins σ H s){a:Addr}(h:s.heap.objs.size<=a):a ∉ X.fs:=λhb=>by
 obtain⟨_,o,ho,_⟩:=I.ok.funs.mem hb;exact absurd (zR (zw ho) (zF I.sz h)) (wn _)
def Inv.cne(I:Inv X pins σ H s):∀x c,X.env.cells.lookup x=some c->c≠X.env.locals:=λx c e z=>by
 obtain⟨v,o,ho,hd⟩:=I.cell x c e;obtain⟨m,⟨o',es,ep,ho',hd',_⟩,_⟩:=I.loc;rw[z,ho'] at ho;cases ho;rw[hd'] at hd;cases hd
def Inv.funs(I:Inv X pins σ H s):s.heap.FunFrames X.base X.outer:=by
 have all:∀(l:List Env),(∀b∈frs l,b∈X.fs)->X.s₀.heap.FunFrames X.base l->s.heap.FunFrames X.base l:=by
  intro l
  induction l with
  |nil=>intro _ _;trivial
  |cons env r ih=>
   intro hs hl;obtain⟨hk,⟨L,o,hf,hn,ho,hd⟩,hr⟩:=hl
   have hL:L∈X.fs:=hs L (by unfold frs;rw[wL,hf];exact zo)
   obtain⟨sl,e⟩:=I.base.slot L o ho (I.ok.frf L hL) hL λz=>I.ok.exfs L z hL
   exact⟨hk,⟨L,_,hf,hn,e,hd⟩,ih (λb hb=>hs b (by unfold frs;rw[wL,hf];exact zc _ hb)) hr⟩
 exact all X.outer (λ_ hb=>hb) I.ok.funs
def Inv.stack(I:Inv X pins σ H s):s.heap.FunFrames X.base X.stack:=by
 rcases I.ok.stk with e |⟨e,hf⟩
 ·rw[e];exact I.funs
 ·rw [e];obtain⟨m,hn,_⟩:=I.loc
  refine .cons (by rw[I.ok.kind];decide) hf hn ?_ I.funs
  exact Heap.get?_none_of_le (zF I.ok.bsz I.ok.above)
def Inv.stkSub(I:Inv X pins σ H s):∀b∈frs X.stack,b∈X.env.locals::X.fs:=λb hb=>by
 rcases I.ok.stk with e |⟨e,hf⟩
 ·rw[e] at hb;exact zc _ hb
 ·rw[e] at hb;unfold frs at hb;rw[wL,hf] at hb;exact hb
def Inv.stkFree(I:Inv X pins σ H s):∀b∈frs X.stack,H b=none:=λb hb=>by
 rcases zd.mp (I.stkSub b hb) with e |hb
 ·rw[e];exact I.free
 ·obtain⟨_,o,ho,_⟩:=I.ok.funs.mem hb;exact I.base.free b o ho (I.ok.frf b hb) λz=>I.ok.exfs b z hb
def Inv.step{g':Array GenState}{t':Nat}{d':Drawn}{ch:List Addr}(I:Inv X pins σ H s)
  (hch:∀b∈ch,(b∈X.ex\/X.s₀.heap.objs.size<=b)/\b≠X.env.locals/\(∀x c,X.env.cells.lookup x=some c->c≠b)/\∀p∈X.pn++pins,p.1≠b)
  (keep:∀b o,b≠X.env.locals->b ∉ X.fs->b ∉ ch->s.heap.get? b=some o->H b=none->h'.get? b=some o)
  (slot:∀b o,b≠X.env.locals->b∈X.fs->b ∉ ch->s.heap.get? b=some o->H b=none->∃sl,h'.get? b=some { o with slots:=sl }) (free:∀b o,b ∉ ch->s.heap.get? b=some o->H b=none->H' b=none)
  (there:∀b o,b ∉ ch->s.heap.get? b=some o->∃o',h'.get? b=some o')
  (tups:∀b xs,H b=some (.tup xs)->H' b=some (.tup xs)) (frzs:∀b o u,H b=some (.frz o u)->H' b=some (.frz o u)) (tbls:∀b ps,H b=some (.tbl ps)->∃more,H' b=some (.tbl (ps++more)))
  (ns:∀m,s.heap.Ns X.env.locals m->h'.Ns X.env.locals m) (hok:HOk X.prog X.w H' h') (hg:AllBare g') :
  Inv X pins σ H' { s with heap:=h',gens:=g',drawn:=d',toks:=t' }:=by
 have neL:∀b o,X.s₀.heap.get? b=some o->b≠X.env.locals:=λb o e=>zU (zR (zw e) I.ok.above)
 have neC:∀b o,X.s₀.heap.get? b=some o->b ∉ X.ex->b ∉ ch:=λb o e hx hb=>by
  rcases(hch b hb).1 with z |z
  ·exact hx z
  ·exact absurd (zR (zw e) z) (wn _)
 have cellK:∀x c,X.env.cells.lookup x=some c->∀v,s.heap.IsCell c v->h'.IsCell c v:=λx c e v ⟨o,ho,hd⟩=>by
  have nch:c ∉ ch:=λz=>(hch c z).2.2.1 x c e rfl
  by_cases hc:c∈X.fs
  ·obtain⟨sl,q⟩:=slot c o (I.cne x c e) hc nch ho (I.freeC x c e);exact⟨_,q,hd⟩
  ·exact⟨o,keep c o (I.cne x c e) hc nch ho (I.freeC x c e),hd⟩
 refine⟨I.ok,I.os,hg,⟨λb o e n hb hx=>?_,λb o e n hb hx=>?_,λb o e n hx=>?_,λb o e hx=>?_,λb xs e=>tups b xs (I.base.tups b xs e),λb o xs e=>frzs b o xs (I.base.frzs b o xs e),λb ps e=>?_⟩,?_,λx c e=>?_,?_,λx c e=>?_,λp hp=>?_,hok,I.len⟩
 ·exact keep b o (neL b o e) hb (neC b o e hx) (I.base.keep b o e n hb hx) (I.base.free b o e n hx)
 ·obtain⟨sl,e1⟩:=I.base.slot b o e n hb hx;obtain⟨sl',e2⟩:=slot b _ (neL b o e) hb (neC b o e hx) e1 (I.base.free b o e n hx);exact⟨sl',e2⟩
 ·obtain⟨o',e1⟩:=I.base.there b o e hx;exact free b o' (neC b o e hx) e1 (I.base.free b o e n hx)
 ·obtain⟨o',e1⟩:=I.base.there b o e hx;exact there b o' (neC b o e hx) e1
 ·obtain ⟨m1, e1⟩ := I.base.tbls b ps e;obtain⟨m2,e2⟩:=tbls b _ e1
  exact⟨m1++m2,by rw[e2,Array.append_assoc]⟩
 ·obtain ⟨m, hn, hl⟩ := I.loc;refine⟨m,ns m hn,λi x v e1 e2 e3=>?_⟩;obtain⟨u,r,l⟩:=hl i x v e1 e2 e3;refine⟨u,r,?_⟩
  rcases l with l |⟨k,c,e,z⟩
  ·exact .inl l
  ·exact .inr ⟨k,c,e,cellK x c e _ z⟩
 ·obtain⟨v,z⟩:=I.cell x c e;exact⟨v,cellK x c e v z⟩
 ·obtain⟨m,⟨o,_,_,ho,_⟩,_⟩:=I.loc;exact free _ o (λz=>(hch _ z).2.1 rfl) ho I.free
 ·obtain⟨v,o,ho,hd⟩:=I.cell x c e;exact free c o (λz=>(hch c z).2.2.1 x c e rfl) ho (I.freeC x c e)
 ·obtain⟨e,n,ne,nf,d⟩:=I.pin p hp;have nch:p.1 ∉ ch:=λz=>(hch p.1 z).2.2.2 p hp rfl;exact⟨keep p.1 p.2 ne nf nch e n,free p.1 p.2 nch e n,ne,nf,d⟩
def Inv.un{t':Nat}(I:Inv X pins σ H s)(u:Un X.fs [] H H' s.heap h')(hok:HOk X.prog X.w H' h'):Inv X pins σ H' { s with heap:=h',toks:=t' }:=by
 obtain⟨m,⟨o,es,ep,ho,r⟩,_⟩:=id I.loc
 obtain⟨sl,hL⟩:=u.any ho I.free (by simp)
 exact I.step (g':=s.gens) (d':=s.drawn) (ch:=[]) (λ_ z=>nomatch z) (λb o _ hb _ e n=>u.keep b o e n hb (by simp)) (λb o _ hb _ e n=>u.slot b o e n hb (by simp)) (λb o _ e n=>u.free b o e n (by simp)) (λb o _ e=>u.there b o e (by simp)) u.tups u.frzs u.tbls (λm' hm=>by
  obtain⟨o',es',ep',ho',r'⟩:=hm;rw[ho] at ho';cases ho'
  exact⟨_,es',ep',hL,r'⟩) hok I.bare
def Inv.call{g':Array GenState}{t':Nat}{d':Drawn}{ch:List Addr}(I:Inv X pins σ H s)(u:Un (frs X.stack) ch H H' s.heap h')(hok:HOk X.prog X.w H' h')(hg:AllBare g')
  (hch:∀b∈ch,(b∈X.ex\/X.s₀.heap.objs.size<=b)/\b≠X.env.locals/\(∀x c,X.env.cells.lookup x=some c->c≠b)/\∀p∈X.pn++pins,p.1≠b) :
  Inv X pins σ H' { s with heap:=h',gens:=g',drawn:=d',toks:=t' }:=by
 obtain⟨m,⟨o,es,ep,ho,r⟩,_⟩:=id I.loc;obtain⟨sl,hL⟩:=u.any ho I.free λz=>(hch _ z).2.1 rfl
 exact I.step (ch:=ch) hch (λb o hL hb hc e n=>u.keep b o e n (λz=>(zd.mp (I.stkSub b z)).elim hL hb) hc) (λb o _ _ hc e n=>u.any e n hc) (λb o hc e n=>u.free b o e n hc) (λb o hc e=>u.there b o e hc) u.tups u.frzs u.tbls (λm' hm=>by
  obtain⟨o',es',ep',ho',r'⟩:=hm;rw[ho] at ho';cases ho'
  exact⟨_,es',ep',hL,r'⟩) hok hg
def Inv.turned{t':Nat}{it:Addr}(I:Inv X pins σ H s)(k:∀b o,b≠it->s.heap.get? b=some o->h'.get? b=some o)(hn:H it=none)(hL:it≠X.env.locals)
  (h1:it∈X.ex\/X.s₀.heap.objs.size<=it) (h2:∀x c,X.env.cells.lookup x=some c->c≠it) (h3:∀p∈X.pn++pins,p.1≠it):Inv X pins σ H { s with heap:=h',toks:=t' }:=by
 have nit:∀b u,H b=some u->b≠it:=λb u e z=>by rw[z,hn] at e;cases e
 refine I.step (g':=s.gens) (d':=s.drawn) (ch:=[it]) (λb hb=>?_) (λb o _ _ hc e _=>k b o (λz=>hc (by simp[z])) e) (λb o _ _ hc e _=>⟨o.slots,k b o (λz=>hc (by simp[z])) e⟩) (λ_ _ _ _ n=>n)
  (λb o hc e=>⟨o,k b o (λz=>hc (by simp[z])) e⟩) (λ_ _ e=>e) (λ_ _ _ e=>e) (λb ps e=>⟨#[],by rw[e];simp⟩) (λm hm=>?_) (λb u e=>?_) I.bare
 ·have e : b = it := by simpa using hb
  subst e;exact⟨h1,hL,h2,h3⟩
 ·obtain⟨o,es,ep,ho,r⟩:=hm;exact⟨o,es,ep,k _ o (Ne.symm hL) ho,r⟩
 ·refine (I.hok b u e).stay (λc v hc q => k c v ?_ q) (λ_ q => q) (λ_ _ q => q) λ_ _ _ q => q
  rcases hc with z |z
  ·rw[z];exact nit b u e
  ·exact nit c _ z
def Inv.tok(I:Inv X pins σ H s)(t:Nat):Inv X pins σ H { s with toks:=t }:=I.un (h':=s.heap) (t':=t) Un.refl I.hok
def Inv.kept{t':Nat}(I:Inv X pins σ H s)(k:∀b u,s.heap.get? b=some u->h'.get? b=some u):Inv X pins σ H { s with heap:=h',toks:=t' }:=I.un (Un.kept k) (I.hok.kept k)
def Inv.laid{a:Addr}{o:HO}{t':Nat}(I:Inv X pins σ H s)(k:∀b u,s.heap.get? b=some u->h'.get? b=some u)(hp:s.heap.objs.size<=a)(new:ObjOk X.prog X.w (upd H a o) h' a o) :
  Inv X pins σ (upd H a o) { s with heap:=h',toks:=t' }:=I.un (Un.laid k hp (I.hok.fresh hp)) (I.hok.laid k hp new)
def Inv.write{x e:Addr}{o:HO}{t':Nat}(I:Inv X pins σ H s)(mu:Mut (H x))(he:e=x\/H e=some (.own x))(k:∀b u,b≠e->s.heap.get? b=some u->h'.get? b=some u)(heo:∃u,h'.get? e=some u)
  (new:ObjOk X.prog X.w (upd H x o) h' x o):Inv X pins σ (upd H x o) { s with heap:=h',toks:=t' }:=I.un (Un.write mu he k heo) (I.hok.write mu he k heo new)
def Inv.weak{σ':List (Option V)}(I:Inv X pins σ H s)(hl:σ'.length=σ.length)(w:∀(i:Nat) v,σ'[i]?=some (some v)->σ[i]?=some (some v)):Inv X pins σ' H s:=
 ⟨I.ok,I.os,I.bare,I.base,let ⟨m,hn,hl'⟩:=I.loc;⟨m,hn,λi x v e1 e2 e3=>hl' i x v e1 (w i v e2) e3⟩,I.cell,I.free,I.freeC,I.pin,I.hok,hl.trans I.len⟩
def Inv.pins_of{pins':List (Addr × Obj)}(I:Inv X pins σ H s)(h:∀p∈pins',s.heap.get? p.1=some p.2/\H p.1=none/\p.1≠X.env.locals/\p.1 ∉ X.fs/\∀v,p.2.data≠.cell v):Inv X pins' σ H s:=
 ⟨I.ok,I.os,I.bare,I.base,I.loc,I.cell,I.free,I.freeC,λp hp=>(zI.mp hp).elim (λz=>I.pin p (xR _ z)) (h p),I.hok,I.len⟩
def We{N:List Str}(hN:N.Nodup){i j:Nat}{x:Str}(a:N[i]?=some x)(b:N[j]?=some x):i=j:=by
 obtain⟨h1,e1⟩:=zN.mp a;obtain⟨h2,e2⟩:=zN.mp b;exact(List.getElem_inj hN).mp (e1.trans e2.symm)
def WF{M:Model}{A:Around}{E:Value->Shared->Prop}{i:Nat}{x:Str}{v:V}{u:Value}{Q:Unit->Shared->Prop}(I:Inv X pins σ H s)(hN:X.N.Nodup)(hi:X.N[i]?=some x)(hx:Loc X.env.scope x)(r:RelV v u)
  (h:∀s',Inv X pins (σ.set i (some v)) H s'->(∃a,Heap.SameBut a s.heap s'.heap/\(a=X.env.locals\/X.env.cells.lookup x=some a))->Q () s') (hf:X.fn x=true\/X.env.scope.names.lookup x=some .local:=by first |exact .inl rfl |exact .inr rfl |assumption):wpAny M A (storeName X.env x u) Q E s:=by
 obtain⟨m,hn,hl⟩:=id I.loc
 have hcls:(X.env.scope.kind == .class||(X.env.scope.kind == .module&&X.env.locals != X.env.globals))=false:=by rw[I.ok.kind];rfl
 have hiσ:i<σ.length:=by rw[I.len];exact(zN.mp hi).1
 have cne:=I.cne
 have tracked:∀{a:Addr}{h':Heap},(∃o,s.heap.get? a=some o/\H a=none)->Heap.SameBut a s.heap h'->HOk X.prog X.w H h':=λ{a h'} ha hs b ob e=>by
  obtain⟨_,_,hfree⟩:=ha;refine(I.hok b ob e).stay (λc w' hc q=>(hs.2 c ?_).trans q) (λ_ q=>q) (λ_ _ q=>q) λ_ _ _ q=>q;rintro rfl
  rcases hc with rfl |hc
  ·rw[hfree] at e;cases e
  ·rw[hfree] at hc;cases hc
 rcases hx with hk |hk
 ·refine wpAny_storeName_local hk hn (λh' hn' hs => ?_) hcls;obtain⟨oL,_,_,hoL,_⟩:=id hn
  refine h _ ⟨I.ok,I.os,I.bare,⟨λb o e n hb hx=>?_,λb o e n hb hx=>?_,I.base.free,λb o e hx=>?_,I.base.tups,I.base.frzs,I.base.tbls⟩,⟨_,hn',λj y v' e1 e2 e3=>?_⟩,λy c e=>?_,I.free,I.freeC,λp hp=>?_,tracked ⟨oL,hoL,I.free⟩ hs,by simpa using I.len⟩ ⟨_,hs,.inl rfl⟩
  ·exact(hs.2 b (zU (zR (zw e) I.ok.above))).trans (I.base.keep b o e n hb hx)
  ·obtain⟨sl,e1⟩:=I.base.slot b o e n hb hx;exact⟨sl,(hs.2 b (zU (zR (zw e) I.ok.above))).trans e1⟩
  ·obtain⟨o',e1⟩:=I.base.there b o e hx;exact⟨o',(hs.2 b (zU (zR (zw e) I.ok.above))).trans e1⟩
  ·by_cases hj : j = i
   ·subst hj;rw[hi] at e1;cases e1;rw[xt hiσ] at e2;cases e2
    exact⟨u,r,.inl ⟨hk,by simp⟩⟩
   ·rw [xI (Ne.symm hj)] at e2;obtain⟨u',r',q⟩:=hl j y v' e1 e2 e3;refine⟨u',r',?_⟩
    rcases q with ⟨k,e⟩ |⟨k,c,e,z⟩
    ·refine .inl ⟨k,?_⟩;have:y≠x:=λe=>hj (We hN e1 (e ▸ hi));simp[this,e]
    ·exact .inr ⟨k,c,e,z.sameBut hs (cne y c e)⟩
  ·obtain⟨w',z⟩:=I.cell y c e;exact⟨w',z.sameBut hs (cne y c e)⟩
  ·obtain⟨e,n,ne,nf,d⟩:=I.pin p hp;exact⟨(hs.2 p.1 ne).trans e,n,ne,nf,d⟩
 ·have hfn : X.fn x = true := by
   rcases hf with z |z
   ·exact z
   ·rw[z] at hk;cases hk
  obtain⟨c,hc⟩:=I.ok.has x (.inl hk);obtain⟨w',z⟩:=I.cell x c hc;refine wpAny_storeName_cell I.ok.kind hk hc z (λh' hc' hs=>?_);obtain⟨oc,hoc,hocd⟩:=id z
  refine h { s with heap:=h' } ⟨I.ok,I.os,I.bare,⟨λb o e n hb hx=>?_,λb o e n hb hx=>?_,I.base.free,λb o e hx=>?_,I.base.tups,I.base.frzs,I.base.tbls⟩,⟨m,hn.sameBut hs (Ne.symm (cne x c hc)),λj y v' e1 e2 e3=>?_⟩,λy c' e=>?_,I.free,I.freeC,λp hp=>?_,tracked ⟨oc,hoc,I.freeC x c hc⟩ hs,by simpa using I.len⟩ ⟨c,hs,.inr hc⟩
  ·exact(hs.2 b (zU (zR (zw e) (I.ok.cab x c hfn hc)))).trans (I.base.keep b o e n hb hx)
  ·obtain⟨sl,e1⟩:=I.base.slot b o e n hb hx;exact⟨sl,(hs.2 b (zU (zR (zw e) (I.ok.cab x c hfn hc)))).trans e1⟩
  ·obtain⟨o',e1⟩:=I.base.there b o e hx;exact⟨o',(hs.2 b (zU (zR (zw e) (I.ok.cab x c hfn hc)))).trans e1⟩
  ·by_cases hj : j = i
   ·subst hj;rw[hi] at e1;cases e1;rw[xt hiσ] at e2;cases e2;exact⟨u,r,.inr ⟨.inl hk,c,hc,hc'⟩⟩
   ·rw [xI (Ne.symm hj)] at e2;obtain⟨u',r',q⟩:=hl j y v' e1 e2 e3;refine⟨u',r',?_⟩
    rcases q with q |⟨k,c',e,z'⟩
    ·exact .inl q
    ·refine .inr ⟨k,c',e,z'.sameBut hs ?_⟩;rintro rfl;exact hj (We hN e1 (I.ok.inj _ _ _ e hc ▸ hi))
  ·by_cases hcc : c' = c
   ·subst hcc;exact⟨_,hc'⟩
   ·obtain⟨w2,z2⟩:=I.cell y c' e;exact⟨w2,z2.sameBut hs hcc⟩
  ·obtain ⟨e, n, ne, nf, d⟩ := I.pin p hp;refine⟨(hs.2 p.1 ?_).trans e,n,ne,nf,d⟩;intro q;rw[q,hoc] at e;have q':oc=p.2:=zy e
   exact d w' (by rw[<- q'];exact hocd)
def qf{M:Model}{A:Around}{E:Value->Shared->Prop}{i:Nat}{x:Str}{v:V}{u:Value}{Q:Unit->Shared->Prop}(I:Inv X pins σ H s)(hN:X.N.Nodup)(hi:X.N[i]?=some x)(hx:Loc X.env.scope x)(r:RelV v u)
  (h:∀s',Inv X pins (σ.set i (some v)) H s'->Q () s') (hf:X.fn x=true\/X.env.scope.names.lookup x=some .local:=by first |exact .inl rfl |exact .inr rfl |assumption):wpAny M A (storeName X.env x u) Q E s:=
 WF I hN hi hx r (λs' I' _=>h s' I') hf
def Inv.call'{s':Shared}{ch:List Addr}(I:Inv X pins σ H s)(ho:s'.os=s.os)(u:Un (frs X.stack) ch H H' s.heap s'.heap)(hok:HOk X.prog X.w H' s'.heap)(hg:AllBare s'.gens)
  (hch:∀b∈ch,(b∈X.ex\/X.s₀.heap.objs.size<=b)/\b≠X.env.locals/\(∀x c,X.env.cells.lookup x=some c->c≠b)/\∀p∈X.pn++pins,p.1≠b):Inv X pins σ H' s':=by
 obtain⟨h',g',d',t',o'⟩:=s';have e:o'=s.os:=ho;subst e;exact I.call (g':=g') (t':=t') (d':=d') u hok hg hch
end
abbrev XK:=Value->Option Addr->Hp->Prop
abbrev St:=List (Option V)
abbrev VK:=V->Hp->Prop
abbrev TE:=St->Hp->VK->Prop
abbrev TT:=St->Hp->(Bool->Hp->Prop)->Prop
abbrev TA:=St->Hp->(List V->Hp->Prop)->Prop
structure Ends where
 nx:St->Hp->Prop
 rt:VK
 bk:St->Hp->Prop:=λ_ _=>False
 ct:St->Hp->Prop:=λ_ _=>False
abbrev TS:=Ends->St->Hp->Prop
def EP(X:Cx)(pins:List (Addr × Obj))(σ:St)(Q:VK)(u:Value)(s':Shared):Prop:=∃v H',Inv X pins σ H' s'/\RelV v u/\Q v H'
def TP(X:Cx)(pins:List (Addr × Obj))(σ:St)(Q:Bool->Hp->Prop)(b:Bool)(s':Shared):Prop:=∃H',Inv X pins σ H' s'/\Q b H'
def AP(X:Cx)(pins:List (Addr × Obj))(σ:St)(Q:List V->Hp->Prop)(us:List Value)(s':Shared):Prop:=∃vs H',Inv X pins σ H' s'/\Vals vs us/\Q vs H'
def SP(X:Cx)(pins:List (Addr × Obj))(D:Ends)(f:Flow)(s':Shared):Prop:=
 match f with
 |.next=>∃σ' H',Inv X pins σ' H' s'/\D.nx σ' H'
 |.brk=>∃σ' H',Inv X pins σ' H' s'/\D.bk σ' H'
 |.cont=>∃σ' H',Inv X pins σ' H' s'/\D.ct σ' H'
 |.ret u=>∃v σ' H',Inv X pins σ' H' s'/\RelV v u/\D.rt v H'
def PE(X:Cx)(e:Expr)(t:TE):Prop:=
 ∀(pins:List (Addr × Obj)) (s:Shared) (σ:St) (H:Hp) (Q:VK),Inv X pins σ H s->t σ H Q->wpAny (model X.prog X.w) X.A (eval e X.env) (EP X pins σ Q) X.xe s
def PT(X:Cx)(e:Expr)(t:TT):Prop:=
 ∀(pins:List (Addr × Obj)) (s:Shared) (σ:St) (H:Hp) (Q:Bool->Hp->Prop),Inv X pins σ H s->t σ H Q->wpAny (model X.prog X.w) X.A (isTrue e X.env (eval e X.env)) (TP X pins σ Q) X.xe s
def PW(X:Cx)(e:Expr)(t:TT):Prop:=
 ∀(whole:Sem Value) (pins:List (Addr × Obj)) (s:Shared) (σ:St) (H:Hp) (Q:Bool->Hp->Prop),Inv X pins σ H s->t σ H Q->wpAny (model X.prog X.w) X.A (isTrue e X.env whole) (TP X pins σ Q) X.xe s
def PW.pt{X:Cx}{e:Expr}{t:TT}(h:PW X e t):PT X e t:=h _
def PA(X:Cx)(es:List Expr)(t:TA):Prop:=
 ∀(pos:Pos) (pins:List (Addr × Obj)) (s:Shared) (σ:St) (H:Hp) (Q:List V->Hp->Prop),Inv X pins σ H s->t σ H Q->wpAny (model X.prog X.w) X.A (spliced (backTo pos (starEach es X.env))) (AP X pins σ Q) X.xe s
def PS(X:Cx)(st:Stmt)(t:TS):Prop:=
 ∀(pins:List (Addr × Obj)) (s:Shared) (σ:St) (H:Hp) (D:Ends),Inv X pins σ H s->t D σ H->wpAny (model X.prog X.w) X.A (exec st X.env) (SP X pins D) X.xe s
def PSs(X:Cx)(st:List Stmt)(t:TS):Prop:=
 ∀(pins:List (Addr × Obj)) (s:Shared) (σ:St) (H:Hp) (D:Ends),Inv X pins σ H s->t D σ H->wpAny (model X.prog X.w) X.A (execs st X.env) (SP X pins D) X.xe s
def thn{α:Type}{t:Sem α}{Q Q':α->Shared->Prop}{M:Model}{A:Around}{E:Value->Shared->Prop}{s:Shared}(h:wpAny M A t Q E s)(hQ:∀a s,Q a s->Q' a s):wpAny M A t Q' E s:=xT h hQ λ_ _ x=>x
section
variable {X:Cx}
def xi5(i:Nat):TE:=λσ H Q=>∃v,σ[i]?=some (some v)/\Q v H
def tC(v:V):TE:=λ_ H Q=>Q v H
def Vd{i:Nat}{x:Str}{pos:Pos}(hN:X.N[i]?=some x)(hv:Vis X.env.scope x)(hd:(x == ("__debug__" : Str))=false:=by decide)(hcd:(x == ("__classdict__" : Str))=false:=by decide):PE X (.Name x pos) (xi5 i):=by
 intro pins s σ H Q I h;obtain⟨v,e,h⟩:=h;obtain⟨m,hn,hl⟩:=I.loc;obtain⟨u,r,l⟩:=hl i x v hN e hv;have fin:EP X pins σ Q u s:=⟨v,H,I,r,h⟩
 rcases l with ⟨hk,hm⟩ |⟨hk,c,hc,hcell⟩
 ·exact wpAny_Name (wpAny_loadName_local I.ok.kind hk hn hm fin) hd
 ·rcases hk with hk | hk
  ·exact wpAny_Name (wpAny_loadName_cell I.ok.kind hk hc hcell fin) hd
  ·exact wpAny_Name (wpAny_loadName_free I.ok.kind hk hc hcell fin hcd) hd
def zP5{i j pos}:PE X (.Constant (.int i) j pos) (tC (.int i)):=λ_ _ _ H _ I h=>wpAny_Constant_int ⟨.int i,H,I.tok _,⟨_,rfl⟩,h⟩
def zD3{b j pos}:PE X (.Constant (.bool b) j pos) (tC (.bl b)):=λ_ _ _ H _ I h=>Constant_bool ⟨.bl b,H,I,rfl,h⟩
def zP2{j pos}:PE X (.Constant .none j pos) (tC .non):=λ_ _ _ H _ I h=>Constant_none ⟨.non,H,I,rfl,h⟩
def zv3{x j pos}:PE X (.Constant (.str x) j pos) (tC (.str x)):=λ_ _ _ H _ I h=>Calls.Constant_str ⟨.str x,H,I.tok _,⟨_,rfl⟩,h⟩
def Gl(X:Cx)(x:Str):Prop:=X.env.kindOf x=some .globalImplicit
def Zo{E:Value->Shared->Prop}{pins:List (Addr × Obj)}{s:Shared}{σ:St}{H:Hp}{x:Str}{u:Value}{pos:Pos}{Q:Value->Shared->Prop}(I:Inv X pins σ H s)(hg:Gl X x)(hm:X.mg x=some u)(h:Q u s)
  (hd:(x == ("__debug__" : Str))=false:=by decide):wpAny (model X.prog X.w) X.A (eval (.Name x pos) X.env) Q E s:=
 Calls.Name_function_global I.ok.kind hg (Calls.loadGlobal_global (by rw[I.ok.glob];exact I.mod.glob.keeps I.bk) hm h) hd
def Vy{E:Value->Shared->Prop}{pins:List (Addr × Obj)}{s:Shared}{σ:St}{H:Hp}{x:Str}{u:Value}{pos:Pos}{Q:Value->Shared->Prop}(I:Inv X pins σ H s)(hg:Gl X x)(hm:X.mg x=none)(hv:bootBuiltins x=some u)(h:Q u s)
  (hn:x ≠ "__name__" := by decide) (hd:(x == ("__debug__" : Str))=false:=by decide):wpAny (model X.prog X.w) X.A (eval (.Name x pos) X.env) Q E s:=by
 obtain⟨mb,h1,h2⟩:=I.mod.blt
 exact Calls.Name_function_global I.ok.kind hg (Calls.loadGlobal_builtin (by rw[I.ok.glob];exact I.mod.glob.keeps I.bk) hm (by rw[I.ok.blt];exact h1.keeps I.bk) ((h2 x hn).trans hv) h) hd
def zD2{x:Str}{v:V}{u:Value}{pos:Pos}(hg:Gl X x)(hm:X.mg x=none)(hv:bootBuiltins x=some u)(r:RelV v u)(hn:x ≠ "__name__" := by decide)(hd:(x == ("__debug__" : Str))=false:=by decide):PE X (.Name x pos) (tC v):=
 λ_ _ _ H _ I h=>Vy I hg hm hv ⟨v,H,I,r,h⟩ hn hd
variable {a b:Expr}{ta tb:TE}{pos:Pos}
def tB(t:TE):TT:=λσ H Q=>t σ H λx H1=>∃c,x=.bl c/\Q c H1
def zO1{e:Expr}{t:TE}(h:PE X e t)(he:∀whole,isTrue e X.env whole=(do let v <- whole;standAt e.pos;holding [v] (truthy v)):=by intro _;rfl):PT X e (tB t):=by
 intro pins s σ H Q I hw;refine isTrue_plain (thn (h pins s σ H _ I hw) λv s1 ⟨x,H1,I1,r1,q1⟩=>?_) (he _);obtain⟨d,rfl,q⟩:=q1;cases r1;exact yz ⟨H1,I1,q⟩
variable {tA tB':TT}{rest:List Expr}
def tOr(t u:TT):TT:=λσ H Q=>t σ H λc H1=>if c=true then Q true H1 else u σ H1 Q
def xo5(t:TT):TT:=λσ H Q=>t σ H λc H1=>Q (!c) H1
def zN9(ha:PT X a tA):PW X (.BoolOp .Or [a] pos) tA:=by
 intro wh pins s σ H Q I h;refine isTrue_or (thn (ha pins s σ H Q I h) λc s1 e=>?_)
 cases c with
 |false=>exact isTrue_or_nil e
 |true=>exact e
def xg2(ha:PT X a tA)(hb:PW X (.BoolOp .Or (b::rest) pos) tB'):PW X (.BoolOp .Or (a::b::rest) pos) (tOr tA tB'):=by
 intro wh pins s σ H Q I h;refine isTrue_or (thn (ha pins s σ H _ I h) λc s1 ⟨H1,I1,q1⟩=>?_)
 cases c with
 |true=>exact⟨H1,I1,q1⟩
 |false=>exact hb wh pins s1 σ H1 Q I1 q1
def zO2(ha:PT X a tA):PT X (.UnaryOp .Not a pos) (xo5 tA):=by
 intro pins s σ H Q I h;exact isTrue_not (ha pins s σ H (λc H1=>Q (!c) H1) I h)
def zZ5(ta tb:TE):TE:=λσ H Q=>ta σ H λx H1=>∃c,x=.bl c/\if c=true then tb σ H1 Q else Q (.bl false) H1
def zP1{op}{t:TE}(h:PE X a t):PE X (.BoolOp op [a] pos) t:=λpins s σ H Q I hw=>BoolOp_one (h pins s σ H Q I hw)
def zP9(ha:PE X a ta)(hb:PE X (.BoolOp .And (b::rest) pos) tb):PE X (.BoolOp .And (a::b::rest) pos) (zZ5 ta tb):=by
 intro pins s σ H Q I h;refine BoolOp_and (thn (ha pins s σ H _ I h) λv s1 ⟨x,H1,I1,r1,q1⟩=>?_);obtain⟨c,rfl,q1⟩:=q1;cases r1;refine yz ?_
 cases c with
 |true=>exact hb pins s1 σ H1 Q I1 q1
 |false=>exact⟨.bl false,H1,I1,rfl,q1⟩
end
def SqL(K:W.Frag)(H:Hp)(a:Addr)(xs:List V):Prop:=
 Rd H a (.lst xs) \/
  ∃(o:Obj) (its:Array Value) (n:Nat),K.lookup a=some o/\o.cls=.type "list" /\ o.dict=none/\o.data=.seq its n/\its.size<=sizeLine/\Vals xs its.toList
def SqT(K:W.Frag)(H:Hp)(a:Addr)(xs:List V):Prop:=
 Rd H a (.tup xs) \/
  ∃(o:Obj) (its:Array Value) (n:Nat),K.lookup a=some o/\o.cls=.type "tuple" /\ o.data=.seq its n/\its.size<=sizeLine/\Vals xs its.toList
def xu1:Value->Option V
 |.none=>some .non
 |.bool b=>some (.bl b)
 |.int i _=>some (.int i)
 |.str x _=>some (.str x)
 |.bytes b _=>some (.byt b)
 |.float b _=>some (.flt b)
 |.ref a=>some (.ref a)
 |.type n=>some (.ty n)
 |_=>none
def RelV.abs{x:V}{u:Value}(r:RelV x u):xu1 u=some x:=by
 cases x with
 |non=>cases r;rfl
 |bl _=>cases r;rfl
 |int _=>obtain⟨t,rfl⟩:=r;rfl
 |str _=>obtain⟨t,rfl⟩:=r;rfl
 |byt _=>obtain⟨t,rfl⟩:=r;rfl
 |flt _=>obtain⟨t,rfl⟩:=r;rfl
 |ref _=>cases r;rfl
 |ty _=>cases r;rfl
def RelV.inj{x y:V}{u:Value}(r:RelV x u)(q:RelV y u):x=y:=zy (r.abs.symm.trans q.abs)
theorem Vals.inj:∀{xs ys:List V}{us:List Value},Vals xs us->Vals ys us->xs=ys
 |_,_,_,.nil,.nil=>rfl
 |_,_,_,.cons r t,.cons r' t'=>by rw[r.inj r',Vals.inj t t']
section
variable {X:Cx}{pins:List (Addr × Obj)}{σ:St}{H:Hp}{s:Shared}{a:Addr}{xs ys:List V}
def SqL.of{K:W.Frag}(h:H a=some (.lst xs)):SqL K H a xs:=.inl (.inl h)
def Inv.list(I:Inv X pins σ H s)(h:SqL X.K H a xs):∃its:List Value,Vals xs its/\PlainL s.heap a its.toArray/\xs.length<=sizeLine:=by
 rcases h with h |⟨o,its,n,hk,hc,hd,hs,hz,r⟩
 ·obtain⟨z,its,n,r,e⟩:=h.ok I.hok;exact⟨its,r,⟨_,n,e,rfl,rfl,rfl⟩,z⟩
 ·refine ⟨its.toList, r, ⟨o, n, I.kIn a o hk, hc, hd, by simpa using hs⟩, ?_⟩
  have e:=r.length;simp only[zf] at e;lia
def Inv.tuple(I:Inv X pins σ H s)(h:SqT X.K H a xs):∃its:List Value,Vals xs its/\IsTup s.heap a its.toArray/\xs.length<=sizeLine:=by
 rcases h with h |⟨o,its,n,hk,hc,hs,hz,r⟩
 ·obtain⟨z,its,r,p⟩:=h.ok I.hok;exact⟨its,r,p,z⟩
 ·refine ⟨its.toList, r, ⟨o, I.kIn a o hk, hc, n, by simpa using hs⟩, ?_⟩
  have e:=r.length;simp only[zf] at e;lia
def Inv.list_inj(I:Inv X pins σ H s)(h:SqL X.K H a xs)(h':SqL X.K H a ys):xs=ys:=by
 obtain⟨its,r,⟨o,n,e,_,_,d⟩,_⟩:=I.list h;obtain⟨its',r',⟨o',n',e',_,_,d'⟩,_⟩:=I.list h';rw[e] at e';cases e';rw[d] at d';injection d' with d1 _
 have:its=its':=by simpa using congrArg Array.toList d1
 subst this;exact r.inj r'
def Inv.tuple_inj(I:Inv X pins σ H s)(h:SqT X.K H a xs)(h':SqT X.K H a ys):xs=ys:=by
 obtain⟨its,r,⟨o,e,_,n,d⟩,_⟩:=I.tuple h;obtain⟨its',r',⟨o',e',_,n',d'⟩,_⟩:=I.tuple h';rw[e] at e';cases e';rw[d] at d';injection d' with d1 _
 have:its=its':=by simpa using congrArg Array.toList d1
 subst this;exact r.inj r'
end
abbrev Cx.wish(X:Cx)(E:Value->Shared->Prop):Cx:={ X with xe:=E }
abbrev Cx.nox(X:Cx):Cx:=X.wish λ_ _=>False
def Cx.Ok.wish{X:Cx}(ok:X.Ok)(E:Value->Shared->Prop):(X.wish E).Ok:=
 ⟨ok.mod,ok.kind,ok.glob,ok.blt,ok.above,ok.inj,ok.has,ok.cab,ok.hd,ok.frames,ok.stk,ok.exf,ok.bs,ok.bsz,ok.noex,ok.exfs,ok.funs,ok.frf⟩
def Cx.Ok.unwish{X:Cx}{E:Value->Shared->Prop}(ok:(X.wish E).Ok):X.Ok:=
 ⟨ok.mod,ok.kind,ok.glob,ok.blt,ok.above,ok.inj,ok.has,ok.cab,ok.hd,ok.frames,ok.stk,ok.exf,ok.bs,ok.bsz,ok.noex,ok.exfs,ok.funs,ok.frf⟩
section
variable {X:Cx}{pins:List (Addr × Obj)}{σ:St}{H:Hp}{s:Shared}{E:Value->Shared->Prop}
def Inv.wish(I:Inv X pins σ H s)(E:Value->Shared->Prop):Inv (X.wish E) pins σ H s:=⟨I.ok.wish E,I.os,I.bare,I.base,I.loc,I.cell,I.free,I.freeC,I.pin,I.hok,I.len⟩
def Inv.unwish(I:Inv (X.wish E) pins σ H s):Inv X pins σ H s:=⟨I.ok.unwish,I.os,I.bare,I.base,I.loc,I.cell,I.free,I.freeC,I.pin,I.hok,I.len⟩
def SP.unwish{D:Ends}{f:Flow}{s':Shared}(h:SP (X.wish E) pins D f s'):SP X pins D f s':=by
 cases f with
 |next=>obtain⟨σ',H',I,q⟩:=h;exact⟨σ',H',I.unwish,q⟩
 |brk=>obtain⟨σ',H',I,q⟩:=h;exact⟨σ',H',I.unwish,q⟩
 |cont=>obtain⟨σ',H',I,q⟩:=h;exact⟨σ',H',I.unwish,q⟩
 |ret u=>obtain⟨v,σ',H',I,r,q⟩:=h;exact⟨v,σ',H',I.unwish,r,q⟩
def PSs.nox{st:List Stmt}{t:TS}(h:PSs X.nox st t):PSs X st t:=λpins s σ H D I hw=>
 xT (h pins s σ H D (I.wish _) hw) (λ_ _ q=>q.unwish) λ_ _ z=>False.elim z
end
section
variable {X:Cx}{st:Stmt}{rest:List Stmt}{t u:TS}{e:Expr}{te:TE}{pos:Pos}
def zY9:TS:=λD σ H=>D.nx σ H
def xo2(t u:TS):TS:=λD σ H=>t { D with nx:=u D } σ H
def zB5:PSs X [] zY9:=λ_ _ σ H _ I h=>yt ⟨σ,H,I,h⟩
def KB(h1:PS X st t)(h2:PSs X rest u):PSs X (st::rest) (xo2 t u):=by
 intro pins s σ H D I h;refine wpAny_execs_cons (thn (h1 pins s σ H { D with nx:=u D } I h) λf s1 q=>?_)
 cases f with
 |next=>
  obtain⟨σ',H',I',q⟩:=q;exact h2 pins s1 σ' H' D I' q
 |ret v=>exact q
 |brk=>exact q
 |cont=>exact q
def zB4(h1:PS X st t):PSs X [st] t:=by
 intro pins s σ H D I h;refine wpAny_execs_cons (thn (h1 pins s σ H D I h) λf s1 q=>?_)
 cases f with
 |next=>exact yt q
 |ret v=>exact q
 |brk=>exact q
 |cont=>exact q
def Inv.quiet{pins:List (Addr × Obj)}{σ:St}{H:Hp}{s:Shared}(I:Inv X pins σ H s):interactive X.env=false:=by simp[interactive,I.ok.kind]
def zZ1(te:TE):TS:=λD σ H=>te σ H λ_ H1=>D.nx σ H1
def zB9(he:PE X e te)(hs:swapsWith e none pos.line X.env=pure false:=by rfl):PS X (.Expr e pos) (zZ1 te):=by
 intro pins s σ H D I h;exact wpAny_Expr_any (thn (he pins s σ H _ I h) λv s1 ⟨x,H1,I1,r1,q1⟩=>⟨σ,H1,I1,q1⟩) I.quiet hs
def xo3(te:TE):TS:=λD σ H=>te σ H D.rt
def zO3(he:PE X e te):PS X (.Return (some e) pos) (xo3 te):=by
 intro pins s σ H D I h;exact wpAny_Return_some (thn (he pins s σ H _ I h) λv s1 ⟨x,H1,I1,r1,q1⟩=>⟨x,σ,H1,I1,r1,q1⟩)
def xo7(c:TT)(t u:TS):TS:=λD σ H=>c σ H λb H1=>if b=true then t D σ H1 else u D σ H1
def xg4{c:Expr}{a b:List Stmt}{tc:TT}(hc:PT X c tc)(ha:PSs X a t)(hb:PSs X b u):PS X (.If c a b pos) (xo7 tc t u):=by
 intro pins s σ H D I h;refine wpAny_If (thn (hc pins s σ H _ I h) λd s1 ⟨H1,I1,q1⟩=>?_)
 cases d with
 |true=>exact ha pins s1 σ H1 D I1 q1
 |false=>exact hb pins s1 σ H1 D I1 q1
end
abbrev TG:=V->St->Hp->(St->Hp->Prop)->Prop
abbrev TGs:=List V->St->Hp->(St->Hp->Prop)->Prop
def PG(X:Cx)(target:Expr)(t:TG):Prop:=
 ∀(pins:List (Addr × Obj)) (s:Shared) (σ:St) (H:Hp) (v:V) (u:Value) (Q:St->Hp->Prop),Inv X pins σ H s->RelV v u->t v σ H Q ->
  wpAny (model X.prog X.w) X.A (assign target X.env u) (λ_ s'=>∃σ' H',Inv X pins σ' H' s'/\Q σ' H') X.xe s
def PGs(X:Cx)(ts:List Expr)(t:TGs):Prop:=
 ∀(pins:List (Addr × Obj)) (s:Shared) (σ:St) (H:Hp) (vs:List V) (us:List Value) (Q:St->Hp->Prop),Inv X pins σ H s->Vals vs us->t vs σ H Q ->
  wpAny (model X.prog X.w) X.A (assignInOrder ((assignEach ts X.env).map (·.2)) us) (λ_ s'=>∃σ' H',Inv X pins σ' H' s'/\Q σ' H') X.xe s
abbrev xi3:=V->V->V->Hp->(Hp->Prop)->Prop
def xn6(X:Cx)(t:xi3):Prop:=
 ∀(pins:List (Addr × Obj)) (s:Shared) (σ:St) (H:Hp) (o i v:V) (ov iv u:Value) (Q:Hp->Prop),Inv X pins σ H s->RelV o ov->RelV i iv->RelV v u->t o i v H Q ->
  wpAny (model X.prog X.w) X.A (setItem ov iv u) (λ_ s'=>∃H',Inv X pins σ H' s'/\Q H') X.xe s
abbrev TIp:=V->V->Hp->VK->Prop
def PIp(X:Cx)(op:Operator)(t:TIp):Prop:=
 ∀(pins:List (Addr × Obj)) (s:Shared) (σ:St) (H:Hp) (x y:V) (v u:Value) (Q:VK),Inv X pins σ H s->RelV x v->RelV y u->t x y H Q ->
  wpAny (model X.prog X.w) X.A (inplaceOp op v u) (EP X pins σ Q) X.xe s
section
variable {X:Cx}{pos:Pos}
def zr7(i:Nat):TG:=λv σ H Q=>Q (σ.set i (some v)) H
def zC9{i:Nat}{x:Str}(hN:X.N.Nodup)(hi:X.N[i]?=some x)(hx:Loc X.env.scope x)(hf:X.fn x=true\/X.env.scope.names.lookup x=some .local:=by first |exact .inl rfl |exact .inr rfl |assumption):PG X (.Name x pos) (zr7 i):=by
 intro pins s σ H v u Q I r h;exact wpAny_assign_Name (qf I hN hi hx r (λs' I'=>⟨_,H,I',h⟩) hf)
def xt3:TGs:=λvs σ H Q=>vs=[]/\Q σ H
def xh7(t:TG)(u:TGs):TGs:=λvs σ H Q=>∃v r,vs=v::r/\t v σ H λσ' H'=>u r σ' H' Q
def zC8:PGs X [] xt3:=by
 intro pins s σ H vs us Q I r h;obtain⟨e,h⟩:=h;subst e;cases r;exact assignInOrder_nil ⟨σ,H,I,h⟩
def zn8{e:Expr}{es:List Expr}{t:TG}{u:TGs}(h1:PG X e t)(h2:PGs X es u)
  (hs:(assignEach (e::es) X.env).map (·.2)=assign e X.env::(assignEach es X.env).map (·.2):=by rfl):PGs X (e::es) (xh7 t u):=by
 intro pins s σ H vs us Q I r h;obtain⟨v,vr,e1,h⟩:=h;subst e1
 cases r with
 |cons r rr=>
  rw[hs];refine assignInOrder_cons (thn (h1 pins s σ H _ _ _ I r h) λ_ s1 ⟨σ1,H1,I1,q1⟩=>?_);exact h2 pins s1 σ1 H1 _ _ Q I1 rr q1
def xt1(K:W.Frag)(n:Nat)(t:TGs):TG:=λv σ H Q=>∃a xs,v=.ref a/\SqT K H a xs/\xs.length=n/\t xs σ H Q
def zO8{es:List Expr}{k:Nat}{t:TGs}{n:Nat}(hc:X.calm=true)(h:PGs X es t)
  (hn:(assignEach es X.env).length=n:=by rfl) (hst:(assignEach es X.env).findIdx? (·.1)=none:=by rfl):PG X (.Tuple es k pos) (xt1 X.K n t):=by
 intro pins s σ H v u Q I r hw;obtain⟨a,xs,e1,hq,hl,hw⟩:=hw;subst e1;cases r;obtain⟨its,rv,ht,hz⟩:=I.tuple hq
 refine assign_Tuple_tuple (I.ok.hd hc) ht (by simp[hn,<- hl,rv.length]) hst λh' hx=>?_
 have I1:Inv X pins σ H { s with heap:=h' }:=I.kept (t':=s.toks) λb o e=>hx b o (zU (zw e)) e
 exact h pins _ σ H xs _ Q I1 (by simpa using rv) hw
def xt2(to ti:TE)(t:xi3):TG:=λv σ H Q=>to σ H λo H1=>ti σ H1 λi H2=>t o i v H2 λH3=>Q σ H3
def zO9{o i:Expr}{to ti:TE}{t:xi3}(ho:PE X o to)(hi:PE X i ti)(hs:xn6 X t)
  (ha : ∀ v, assign (.Subscript o i pos) X.env v = (do
   let ov <- holding [v] (eval o X.env)
   let iv <- holding [v,ov] (eval i X.env)
   standAt pos
   holding [v,ov,iv] (setItem ov iv v)
   release [v,ov,iv] []):=by intro _;rfl):PG X (.Subscript o i pos) (xt2 to ti t):=by
 intro pins s σ H v u Q I r h;rw[ha];refine zb (wm (thn (ho pins s σ H _ I h) λov s1 ⟨x,H1,I1,r1,q1⟩=>?_));refine zb (wm (thn (hi pins s1 σ H1 _ I1 q1) λiv s2 ⟨y,H2,I2,r2,q2⟩=>?_));refine zb (wl (zb (wm (thn (hs pins s2 σ H2 x y v ov iv u _ I2 r1 r2 r q2) λ_ s3 ⟨H3,I3,q3⟩=>?_))));exact wpAny_release ⟨σ,H3,I3,q3⟩
def zZ4(te:TE)(g:TG):TS:=λD σ H=>te σ H λx H1=>g x σ H1 D.nx
def zv2{tg e:Expr}{te:TE}{g:TG}(he:PE X e te)(hg:PG X tg g)(hs:swapsWithSole [tg] e pos.line X.env=pure false:=by rfl)(hw:swappedStores [tg] e X.env=pure none:=by rfl)
  (h1:(assignEach [tg] X.env).map (·.2)=[assign tg X.env]:=by rfl):PS X (.Assign [tg] e pos) (zZ4 te g):=by
 intro pins s σ H D I h;refine wpAny_Assign_stores (thn (he pins s σ H _ I h) λv s1 ⟨x,H1,I1,r1,q1⟩=>?_) hs hw;rw[h1];exact thn (hg pins s1 σ H1 x v _ I1 r1 q1) λ_ s2 q=>q
def zv1{i:Nat}{x:Str}{e:Expr}{te:TE}{pos':Pos}(hN:X.N.Nodup)(hi:X.N[i]?=some x)(hx:Loc X.env.scope x)(he:PE X e te)(hs:swapsWith e (some (.Name x pos')) pos.line X.env=pure false:=by rfl)(hf:X.fn x=true\/X.env.scope.names.lookup x=some .local:=by first |exact .inl rfl |exact .inr rfl |assumption) :
  PS X (.Assign [.Name x pos'] e pos) (zZ4 te (zr7 i)):=by
 intro pins s σ H D I h;refine wpAny_Assign_Name (thn (he pins s σ H _ I h) λv s1 ⟨y,H1,I1,r1,q1⟩=>?_) hs;exact qf I1 hN hi hx r1 (λs2 I2=>⟨_,H1,I2,q1⟩) hf
def xo4(i j:Nat)(ta:TA):TS:=λD σ H=>ta σ H λvs H1=>∃v w,vs=[v,w]/\D.nx ((σ.set i (some v)).set j (some w)) H1
def zO4{i j:Nat}{x y:Str}{a b:Expr}{ta:TA}{px py pt:Pos}{kt k2 pt2}(hc:X.calm=true)(hN:X.N.Nodup)(hi:X.N[i]?=some x)(hj:X.N[j]?=some y)(hij:i≠j)
  (hx:X.env.scope.names.lookup x=some .local) (hy:X.env.scope.names.lookup y=some .local) (ha:PA X [a,b] ta)
  (hw:swappedStores [.Tuple [.Name x px,.Name y py] kt pt] (.Tuple [a,b] k2 pt2) X.env=pure (some [x,y]))
  (hs:swapsWithSole [.Tuple [.Name x px,.Name y py] kt pt] (.Tuple [a,b] k2 pt2) pos.line X.env=pure false:=by rfl) :
  PS X (.Assign [.Tuple [.Name x px,.Name y py] kt pt] (.Tuple [a,b] k2 pt2) pos) (xo4 i j ta):=by
 intro pins s σ H D I h;rw[exec_Assign_arm];refine zb (wl ?_);rw[hs];refine zb (zg ?_)
 rw[if_neg q9]
 refine zb (Tuple_ (thn (ha _ pins s σ H _ I h) λus s1 ⟨vs,H1,I1,r1,q1⟩=>?_));obtain⟨v,w,e1,q1⟩:=q1;subst e1
 obtain⟨u1,u2,rfl,rv,rw'⟩:∃u1 u2,us=[u1,u2]/\RelV v u1/\RelV w u2:=by
  cases r1 with
  | cons p q =>
   cases q with
   |cons p' q'=>
    cases q';exact⟨_,_,rfl,p,p'⟩
 refine wa ?_ (by show 2<=sizeLine;decide)
 have I2:Inv X pins σ H1 { s1 with heap:=s1.heap.push { cls:=.type "tuple",data:=.seq [u1,u2].toArray } }:=I1.kept (t':=s1.toks) λb o e=>zh _ e;rw[hw];refine zb (zg ?_)
 show wpAny (model X.prog X.w) X.A (do rule "assign.swapped-stores";let items <- unpackItems (.ref s1.heap.objs.size) 2 none;assignInOrder [λv=>bindName X.env y v,λv=>bindName X.env x v] items.reverse;pure Flow.next) _ _ _
 refine zb (yi (zb (unpackItems_tuple (items:=#[u1,u2]) (I.ok.hd hc) (IsTup.new s1.heap _) λh' hx'=>?_)));have I3:=I2.kept (h':=h') (t':=s1.toks) λb o e=>hx' b o (zU (zw e)) e;show wpAny _ _ (assignInOrder [λv=>bindName X.env y v,λv=>bindName X.env x v] [u2,u1] >>= λ_=>pure Flow.next) _ _ _;refine zb (assignInOrder_cons (wpAny_bindName (qf I3 hN hj (.inl hy) rw' (λs2 I4=>?_) (.inr hy))));refine assignInOrder_cons (wpAny_bindName (qf I4 hN hi (.inl hx) rv (λs3 I5=>assignInOrder_nil (zg ?_)) (.inr hx)));rw[List.set_comm _ _ (Ne.symm hij)] at I5;exact⟨_,H1,I5,q1⟩
def xp1(i:Nat)(te:TE)(ti:TIp):TS:=λD σ H=>∃x,σ[i]?=some (some x)/\te σ H λy H1=>ti x y H1 λz H2=>D.nx (σ.set i (some z)) H2
def zO7{i:Nat}{x:Str}{e:Expr}{te:TE}{op:Operator}{ti:TIp}{pos':Pos}(hN:X.N.Nodup)(hi:X.N[i]?=some x)(hx:Loc X.env.scope x)(he:PE X e te)(ho:PIp X op ti)(hf:X.fn x=true\/X.env.scope.names.lookup x=some .local:=by first |exact .inl rfl |exact .inr rfl |assumption) :
  PS X (.AugAssign (.Name x pos') op e pos) (xp1 i te ti):=by
 intro pins s σ H D I h;obtain⟨v,e1,h⟩:=h;obtain⟨m,hn,hl⟩:=I.loc
 have vis:Vis X.env.scope x:=by rcases hx with k |k;exact .inl k;exact .inr (.inl k)
 obtain⟨u,r,l⟩:=hl i x v hi e1 vis;refine wpAny_AugAssign_Name ?_
 have go:wpAny (model X.prog X.w) X.A (eval e X.env) (λw s₂=>wpAny (model X.prog X.w) X.A (inplaceOp op u w) (λr s₃=>wpAny (model X.prog X.w) X.A (storeName X.env x r) (λ_=>SP X pins D .next) X.xe s₃) X.xe s₂) X.xe s:=by
  refine thn (he pins s σ H _ I h) λw s1 ⟨y,H1,I1,r1,q1⟩=>?_;refine thn (ho pins s1 σ H1 v y u w _ I1 r r1 q1) λz s2 ⟨zv,H2,I2,r2,q2⟩=>?_;exact qf I2 hN hi hx r2 (λs3 I3=>⟨_,H2,I3,q2⟩) hf
 rcases l with ⟨hk,hm⟩ |⟨hk,c,hc,hcell⟩
 ·exact wpAny_loadName_local I.ok.kind hk hn hm go
 ·rcases hk with hk | hk
  ·exact wpAny_loadName_cell I.ok.kind hk hc hcell go
  ·rcases hx with k | k
   ·have:X.env.scope.names.lookup x=some .free:=hk;rw[k] at this;cases this
   ·have:X.env.scope.names.lookup x=some .free:=hk;rw[k] at this;cases this
def ipI(f:Int->Int->Int):TIp:=λx y H Q=>∃i j,x=.int i/\y=.int j/\Q (.int (f i j)) H
def zT7:PIp X .Add (ipI λi j=>i+j):=by
 intro pins s σ H x y v u Q I r1 r2 h;obtain⟨i,j,e1,e2,q⟩:=h;subst e1;subst e2;obtain⟨t,rfl⟩:=r1;obtain⟨t',rfl⟩:=r2;exact iadd_int ⟨.int _,H,I.tok _,⟨_,rfl⟩,q⟩
def zL3(c:TT)(tb:TS):TS:=λD σ H=>∃W:Nat->St->Hp->Prop,(∃m,W m σ H)/\∀m σ H,W m σ H ->
 c σ H λb H1=>if b=true then ∃N:St->Hp->Prop,(∀σ' H',N σ' H'->∃m',m'<m/\W m' σ' H')/\tb { D with nx:=N,ct:=N,bk:=D.nx } σ H1 else D.nx σ H1
def zn5{c:Expr}{body:List Stmt}{tc:TT}{tb:TS}(hp:PassesOwn (model X.prog X.w) X.A X.env X.xe)(hc:PT X c tc)(hb:PSs X body tb):PS X (.While c body [] pos) (zL3 tc tb):=by
 intro pins s σ H D I h;obtain⟨W,⟨m0,w0⟩,turn⟩:=h;refine wpAny_While (codeAny_whileLoop (λn s'=>∃σ' H',Inv X pins σ' H' s'/\W n σ' H') ?_ m0 ⟨σ,H,I,w0⟩);rintro n s1 ⟨σ1,H1,I1,w1⟩;refine wX hp (thn (hc pins s1 σ1 H1 _ I1 (turn n σ1 H1 w1)) λb s2 ⟨H2,I2,q2⟩=>?_)
 cases b with
 | true =>
  obtain⟨N,hN,q2⟩:=q2;rw[if_pos rfl];refine wX hp (thn (hb pins s2 σ1 H2 _ I2 q2) λf s3 q3=>?_)
  cases f with
  |next=>
   obtain⟨σ3,H3,I3,n3⟩:=q3;obtain⟨m',hm,w3⟩:=hN σ3 H3 n3;exact⟨m',hm,σ3,H3,I3,w3⟩
  |cont=>
   obtain⟨σ3,H3,I3,n3⟩:=q3;obtain⟨m',hm,w3⟩:=hN σ3 H3 n3;exact⟨m',hm,σ3,H3,I3,w3⟩
  |brk=>exact q3
  |ret v=>exact q3
 |false=>
  rw[if_neg zT];exact yt ⟨σ1,H2,I2,q2⟩
end
structure It where
 go:Nat->Hp->Prop
 yld:Nat->Hp->V->Hp->Prop
 stop:Nat->Hp->Prop
def FpOk(X:Cx)(pins:List (Addr × Obj))(H:Hp)(b:Addr):Prop:=
 H b=none/\b≠X.env.locals/\b ∉ X.fs/\(b∈X.ex\/X.s₀.heap.objs.size<=b)/\(∀x c,X.env.cells.lookup x=some c->c≠b)/\∀p∈X.pn++pins,p.1≠b
def Inv.fpOk{X:Cx}{pins:List (Addr × Obj)}{σ:St}{H H':Hp}{s:Shared}{b:Addr}(I:Inv X pins σ H s)(hb:s.heap.objs.size<=b)(hn:H' b=none):FpOk X pins H' b:=by
 refine⟨hn,Nat.ne_of_gt (zR I.lt hb),I.nofs hb,.inr (zF I.sz hb),λx c e z=>?_,λp hp z=>?_⟩
 ·obtain ⟨v, q⟩ := I.cell x c e
  exact absurd (zR q.lt (by rw[z];exact hb)) (wn _)
 ·exact absurd (zR (zw (I.pin p hp).1) (by rw[z];exact hb)) (wn _)
structure Turn(P:Program)(w:World)(K:W.Frag)(tg:Expr)(J:It)(fp:List Addr)(it:Addr)(tn:Nat->Heap->Prop):Prop where
 mem:it∈fp
 obj:∀i h,tn i h->∀b∈fp,∃o,h.get? b=some o/\∀v,o.data≠.cell v
 keep:∀i h h',tn i h->(∀b∈fp,∀o,h.get? b=some o->h'.get? b=some o)->tn i h'
 item:∀(X:Cx),X.prog=P->X.w=w->X.K=K->X.calm=true->∀(i:Nat) (pins:List (Addr × Obj)) (s:Shared) (σ:St) (H:Hp) (E:Value->Shared->Prop),Inv X pins σ H s->(∀b∈fp,FpOk X pins H b)->tn i s.heap->J.go i H ->
  wpAny (model P w) X.A (pyNext (.ref it)) (λr s1=>∃u,r=some u /\
   wpAny (model P w) X.A (letOwnedTupleGo tg (.ref it) u) (λ_ s2=>∃x H',Inv X pins σ H' s2/\RelV x u/\J.yld i H x H'/\tn (i+1) s2.heap/\∀b∈fp,H' b=none) E s1) E s
 done:∀(X:Cx),X.prog=P->X.w=w->X.K=K->X.calm=true->∀(i:Nat) (pins:List (Addr × Obj)) (s:Shared) (σ:St) (H:Hp) (E:Value->Shared->Prop),Inv X pins σ H s->(∀b∈fp,FpOk X pins H b)->tn i s.heap->J.stop i H ->
  wpAny (model P w) X.A (pyNext (.ref it)) (λr s1=>r=none/\Inv X pins σ H s1) E s
 self:∀(A:Around) (i:Nat) (s:Shared) (Q:Value->Shared->Prop) (E:Value->Shared->Prop),tn i s.heap->Q (.ref it) s->wpAny (model P w) A (pyIter (.ref it)) Q E s
abbrev TI:=St->Hp->(It->Hp->Prop)->Prop
def PIE(X:Cx)(pins:List (Addr × Obj))(σ:St)(tg:Expr)(R:It->Hp->Prop)(itv:Value)(s2:Shared):Prop:=
 ∃(it:Addr) (fp:List Addr) (tn:Nat->Heap->Prop) (J:It) (H':Hp),itv=.ref it/\Inv X pins σ H' s2/\Turn X.prog X.w X.K tg J fp it tn/\tn 0 s2.heap/\(∀b∈fp,FpOk X pins H' b)/\R J H'
def PI(X:Cx)(tg iter:Expr)(wi:TI):Prop:=
 ∀(pins:List (Addr × Obj)) (s:Shared) (σ:St) (H:Hp) (R:It->Hp->Prop),Inv X pins σ H s->wi σ H R ->
  wpAny (model X.prog X.w) X.A (eval iter X.env) (λv s1=>wpAny (model X.prog X.w) X.A (pyIter v) (PIE X pins σ tg R) X.xe s1) X.xe s
def zH0{M:Model}{A:Around}{E:Value->Shared->Prop}{s:Shared}{tg:Expr}{it:Addr}{u:Value}{o:Obj}{n:String}{vs:Array Value}{Q:Unit->Shared->Prop}(ho:s.heap.get? it=some o)(hc:o.cls=.type n)(hd:o.data=.fields vs)
    (hn:["enumerate","zip","dict_itemiterator","dict_reverseitemiterator","odict_iterator","itertools.zip_longest","itertools.pairwise"].contains n=false) (hQ:Q () s):wpAny M A (letOwnedTupleGo tg (.ref it) u) Q E s:=by
  unfold letOwnedTupleGo
  cases tg <;> first
    |exact zg hQ
    |(cases u<;>first
        |exact zg hQ
        | (refine zb (wpAny_load ho ?_)
           rw[hc,hd]
           show wpAny M A (if (["enumerate","zip","dict_itemiterator","dict_reverseitemiterator","odict_iterator","itertools.zip_longest","itertools.pairwise"].contains n&&vs[0]? == some (rawInt _))=true then _ else _) Q E s
           rw[if_neg (by intro h;rw[hn,Bool.false_and] at h;cases h)]
           exact zg hQ))
def Itl(K:W.Frag)(a:Addr):It:=
 ⟨λi H=>∃xs x,SqL K H a xs/\xs[i]?=some x,λi H x H'=>H'=H/\∀xs,SqL K H a xs->xs[i]?=some x,λi H=>∃xs,SqL K H a xs/\xs.length<=i⟩
def Itt(K:W.Frag)(a:Addr):It:=
 ⟨λi H=>∃xs x,SqT K H a xs/\xs[i]?=some x,λi H x H'=>H'=H/\∀xs,SqT K H a xs->xs[i]?=some x,λi H=>∃xs,SqT K H a xs/\xs.length<=i⟩
def Itr(lo:Int)(n:Nat):It:=⟨λi _=>i<n,λi H x H'=>H'=H/\x=.int (lo+i),λi _=>n<=i⟩
def Qz{P:Program}{w:World}{K:W.Frag}{tg:Expr}(a it:Addr):Turn P w K tg (Itl K a) [it] it (λi h=>h.IsListIter it a i) where
 mem:=by simp
 obj:=λi h st b hb=>by
  have e:b=it:=by simpa using hb
  subst e;obtain⟨o,e,c,d⟩:=st
  exact⟨o,e,λv z=>by rw[d] at z;cases z⟩
 keep:=λi h h' st k=>st.at λo e=>k it (by simp) o e
 item:=by
  intro X hP hw hK hc i pins s σ H E I hf st hg;subst hP hw hK;obtain⟨xs,x,hq,hx⟩:=hg;obtain⟨its,rv,p,hz⟩:=I.list hq;obtain⟨u,hu,ru⟩:=rv.get hx
  obtain⟨f0,f1,f2,f3,f4,f5⟩:=hf it (by simp)
  refine wpAny_pyNext_list_item st p.isList (x:=u) (by simpa using hu) λh' st' sb=>?_
  have I1:Inv X pins σ H { s with heap:=h' }:=I.turned (t':=s.toks) (λb o hb e=>(sb.2 b hb).trans e) f0 f1 f3 f4 f5;obtain⟨o,e,c,d⟩:=id st'
  exact⟨u,rfl,zH0 (s:={ s with heap:=h' }) e c d q9 ⟨x,H,I1,ru,⟨rfl,λys hy=>by rw[I.list_inj hy hq];exact hx⟩,st',λb hb=>(hf b hb).1⟩⟩
 done:=by
  intro X hP hw hK hc i pins s σ H E I hf st hg;subst hP hw hK;obtain⟨xs,hq,hx⟩:=hg;obtain⟨its,rv,p,hz⟩:=I.list hq
  obtain⟨f0,f1,f2,f3,f4,f5⟩:=hf it (by simp)
  have hl:=rv.length
  exact wpAny_pyNext_list_end (I.ok.hd hc) st p.isList (by simp;lia) λh' eb=>⟨rfl,I.turned (t':=s.toks) (λb o hb e=>eb b o hb e) f0 f1 f3 f4 f5⟩
 self:=λ_ _ _ _ _ st h=>wpAny_pyIter_listiter st h
def Ju{P:Program}{w:World}{K:W.Frag}{tg:Expr}(a it:Addr):Turn P w K tg (Itt K a) [it] it (λi h=>h.IsTupleIter it a i) where
 mem:=by simp
 obj:=λi h st b hb=>by
  have e:b=it:=by simpa using hb
  subst e;obtain⟨o,e,c,d⟩:=st
  exact⟨o,e,λv z=>by rw[d] at z;cases z⟩
 keep:=λi h h' st k=>st.at λo e=>k it (by simp) o e
 item:=by
  intro X hP hw hK hc i pins s σ H E I hf st hg;subst hP hw hK;obtain⟨xs,x,hq,hx⟩:=hg;obtain⟨its,rv,p,hz⟩:=I.tuple hq;obtain⟨u,hu,ru⟩:=rv.get hx
  obtain⟨f0,f1,f2,f3,f4,f5⟩:=hf it (by simp)
  refine wpAny_pyNext_tuple_item st (show s.heap.IsTuple a its.toArray from p) (x:=u) (by simpa using hu) λh' st' sb=>?_
  have I1:Inv X pins σ H { s with heap:=h' }:=I.turned (t':=s.toks) (λb o hb e=>(sb.2 b hb).trans e) f0 f1 f3 f4 f5;obtain⟨o,e,c,d⟩:=id st'
  exact⟨u,rfl,zH0 (s:={ s with heap:=h' }) e c d q9 ⟨x,H,I1,ru,⟨rfl,λys hy=>by rw[I.tuple_inj hy hq];exact hx⟩,st',λb hb=>(hf b hb).1⟩⟩
 done:=by
  intro X hP hw hK hc i pins s σ H E I hf st hg;subst hP hw hK;obtain⟨xs,hq,hx⟩:=hg;obtain⟨its,rv,p,hz⟩:=I.tuple hq
  obtain⟨f0,f1,f2,f3,f4,f5⟩:=hf it (by simp)
  have hl:=rv.length
  exact wpAny_pyNext_tuple_end (I.ok.hd hc) st (show s.heap.IsTuple a its.toArray from p) (by simp;lia) λh' eb=>⟨rfl,I.turned (t':=s.toks) (λb o hb e=>eb b o hb e) f0 f1 f3 f4 f5⟩
 self:=λ_ _ _ _ _ st h=>wpAny_pyIter_tupleiter st h
def Jv{P:Program}{w:World}{K:PySem.W.Frag}{tg:Expr}(it:Addr)(lo:Int)(n:Nat):Turn P w K tg (Itr lo n) [it] it (λi h=>IsRangeIter h it (lo+(i:Nat)*1) ((n:Int)-(i:Nat)) 1) where
 mem:=by simp
 obj:=λi h st b hb=>by
  have e:b=it:=by simpa using hb
  subst e
  exact⟨_,st,λv z=>by
   have z':Data.fields _=Data.cell v:=z
   cases z'⟩
 keep:=λi h h' st k=>k it (by simp) _ st
 item:=by
  intro X hP hw hK hc i pins s σ H E I hf st hg;subst hP hw hK
  obtain⟨f0,f1,f2,f3,f4,f5⟩:=hf it (by simp)
  have W:=Walks.range (prog:=X.prog) (w:=X.w) (I.ok.hd hc) it lo 1 n;refine W.item i s _ _ hg st λv h' tk hv st' kk=>?_;obtain⟨t,rfl⟩:=hv
  have I1:Inv X pins σ H { s with heap:=h',toks:=tk }:=I.turned (λb o hb e=>kk b o (by simpa using hb) e) f0 f1 f3 f4 f5
  refine⟨_,rfl,zH0 (s:={ s with heap:=h',toks:=tk }) (n := "range_iterator") st' rfl rfl q9 ⟨.int (lo+i),H,I1,⟨t,?_⟩,⟨rfl,rfl⟩,st',λb hb=>(hf b hb).1⟩⟩
  rw[Int.mul_one]
 done:=by
  intro X hP hw hK hc i pins s σ H E I hf st hg;subst hP hw hK
  obtain⟨f0,f1,f2,f3,f4,f5⟩:=hf it (by simp)
  exact wpAny_pyNext_range_end (I.ok.hd hc) st (by have:n<=i:=hg;lia) λh' eb=>⟨rfl,I.turned (t':=s.toks) (λb o hb e=>eb b o hb e) f0 f1 f3 f4 f5⟩
 self:=λ_ _ _ _ _ st h=>wpAny_pyIter_rangeiter st h
section
variable {X:Cx}{tg:Expr}
def zm8{pins:List (Addr × Obj)}{σ:St}{H:Hp}{s:Shared}{R:It->Hp->Prop}{E:Value->Shared->Prop}{lo hi:Int}{t u v:Tok}{tk:Nat}(I:Inv X pins σ H s)(h1:-(2^62)<=lo)(h2:lo<2^62)(h3:-(2^62)<=hi)(h4:hi<2^62)
  (q:R (Itr lo (hi-lo).toNat) H):wpAny (model X.prog X.w) X.A (pyIter (.ref s.heap.objs.size)) (PIE X pins σ tg R) E { s with heap:=s.heap.push { cls:=.type "range",data:=.fields #[.int lo t,.int hi u,.int 1 v] },toks:=tk }:=by
 refine wpAny_pyIter_range (IsRange.new ..) (small_one h1 h2 h3 h4) ?_;have I1:Inv X pins σ H { s with heap:=s.heap.push { cls:=.type "range",data:=.fields #[.int lo t,.int hi u,.int 1 v] },toks:=tk }:=I.kept λb o e=>zh _ e
 refine⟨(s.heap.push { cls:=.type "range",data:=.fields #[.int lo t,.int hi u,.int 1 v] }).objs.size,[(s.heap.push { cls:=.type "range",data:=.fields #[.int lo t,.int hi u,.int 1 v] }).objs.size],_,_,H,rfl,
  I1.kept (t':=tk) λb o e=>zh _ e,Jv _ lo (hi-lo).toNat,?_,λb hb=>?_,q⟩
 ·have e1 : lo + ((0 : Nat) : Int) * 1 = lo := by simp
  have e2:(((hi-lo).toNat:Nat):Int)-((0:Nat):Int)=Builtin.Range.rangeSize lo hi 1:=by rw[rangeSize_one];split<;>lia
  show IsRangeIter _ _ (lo+((0:Nat):Int)*1) ((((hi-lo).toNat:Nat):Int)-((0:Nat):Int)) 1;rw[e1,e2];exact zQ _ rfl
 ·have e : b = (s.heap.push { cls := .type "range", data := .fields #[.int lo t, .int hi u, .int 1 v] }).objs.size := by simpa using hb
  subst e;exact I1.fpOk (zj _) (I1.hok.fresh (zj _))
def xh6(ta:TA):TI:=λσ H R=>ta σ H λvs H1=>∃j:Int,vs=[.int j]/\-(2^62)<=j/\j<2^62/\R (Itr 0 j.toNat) H1
def za8{a:Expr}{ta:TA}{p pos:Pos}(hg:Gl X "range")(hm:X.mg "range" = none)(ha:PA X [a] ta)(hs:starEach [a] X.env=[(false,eval a X.env)]:=by rfl):PI X tg (.Call (.Name "range" p) [a] [] pos) (xh6 ta):=by
 intro pins s σ H R I h;refine Call_ (Vy I hg hm boot_range (PyProof.Rows.callWith_type1 (thn (ha pos pins s σ H _ I h) λus s1 ⟨vs,H1,I1,r1,q1⟩=>?_) hs rfl));obtain⟨j,e,q1,q2,q⟩:=q1;subst e
 cases r1 with
 |cons r rr=>
  cases rr;obtain⟨t,rfl⟩:=r
  exact call_range_1 (zm8 I1 q5 q5 q1 q2 (by simpa using q))
def xo8(wi:TI)(g:TG)(tb:TS):TS:=λD σ H=>wi σ H λJ H1=>∃W:Nat->Nat->St->Hp->Prop,(∃m,W 0 m σ H1)/\∀i m σ H,W i m σ H ->
 (J.stop i H/\D.nx σ H)\/(J.go i H/\∃N:St->Hp->Prop,(∀σ' H',N σ' H'->∃m',m'<m/\W (i+1) m' σ' H')/\∀x H',J.yld i H x H'->g x σ H' λσ2 H2=>tb { D with nx:=N,ct:=N,bk:=D.nx } σ2 H2)
def ZD(fp:List Addr)(h:Heap):List (Addr × Obj):=fp.filterMap λb=>(h.get? b).map λo=>(b,o)
def kf{fp:List Addr}{h:Heap}{b:Addr}{o:Obj}(hb:b∈fp)(e:h.get? b=some o):(b,o)∈ZD fp h:=List.mem_filterMap.mpr ⟨b,hb,by rw[e];rfl⟩
def YB{fp:List Addr}{h:Heap}{p:Addr × Obj}(hp:p∈ZD fp h):p.1∈fp/\h.get? p.1=some p.2:=by
 obtain⟨b,hb,e⟩:=List.mem_filterMap.mp hp
 cases q:h.get? b with
 |none=>rw[q] at e;cases e
 |some o=>
  rw[q] at e;have e':(b,o)=p:=zy e;subst e';exact⟨hb,q⟩
def Inv.pinned{pins:List (Addr × Obj)}{σ:St}{H:Hp}{s:Shared}{fp:List Addr}(I:Inv X pins σ H s)(hf:∀b∈fp,FpOk X pins H b)(ho:∀b∈fp,∃o,s.heap.get? b=some o/\∀v,o.data≠.cell v):Inv X (pins++ZD fp s.heap) σ H s:=
 I.pins_of λp hp=>(zI.mp hp).elim (λz=>I.pin p (zr _ z)) λz=>by
  obtain⟨hb,e⟩:=YB z;obtain⟨f0,f1,f2,_⟩:=hf p.1 hb;obtain⟨o,e',d⟩:=ho p.1 hb;rw[e] at e';cases e';exact⟨e,f0,f1,f2,d⟩
def Inv.unpinned{pins pl:List (Addr × Obj)}{σ:St}{H:Hp}{s:Shared}(I:Inv X (pins++pl) σ H s):Inv X pins σ H s:=I.pins_of λp hp=>I.pin p (zr _ (xR _ hp))
def zO5{iter:Expr}{body:List Stmt}{wi:TI}{g:TG}{tb:TS}{pos:Pos}(hp:PassesOwn (model X.prog X.w) X.A X.env X.xe)(hc:X.calm=true)(hi:PI X tg iter wi)(hg:PG X tg g)(hb:PSs X body tb)
  (hs:∀x,foldedSetIterable iter X.env x=pure x:=by intro _;rfl):PS X (.For tg iter body [] pos) (xo8 wi g tb):=by
 intro pins s σ H D I h;refine wpAny_For (thn (hi pins s σ H _ I h) λv s1 h1=>thn h1 λitv s2 h2=>?_) hs;obtain⟨it,fp,tn,J,H2,e,I2,T,st2,f2,W,⟨m0,w0⟩,turn⟩:=h2;subst e;have stat:∀{H':Hp},(∀b∈fp,H' b=none)->∀b∈fp,FpOk X pins H' b:=λhn b hb=>⟨hn b hb,(f2 b hb).2⟩;refine codeAny_forLoop_any (λn s'=>∃i σ' H',Inv X pins σ' H' s'/\tn i s'.heap/\(∀b∈fp,H' b=none)/\W i n σ' H') ?_ m0 ⟨0,σ,H2,I2,st2,λb hb=>(f2 b hb).1,w0⟩;rintro n s3 ⟨i,σ3,H3,I3,st3,fr3,w3⟩
 rcases turn i n σ3 H3 w3 with ⟨stop,qn⟩ |⟨go,N,hN,step⟩
 ·refine wX hp (thn (T.done X rfl rfl rfl hc i pins s3 σ3 H3 X.xe I3 (stat fr3) st3 stop) λr s4 ⟨hr,I4⟩=>?_);subst hr;exact yt ⟨σ3,H3,I4,qn⟩
 ·refine wX hp (thn (T.item X rfl rfl rfl hc i pins s3 σ3 H3 X.xe I3 (stat fr3) st3 go) λr s4 ⟨u, hr, h4⟩ => ?_);subst hr;refine wX hp (thn h4 λ_ s5 ⟨x,H5,I5,r5,y5,st5,fr5⟩=>?_);have I5':=I5.pinned (stat fr5) (T.obj _ _ st5);refine wX hp (thn (hg _ s5 σ3 H5 x u _ I5' r5 (step x H5 y5)) λ_ s6 ⟨σ6,H6,I6,q6⟩=>?_);refine wX hp (thn (hb _ s6 σ6 H6 _ I6 q6) λf s7 q7=>?_)
  have again:∀{σ7:St}{H7:Hp},Inv X (pins++ZD fp s5.heap) σ7 H7 s7->N σ7 H7->∃m,m<n/\∃i σ' H',Inv X pins σ' H' s7/\tn i s7.heap/\(∀b∈fp,H' b=none)/\W i m σ' H':=λ{σ7 H7} I7 n7=>by
   obtain⟨m',hm,w7⟩:=hN σ7 H7 n7;refine⟨m',hm,i+1,σ7,H7,I7.unpinned,T.keep _ _ _ st5 λb hb o e=>(I7.pin (b,o) (zr _ (zr _ (kf hb e)))).1,λb hb=>?_,w7⟩;obtain⟨o,e,d⟩:=T.obj _ _ st5 b hb;exact(I7.pin (b,o) (zr _ (zr _ (kf hb e)))).2.1
  cases f with
  |next=>obtain⟨σ7,H7,I7,n7⟩:=q7;exact again I7 n7
  |cont=>obtain⟨σ7,H7,I7,n7⟩:=q7;exact again I7 n7
  |brk=>obtain⟨σ7,H7,I7,q7⟩:=q7;exact⟨σ7,H7,I7.unpinned,q7⟩
  |ret v=>obtain⟨x7,σ7,H7,I7,r7,q7⟩:=q7;exact⟨x7,σ7,H7,I7.unpinned,r7,q7⟩
end
abbrev R2:=V->V->Hp->VK->Prop
def OpR(X:Cx)(f:Value->Value->Sem Value)(r:R2):Prop:=
 ∀(pins:List (Addr × Obj)) (s:Shared) (σ:St) (H:Hp) (x y:V) (v u:Value) (Q:VK),Inv X pins σ H s->RelV x v->RelV y u->r x y H Q ->
  wpAny (model X.prog X.w) X.A (f v u) (EP X pins σ Q) X.xe s
def qd(X:Cx)(f:Value)(r:List V->Hp->VK->Prop):Prop:=
 ∀(pins:List (Addr × Obj)) (s:Shared) (σ:St) (H:Hp) (xs:List V) (us:List Value) (Q:VK),Inv X pins σ H s->Vals xs us->r xs H Q ->
  wpAny (model X.prog X.w) X.A (call f us) (EP X pins σ Q) X.xe s
def tOp(r:R2)(ta tb:TE):TE:=λσ H Q=>ta σ H λx H1=>tb σ H1 λy H2=>r x y H2 Q
def rI(C:Int->Int->Prop)(g:Int->Int->V):R2:=λx y H Q=>∃i j,x=.int i/\y=.int j/\C i j/\Q (g i j) H
def rI0(g:Int->Int->V):R2:=λx y H Q=>∃i j,x=.int i/\y=.int j/\Q (g i j) H
section
variable {X:Cx}{a b c:Expr}{ta tb tc:TE}{pos:Pos}
def xi1(ha:PE X a ta)(hb:PE X b tb){pins:List (Addr × Obj)}{s:Shared}{σ:St}{H:Hp}{R:V->V->Hp->Prop}(I:Inv X pins σ H s)
  (h:ta σ H λx H1=>tb σ H1 λy H2=>R x y H2) {Q:Value->Shared->Prop}{f:Value->Value->Sem Value}
  (hf:∀v u s2 x y H2,Inv X pins σ H2 s2->RelV x v->RelV y u->R x y H2->wpAny (model X.prog X.w) X.A (f v u) Q X.xe s2) :
  wpAny (model X.prog X.w) X.A (eval a X.env) (λv s₁=>wpAny (model X.prog X.w) X.A (eval b X.env) (λu s₂=>wpAny (model X.prog X.w) X.A (f v u) Q X.xe s₂) X.xe s₁) X.xe s:=by
 refine thn (ha pins s σ H _ I h) λv s1 ⟨x,H1,I1,r1,q1⟩=>?_;refine thn (hb pins s1 σ H1 _ I1 q1) λu s2 ⟨y,H2,I2,r2,q2⟩=>?_;exact hf v u s2 x y H2 I2 r1 r2 q2
def xg5{op:Operator}{r:R2}(ho:OpR X (binaryOp op) r)(ha:PE X a ta)(hb:PE X b tb):PE X (.BinOp a op b pos) (tOp r ta tb):=by
 intro pins s σ H Q I h;exact wpAny_BinOp (xi1 ha hb I h λv u s2 x y H2 I2 rx ry q=>ho pins s2 σ H2 x y v u Q I2 rx ry q)
def opI{f:Value->Value->Sem Value}{C:Int->Int->Prop}{g:Int->Int->Int}
  (rule:∀(i j:Int) (t u:Tok) (s:Shared) (Q:Value->Shared->Prop) (E:Value->Shared->Prop),C i j->Q (.int (g i j) s.toks) { s with toks:=s.toks+1 }->wpAny (model X.prog X.w) X.A (f (.int i t) (.int j u)) Q E s) :
  OpR X f (rI C λi j=>.int (g i j)):=by
 intro pins s σ H x y v u Q I rx ry h;obtain⟨i,j,rfl,rfl,hc,q⟩:=h;obtain⟨t,rfl⟩:=rx;obtain⟨t',rfl⟩:=ry;exact rule i j t t' s _ _ hc ⟨.int (g i j),H,I.tok _,⟨_,rfl⟩,q⟩
def xm6{f:Value->Value->Sem Value}{g:Int->Int->Int}
  (rule:∀(i j:Int) (t u:Tok) (s:Shared) (Q:Value->Shared->Prop) (E:Value->Shared->Prop),Q (.int (g i j) s.toks) { s with toks:=s.toks+1 }->wpAny (model X.prog X.w) X.A (f (.int i t) (.int j u)) Q E s) :
  OpR X f (rI0 λi j=>.int (g i j)):=by
 intro pins s σ H x y v u Q I rx ry h;obtain⟨i,j,rfl,rfl,q⟩:=h;obtain⟨t,rfl⟩:=rx;obtain⟨t',rfl⟩:=ry;exact rule i j t t' s _ _ ⟨.int (g i j),H,I.tok _,⟨_,rfl⟩,q⟩
def xh0{f:Value->Value->Sem Value}{g:Int->Int->Bool}
  (rule:∀(i j:Int) (t u:Tok) (s:Shared) (Q:Value->Shared->Prop) (E:Value->Shared->Prop),Q (.bool (g i j)) s->wpAny (model X.prog X.w) X.A (f (.int i t) (.int j u)) Q E s) :
  OpR X f (rI0 λi j=>.bl (g i j)):=by
 intro pins s σ H x y v u Q I rx ry h;obtain⟨i,j,rfl,rfl,q⟩:=h;obtain⟨t,rfl⟩:=rx;obtain⟨t',rfl⟩:=ry;exact rule i j t t' s _ _ ⟨.bl (g i j),H,I,rfl,q⟩
def xn9(i j:Int):Prop:=0<j/\j<1073741824
def xn8(i j:Int):Prop:=0<=j/\j<=1000000/\i.natAbs<2^64
def CMul(i j:Int):Prop:=(-(2^64)<i/\i<2^64)\/(-(2^64)<j/\j<2^64)
def CMul.ok{i j:Int}(h:CMul i j):IntMulOk i j:=by
 rcases h with ⟨h1,h2⟩ |⟨h1,h2⟩
 ·exact .of_left (intBits_le_64 h1 h2)
 ·exact .of_right (intBits_le_64 h1 h2)
def zQ8:OpR X (binaryOp .Add) (rI0 λi j=>.int (i+j)):=xm6 λ_ _ _ _ _ _ _ q=>add_int q
def zQ3:OpR X (binaryOp .Sub) (rI0 λi j=>.int (i-j)):=xm6 λ_ _ _ _ _ _ _ q=>sub_int q
def zQ5:OpR X (binaryOp .Mult) (rI CMul λi j=>.int (i*j)):=opI λ_ _ _ _ _ _ _ hc q=>mul_int q hc.ok
def zE0:OpR X (binaryOp .FloorDiv) (rI xn9 λi j=>.int (i/j)):=opI λi j _ _ _ _ _ hc q=>by
 have h1:(0:Int)<j:=hc.1;have h2:j<1073741824:=hc.2
 exact floordiv_int q5 (by rw[Int.fdiv_eq_ediv_of_nonneg i q5];exact q) (.inl (PyProof.noPylong_small q5))
def zQ6:OpR X (binaryOp .Mod) (rI (λ_ j=>0<j) λi j=>.int (i%j)):=opI λi j _ _ _ _ _ hc q=>by
 have h1:(0:Int)<j:=hc
 exact mod_int' q5 (by rw[Int.fmod_eq_emod_of_nonneg i q5];exact q)
def zQ4:OpR X (binaryOp .Pow) (rI xn8 λi j=>.int (i^j.toNat)):=opI λ_ _ _ _ _ _ _ hc q=>pow_int_small hc.1 hc.2.1 hc.2.2 q
end
def zW0:V->V->Bool
 |.non,.non=>true |.non,.int _=>true |.int _,.non=>true |.non,.bl _=>true |.bl _,.non=>true |.non,.str _=>true |.str _,.non=>true
 |.int _,.int _=>true |.bl _,.bl _=>true |.str _,.str _=>true |.byt _,.byt _=>true
 |.int _,.str _=>true |.str _,.int _=>true |.bl _,.str _=>true |.str _,.bl _=>true
 |_,_=>false
def rEq:R2:=λx y H Q=>zW0 x y=true/\Q (.bl (decide (x=y))) H
def rNe:R2:=λx y H Q=>zW0 x y=true/\Q (.bl (!decide (x=y))) H
def zg2{i j:Int}:decide (V.int i=V.int j)=(i == j):=by
 rw[Bool.eq_iff_iff];simp
def zx0{i j:Bool}:decide (V.bl i=V.bl j)=(i == j):=by
 rw[Bool.eq_iff_iff];simp
def zg1{i j:Str}:decide (V.str i=V.str j)=(i == j):=by
 rw[Bool.eq_iff_iff];simp
def zg3{i j:Array UInt8}:decide (V.byt i=V.byt j)=(i.toList == j.toList):=by
 rw[Bool.eq_iff_iff];cases i;cases j;simp
section
variable {X:Cx}{a b c:Expr}{ta tb tc:TE}{pos:Pos}
def yJ{pins:List (Addr × Obj)}{σ:St}{H:Hp}{s:Shared}{Q:VK}{k k':Bool}(I:Inv X pins σ H s)(q:Q (.bl k) H)(e:k=k'):EP X pins σ Q (.bool k') s:=by
 subst e;exact⟨.bl k,H,I,rfl,q⟩
def zE1:OpR X (compareOp .Eq) rEq:=by
 intro pins s σ H x y v u Q I rx ry h;obtain⟨hs,q⟩:=h
 cases x with
 |non=>
  cases rx
  cases y with
  |non=>cases ry;exact PySem.EqNone.eq_none_none (yJ I q (by simp))
  |bl j=>cases ry;exact PySem.EqNone.eq_none_bool (yJ I q (by simp))
  |int j=>obtain⟨t',rfl⟩:=ry;exact PySem.EqNone.eq_none_int (yJ I q (by simp))
  |str j=>obtain⟨t',rfl⟩:=ry;exact PySem.EqNone.eq_none_str (yJ I q (by simp))
  |_=>exact absurd (show false=true from hs) zT
 |bl i=>
  cases rx
  cases y with
  |non=>cases ry;exact PySem.EqNone.eq_bool_none (yJ I q (by simp))
  |bl j=>cases ry;exact eq_bool (yJ I q zx0)
  |str j=>obtain⟨t',rfl⟩:=ry;exact PySem.EqMixed.eq_bool_str (yJ I q (by simp))
  |_=>exact absurd (show false=true from hs) zT
 |int i=>
  obtain⟨t,rfl⟩:=rx
  cases y with
  |non=>cases ry;exact PySem.EqNone.eq_int_none (yJ I q (by simp))
  |int j=>obtain⟨t',rfl⟩:=ry;exact eq_int (yJ I q zg2)
  |str j=>obtain⟨t',rfl⟩:=ry;exact PySem.EqMixed.eq_int_str (yJ I q (by simp))
  |_=>exact absurd (show false=true from hs) zT
 |str i=>
  obtain⟨t,rfl⟩:=rx
  cases y with
  |non=>cases ry;exact PySem.EqNone.eq_str_none (yJ I q (by simp))
  |bl j=>cases ry;exact PySem.EqMixed.eq_str_bool (yJ I q (by simp))
  |int j=>obtain⟨t',rfl⟩:=ry;exact PySem.EqMixed.eq_str_int (yJ I q (by simp))
  |str j=>obtain⟨t',rfl⟩:=ry;exact eq_str (yJ I q zg1)
  |_=>exact absurd (show false=true from hs) zT
 |byt i=>
  obtain⟨t,rfl⟩:=rx
  cases y with
  |byt j=>obtain⟨t',rfl⟩:=ry;exact W.eq_bytes (yJ I q zg3)
  |_=>exact absurd (show false=true from hs) zT
 |_=>cases y<;>exact absurd (show false=true from hs) zT
def xg7:OpR X (compareOp .NotEq) rNe:=by
 intro pins s σ H x y v u Q I rx ry h;obtain⟨hs,q⟩:=h
 cases x with
 |non=>
  cases rx
  cases y with
  |non=>cases ry;exact PySem.EqNone.ne_none_none (yJ I q (by simp))
  |bl j=>cases ry;exact PySem.EqNone.ne_none_bool (yJ I q (by simp))
  |int j=>obtain⟨t',rfl⟩:=ry;exact PySem.EqNone.ne_none_int (yJ I q (by simp))
  |str j=>obtain⟨t',rfl⟩:=ry;exact PySem.EqNone.ne_none_str (yJ I q (by simp))
  |_=>exact absurd (show false=true from hs) zT
 |bl i=>
  cases rx
  cases y with
  |non=>cases ry;exact PySem.EqNone.ne_bool_none (yJ I q (by simp))
  |bl j=>cases ry;exact ne_bool (yJ I q (congrArg not zx0))
  |str j=>obtain⟨t',rfl⟩:=ry;exact PySem.EqMixed.ne_bool_str (yJ I q (by simp))
  |_=>exact absurd (show false=true from hs) zT
 |int i=>
  obtain⟨t,rfl⟩:=rx
  cases y with
  |non=>cases ry;exact PySem.EqNone.ne_int_none (yJ I q (by simp))
  |int j=>obtain⟨t',rfl⟩:=ry;exact ne_int (yJ I q (congrArg not zg2))
  |str j=>obtain⟨t',rfl⟩:=ry;exact PySem.EqMixed.ne_int_str (yJ I q (by simp))
  |_=>exact absurd (show false=true from hs) zT
 |str i=>
  obtain⟨t,rfl⟩:=rx
  cases y with
  |non=>cases ry;exact PySem.EqNone.ne_str_none (yJ I q (by simp))
  |bl j=>cases ry;exact PySem.EqMixed.ne_str_bool (yJ I q (by simp))
  |int j=>obtain⟨t',rfl⟩:=ry;exact PySem.EqMixed.ne_str_int (yJ I q (by simp))
  |str j=>obtain⟨t',rfl⟩:=ry;exact ne_str (yJ I q (congrArg not zg1))
  |_=>exact absurd (show false=true from hs) zT
 |byt i=>
  obtain⟨t,rfl⟩:=rx
  cases y with
  |byt j=>obtain⟨t',rfl⟩:=ry;exact W.ne_bytes (yJ I q (congrArg not zg3))
  |_=>exact absurd (show false=true from hs) zT
 |_=>cases y<;>exact absurd (show false=true from hs) zT
def xg8:OpR X (compareOp .Lt) (rI0 λi j=>.bl (decide (i<j))):=xh0 λ_ _ _ _ _ _ _ q=>lt_int q
def zD9:OpR X (compareOp .Gt) (rI0 λi j=>.bl (decide (j<i))):=xh0 λ_ _ _ _ _ _ _ q=>gt_int q
def xg9:OpR X (compareOp .GtE) (rI0 λi j=>.bl (decide (j<=i))):=xh0 λ_ _ _ _ _ _ _ q=>ge_int q
def zQ7:OpR X (compareOp .Is) (λx y H Q=>y=.non/\Q (.bl (decide (x=.non))) H):=by
 intro pins s σ H x y v u Q I rx ry h;obtain⟨rfl,q⟩:=h;cases ry;refine is_none_gen (yJ I q ?_)
 cases x<;>first
  |(cases rx;rfl)
  |(obtain⟨t,rfl⟩:=rx;rfl)
def vV(b:Expr){op:CmpOp}(h:op≠.In:=by decide)(h2:op≠.NotIn:=by decide):behindInMarks op b=false:=by
 have e1:(op == CmpOp.In)=false:=by cases op<;>first |rfl |exact absurd rfl h
 have e2:(op == CmpOp.NotIn)=false:=by cases op<;>first |rfl |exact absurd rfl h2
 cases b<;>simp[behindInMarks,e1,e2]
def zb1{op:CmpOp}{r:R2}(ho:OpR X (compareOp op) r)(ha:PE X a ta)(hb:PE X b tb)(hm:behindInMarks op b=false):PE X (.Compare a [op] [b] pos) (tOp r ta tb):=by
 intro pins s σ H Q I h;exact wpAny_Compare1 (xi1 ha hb I h λv u s2 x y H2 I2 rx ry q=>ho pins s2 σ H2 x y v u Q I2 rx ry q) hm
def zL4(t:TE):TT:=λσ H Q=>t σ H λx H'=>∃k,x=.bl k/\Q k H'
def Us{op:CmpOp}{r:R2}(ho:OpR X (compareOp op) r)(ha:PE X a ta)(hb:PE X b tb)(hm:behindInMarks op b=false):PT X (.Compare a [op] [b] pos) (zL4 (tOp r ta tb)):=by
 intro pins s σ H Q I h
 refine wpAny_isTrue_Compare1 (thn (ha pins s σ H _ I h) λv s1 ⟨x,H1,I1,r1,q1⟩=>thn (hb pins s1 σ H1 _ I1 q1) λu s2 ⟨y,H2,I2,r2,q2⟩=>
  thn (ho pins s2 σ H2 x y v u _ I2 r1 r2 q2) λc s3 ⟨z,H3,I3,r3,k,e,q3⟩=>?_) hm
 subst e;cases r3;exact yz ⟨H3,I3,q3⟩
def Vw:(sizeLine:Nat)<2^63:=by rw[sizeLine_eq];decide
def JG:OpR X (binaryOp .Add) (λx y H Q=>∃i j,x=.str i/\y=.str j/\i.length+j.length<=sizeLine/\Q (.str (i++j)) H):=by
 intro pins s σ H x y v u Q I rx ry h;obtain⟨i,j,rfl,rfl,hz,q⟩:=h;obtain⟨t,rfl⟩:=rx;obtain⟨t',rfl⟩:=ry;exact add_str (λt' tk=>⟨.str (i++j),H,I.tok _,⟨_,rfl⟩,q⟩) hz
def jG{x:V}{us:List Value}(r:Vals [x] us):∃u,us=[u]/\RelV x u:=by
 cases r with
 |cons r1 r2=>cases r2;exact⟨_,rfl,r1⟩
def zK9{x y:V}{us:List Value}(r:Vals [x,y] us):∃u w',us=[u,w']/\RelV x u/\RelV y w':=by
 cases r with
 |cons r1 r2=>
  cases r2 with
  |cons r3 r4=>cases r4;exact⟨_,_,rfl,r1,r3⟩
def Jp:qd X (.builtin "abs") (λxs H Q=>∃i,xs=[.int i]/\Q (.int (if i<0 then -i else i)) H):=by
 intro pins s σ H xs us Q I r h;obtain⟨i,rfl,q⟩:=h;obtain⟨u,rfl,t,rfl⟩:=jG r
 exact call_abs_int λu tk=>⟨.int (if i<0 then -i else i),H,I.tok _,⟨_,rfl⟩,q⟩
def VP(hc:X.calm=true):qd X (.builtin "max") (λxs H Q=>∃i j,xs=[.int i,.int j]/\Q (.int (if j > i then j else i)) H):=by
 intro pins s σ H xs us Q I r h;obtain⟨i,j,rfl,q⟩:=h;obtain⟨u,w',rfl,⟨t,rfl⟩,⟨t',rfl⟩⟩:=zK9 r;refine max_two_ints (I.ok.hd hc) λh' tk k=>⟨_,H,I.kept k,?_,q⟩
 by_cases hj:j > i
 ·rw[if_pos hj,if_pos hj];exact⟨_,rfl⟩
 ·rw[if_neg hj,if_neg hj];exact⟨_,rfl⟩
def zi6(hc:X.calm=true):qd X (.builtin "min") (λxs H Q=>∃i j,xs=[.int i,.int j]/\Q (.int (if j<i then j else i)) H):=by
 intro pins s σ H xs us Q I r h;obtain⟨i,j,rfl,q⟩:=h;obtain⟨u,w',rfl,⟨t,rfl⟩,⟨t',rfl⟩⟩:=zK9 r;refine min_two_ints (I.ok.hd hc) λh' tk k=>⟨_,H,I.kept k,?_,q⟩
 by_cases hj:j<i
 ·rw[if_pos hj,if_pos hj];exact⟨_,rfl⟩
 ·rw[if_neg hj,if_neg hj];exact⟨_,rfl⟩
def zj2:qd X (.type "int") (λxs H Q=>(∃i,xs=[.int i]/\Q (.int i) H)\/∃k,xs=[.bl k]/\Q (.int (if k then 1 else 0)) H):=by
 intro pins s σ H xs us Q I r h
 rcases h with ⟨i,rfl,q⟩ |⟨k,rfl,q⟩
 ·obtain⟨u,rfl,t,rfl⟩:=jG r;exact call_int_int ⟨.int i,H,I,⟨_,rfl⟩,q⟩
 ·obtain ⟨u, rfl, r1⟩ := jG r;cases r1
  exact call_int_bool ⟨.int (if k then 1 else 0),H,I.tok _,⟨_,rfl⟩,q⟩
end
structure ObjM(h:Heap)(x dx C:Addr)(mA:Str->Option Value):Prop where
 obj:h.get? x=some (W.instObj C dx)
 ns:h.Ns1 dx mA
 ne:dx≠x
def zc9{h:Heap}{dx:Addr}{mA:Str->Option Value}(n:h.Ns1 dx mA):∃od,h.get? dx=some od/\∀name,W.lookIn name od=some (mA name):=by
 obtain⟨o,es,ep,ho,hd,hk,_,hm⟩:=n;refine⟨o,ho,λname=>?_⟩;have e:=hm name;unfold nsFind findBy at e;rw[<- Array.find?_toList] at e;unfold W.lookIn;rw[hd];dsimp only
 split
 ·rename_i y q;rw[q] at e;exact congrArg some e
 ·rename_i q;rw[q] at e
  have a:es.toList.any (·.refKey)=false:=by
   rw[List.any_eq_false];intro y hy;obtain⟨z,t,hkey⟩:=hk y (Array.mem_toList_iff.mp hy);simp[DictEntry.refKey,hkey]
  have a':¬ es.toList.any (·.refKey)=true:=by rw[a];exact zT
  rw[if_neg a'];exact congrArg some e
def ObjM.look{h:Heap}{x dx C:Addr}{mA:Str->Option Value}(I:ObjM h x dx C mA):∃od,W.InstAt h x (W.instObj C dx) C (some od)/\∀name,W.lookIn name od=some (mA name):=
 let ⟨od,ho,hl⟩:=zc9 I.ns
 ⟨od,⟨I.obj,rfl,rfl,ho⟩,hl⟩
section
variable {prog:Program}{w:World}{A:Around}{E:Value->Shared->Prop}{s:Shared}{K:W.Frag}{x dx C f:Addr}{mA:Str->Option Value}{name:Str}{v:Value}
def zH1{expr:Bool}{Q:Value->Shared->Prop}(X:K.In s.heap)(I:ObjM s.heap x dx C mA)(hg:W.plainGet K C name=true)(hh:W.hasDictIn K C=true)
  (ha:W.findIn K (.ref C) name=some none) (hv:mA name=some v) (hv':W.handedIn v=true) (h:Q v { s with toks:=s.toks+1 }) :
  wpAny (model prog w) A (getAttr (.ref x) name expr) Q E s:=by
 obtain⟨od,J,hl⟩:=I.look
 exact W.get_value X J (W.plainGet_of hg).1 (W.findObj_own hh ha rfl (by rw[hl,hv])) hv' h
def zr5{pl:Sem Bool}{Q:Value × List Value->Shared->Prop}(X:K.In s.heap)(I:ObjM s.heap x dx C mA)(hg:W.plainGet K C name=true)
  (hf:W.findIn K (.ref C) name=some (some (.ref f))) (ht:W.isFn K (.ref f)=true) (hv:mA name=none) (h:Q (.ref f,[.ref x]) s) :
  wpAny (model prog w) A (getMethod (.ref x) name pl) Q E s:=by
 obtain⟨od,J,hl⟩:=I.look
 exact W.method_fn X J (W.plainGet_of hg).1 (W.plainGet_of hg).2 hf (beq_iff_eq.mp ht) (by show(W.lookIn name od).map (·.isSome)=some false;rw[hl,hv];rfl) h
def zz3{ns:List Str}{Q:Unit->Shared->Prop}(X:K.In s.heap)(I:ObjM s.heap x dx C mA)
  (hs:W.findIn K (.ref C) "__setattr__" = some (some (.builtin "object.__setattr__"))) (hp:W.plainOver K C=true) (ht:W.takerIn K C name=some none) (hh:W.hasDictIn K C=true)
  (hw:PySem.Within mA ns) (hsz:ns.length<=sizeLine)
  (h:∀h',ObjM h' x dx C (λy=>if y=name then some v else mA y)->Heap.SameBut dx s.heap h'->Q () { s with heap:=h',toks:=s.toks+2 }) :
  wpAny (model prog w) A (setAttr (.ref x) name v) Q E s:=by
 obtain⟨od,J,hl⟩:=I.look;refine W.set_plain X J hs (W.osa_open (s:={ s with toks:=s.toks+1 }) (r:=none) X J hp ht λb=>?_);obtain⟨cd,hc,hd'⟩:=W.any_some hh;have hx:s.heap.get? x=some ⟨.ref C,some dx,.plain,#[]⟩:=I.obj;refine zb (zg (zb (zb (wpAny_loadPart hx (zb (W.Looks.here (s:={ s with toks:=s.toks+1 }) (W.looks_clsIn X hc) ?_))))));rw[hd'];refine zg (a:=some dx) (zb (zg (zb ?_)));refine wpAny_nsSet1 (s:={ s with toks:=s.toks+1 }) I.ns λh' hn2 hs2=>?_;obtain⟨oD,esD,epD,hoD,hdD,hcD⟩:=hn2.count (PySem.Within.cons name v hw)
 refine zb (wpAny_lookBehind hoD (by rw[hdD];exact pastItsLine_dict (zF hcD (by rw[zt];lia))) ?_)
 exact zg (h _ ⟨(hs2.2 _ (Ne.symm I.ne)).trans I.obj,hn2,I.ne⟩ hs2)
def zq4{R:Result->Shared->Prop}{vs:List Value}{kw:List (Str × Value)}(X:K.In s.heap)(hm:W.makesIn K C=true)
  (hi:W.findIn K (.ref C) "__init__" = some (some (.ref f))) (hf:W.typeIn K (.ref f)=some (.type "function"))
  (h : codeAny (model prog w) (A.under (.builtin "type.__call__" ⟨.ref C :: vs, kw⟩)) (.call (.ref f) ⟨.ref (s.heap.objs.size + 1) :: vs, kw⟩) (W.InitBack (s.heap.objs.size + 1) R)
   { s with heap:=(s.heap.push W.emptyDict).push (W.instObj C s.heap.objs.size) }) :
  codeAny (model prog w) A (.call (.ref C) ⟨vs,kw⟩) R s:=by
 obtain⟨hh,g,d,t,os⟩:=s;exact W.make_core (W.makes_of X hm) (W.looks_findIn X hi) (λself=>W.bind_fn X self hf) (.inl rfl) h
end
def Xc(f:Str)(v:V):List (Str × V)->List (Str × V)
 |[]=>[(f,v)]
 |(g,x)::r=>if g=f then(g,v)::r else(g,x)::Xc f v r
theorem YE(f g:Str)(v:V):∀fs:List (Str × V),(Xc f v fs).lookup g=if g=f then some v else fs.lookup g
 |[]=>by
  show List.lookup g [(f,v)]=_
  by_cases h:g=f
  ·have hb:(g == f)=true:=beq_iff_eq.mpr h;simp only[List.lookup,hb,if_pos h]
  ·have hb:(g == f)=false:=beq_eq_false_iff_ne.mpr h;simp only[List.lookup,hb,if_neg h]
 | (k, x) :: r => by
  have ih:=YE f g v r
  rw[show Xc f v ((k,x)::r)=(if k=f then(k,v)::r else(k,x)::Xc f v r) from rfl]
  by_cases hk:k=f
  ·rw [if_pos hk]
   by_cases h:g=k
   ·have hb:(g == k)=true:=beq_iff_eq.mpr h;simp only[List.lookup,hb,if_pos (h.trans hk)]
   ·have hb:(g == k)=false:=beq_eq_false_iff_ne.mpr h;simp only[List.lookup,hb,if_neg (λe:g=f=>h (e.trans hk.symm))]
  ·rw [if_neg hk]
   by_cases h:g=k
   ·have hb:(g == k)=true:=beq_iff_eq.mpr h;simp only[List.lookup,hb,if_neg (λe:g=f=>hk (h.symm.trans e))]
   ·have hb:(g == k)=false:=beq_eq_false_iff_ne.mpr h;simp only[List.lookup,hb];exact ih
theorem YK(f:Str)(v:V):∀fs:List (Str × V),f∈(Xc f v fs).map (·.1)/\∀g,g∈fs.map (·.1)->g∈(Xc f v fs).map (·.1)
 |[]=>⟨by simp[Xc],λg h=>by simp at h⟩
 | (k, x) :: r => by
  obtain⟨i1,i2⟩:=YK f v r
  rw[show Xc f v ((k,x)::r)=(if k=f then(k,v)::r else(k,x)::Xc f v r) from rfl]
  by_cases hk:k=f
  ·rw [if_pos hk];subst hk
   exact⟨by simp,λg h=>by simpa using h⟩
  ·rw [if_neg hk];refine⟨?_,λg h=>?_⟩
   ·rw[zu];exact zc _ i1
   ·rw [zu] at h ⊢
    rcases zd.mp h with e |e
    ·exact zd.mpr (.inl e)
    ·exact zc _ (i2 g e)
theorem YG(f:Str)(v:V):∀fs:List (Str × V),(Xc f v fs).length<=fs.length+1
 |[]=>by simp[Xc]
 |(k,x)::r=>by
  have ih:=YG f v r
  rw[show Xc f v ((k,x)::r)=(if k=f then(k,v)::r else(k,x)::Xc f v r) from rfl]
  by_cases hk:k=f
  ·rw[if_pos hk,zt,zt];lia
  ·rw[if_neg hk,zt,zt];lia
def RelO.some_of{v:V}{o:Option Value}(r:RelO (some v) o):∃u,o=some u/\RelV v u:=by
 cases o with
 |none=>exact(show False from r).elim
 |some u=>exact⟨u,rfl,r⟩
def RelO.none_of{o:Option Value}(r:RelO none o):o=none:=by
 cases o with
 |none=>rfl
 |some u=>exact(show False from r).elim
def zf3{v:V}{u:Value}(r:RelV v u):W.handedIn u=true:=by
 cases v with
 |non=>cases(show u=Value.none from r);rfl
 |bl b=>cases(show u=Value.bool b from r);rfl
 |int i=>obtain⟨t,e⟩:=(show ∃t,u=Value.int i t from r);cases e;rfl
 |str x=>obtain⟨t,e⟩:=(show ∃t,u=Value.str x t from r);cases e;rfl
 |byt b=>obtain⟨t,e⟩:=(show ∃t,u=Value.bytes b t from r);cases e;rfl
 |flt b=>obtain⟨t,e⟩:=(show ∃t,u=Value.float b t from r);cases e;rfl
 |ref a=>cases(show u=Value.ref a from r);rfl
 |ty n=>cases(show u=Value.type n from r);rfl
section
variable {P:Program}{w:World}{H H':Hp}{h h':Heap}{a C dx:Addr}{fs fs':List (Str × V)}
def UM(hok:HOk P w H h)(e:H a=some (.ins C dx fs)):∃mA,ObjM h a dx C mA/\(∀f,RelO (fs.lookup f) (mA f))/\PySem.Within mA (fs.map (·.1))/\fs.length<=1000/\H dx=some (.own a):=by
 obtain⟨d,z,ne,ob,mA,n,r,q⟩:=(show ObjOk P w H h a (.ins C dx fs) from hok a _ e);exact⟨mA,⟨ob,n,ne⟩,r,q,z,d⟩
end
structure Cls(K:W.Frag)(C:Addr):Prop where
 pg:W.plainGet K C Str.empty=true
 hd:W.hasDictIn K C=true
 po:W.plainOver K C=true
 sa:W.findIn K (.ref C) "__setattr__" = some (some (.builtin "object.__setattr__"))
def Cls.get{K:W.Frag}{C:Addr}(c:Cls K C)(f:Str):W.plainGet K C f=true:=c.pg
def NoAttr(K:W.Frag)(C:Addr)(f:Str):Prop:=W.findIn K (.ref C) f=some none
def NoAttr.taker{K:W.Frag}{C:Addr}{f:Str}(n:NoAttr K C f):W.takerIn K C f=some none:=by
 unfold W.takerIn;rw[show W.findIn K (.ref C) f=some none from n];rfl
structure Meth(K:W.Frag)(C:Addr)(m:Str)(f:Addr):Prop where
 at_:W.findIn K (.ref C) m=some (some (.ref f))
 fn:W.isFn K (.ref f)=true
 kp:W.keepIn K (.ref f)=true
section
variable {X:Cx}{pins:List (Addr × Obj)}{σ:St}{H:Hp}{s:Shared}{a C dx:Addr}{fs:List (Str × V)}{f:Str}{v:V}{A:Around}{E:Value->Shared->Prop}
def Xx{b:Bool}{Q:Value->Shared->Prop}(I:Inv X pins σ H s)(e:H a=some (.ins C dx fs))(c:Cls X.K C)(n:NoAttr X.K C f)(l:fs.lookup f=some v)
  (h:∀u s',Inv X pins σ H s'->RelV v u->Q u s'):wpAny (model X.prog X.w) A (getAttr (.ref a) f b) Q E s:=by
 obtain⟨mA,O,r,_,_,_⟩:=UM I.hok e
 obtain⟨u,hu,ru⟩:=RelO.some_of (v:=v) (o:=mA f) (by rw[<- l];exact r f)
 exact zH1 I.kIn O (c.get f) c.hd n hu (zf3 ru) (h u _ (I.tok _) ru)
def Xw{m:Str}{g:Addr}{pl:Sem Bool}{Q:Value × List Value->Shared->Prop}(I:Inv X pins σ H s)(e:H a=some (.ins C dx fs))(c:Cls X.K C)(k:Meth X.K C m g)(l:fs.lookup m=none)
  (h:Q (.ref g,[.ref a]) s):wpAny (model X.prog X.w) A (getMethod (.ref a) m pl) Q E s:=by
 obtain⟨mA,O,r,_,_,_⟩:=UM I.hok e
 have hn:mA m=none:=RelO.none_of (by rw[<- l];exact r m)
 exact zr5 I.kIn O (c.get m) k.at_ k.fn hn h
def Xo{y:V}{u:Value}{Q:Unit->Shared->Prop}(I:Inv X pins σ H s)(e:H a=some (.ins C dx fs))(c:Cls X.K C)(n:NoAttr X.K C f)(hl:fs.length<1000)(ry:RelV y u)
  (h:∀s',Inv X pins σ (upd H a (.ins C dx (Xc f y fs))) s'->Q () s'):wpAny (model X.prog X.w) A (setAttr (.ref a) f u) Q E s:=by
 obtain⟨mA,O,r,wi,_,ho⟩:=UM I.hok e
 have hz:(fs.map (·.1)).length<=sizeLine:=by rw[zm,sizeLine_eq];lia
 refine zz3 I.kIn O c.sa c.po n.taker c.hd wi hz λh' O' sb=>h _ ?_
 have hd:∃o,h'.get? dx=some o:=let ⟨o,_,_,e',_⟩:=O'.ns;⟨o,e'⟩
 refine I.write (x:=a) (e:=dx) (by rw[e];exact True.intro) (.inr ho) (λb q hb z=>(sb.2 b hb).trans z) hd ?_
 refine⟨by rw[xS O.ne];exact ho,?_,O.ne,O'.obj,_,O'.ns,λg=>?_,λg hg=>?_⟩
 ·have:=YG f y fs;lia
 ·show RelO ((Xc f y fs).lookup g) (if g = f then some u else mA g)
  rw[YE]
  by_cases q:g=f
  ·rw[if_pos q,if_pos q];exact ry
  ·rw[if_neg q,if_neg q];exact r g
 ·by_cases q : g = f
  ·rw[q];exact(YK f y fs).1
  ·refine (YK f y fs).2 g (wi g λz => hg ?_)
   show(if g=f then some u else mA g)=none
   rw[if_neg q];exact z
def Inv.made(I:Inv X pins σ H s):Inv X pins σ (upd (upd H s.heap.objs.size (.own (s.heap.objs.size+1))) (s.heap.objs.size+1) (.ins C s.heap.objs.size []))
  { s with heap:=(s.heap.push W.emptyDict).push (W.instObj C s.heap.objs.size) }:=by
 have e1:(s.heap.push W.emptyDict).get? s.heap.objs.size=some W.emptyDict:=zQ s.heap rfl
 have e2:((s.heap.push W.emptyDict).push (W.instObj C s.heap.objs.size)).get? (s.heap.objs.size+1)=some (W.instObj C s.heap.objs.size):=by
  have:=zQ (s.heap.push W.emptyDict) (o:=W.instObj C s.heap.objs.size) rfl
  rwa [wE] at this
 have e3:(s.heap.push W.emptyDict).Ns s.heap.objs.size (λ_=>none):=⟨W.emptyDict,#[],_,e1,rfl,(λe he=>absurd he (by simp)),λ_=>rfl⟩
 have I1:=I.laid (a:=s.heap.objs.size) (o:=.own (s.heap.objs.size+1)) (h':=s.heap.push W.emptyDict) (t':=s.toks) (λb u q=>zh _ q) (zj _) ⟨_,e1⟩;refine I1.laid (a:=s.heap.objs.size+1) (o:=.ins C s.heap.objs.size []) (t':=s.toks) (λb u q=>zh _ q) (yl (wE _ _)) ?_;have ne:s.heap.objs.size≠s.heap.objs.size+1:=zU (Nat.lt_succ_self _)
 refine⟨by rw[xS ne,yd],wT _,ne,e2,λ_=>none,(Heap.Ns1.of_empty e3).at λo q=>zh _ q,λ_=>True.intro,λy hy=>absurd rfl hy⟩
def zJ2{prog:Program}{w:World}{env:Env}{e:Expr}{f:Str}{pos:Pos}{s:Shared}{Q:Value->Shared->Prop}(hb:attributeBase e f env (eval e env)=eval e env)
  (h:wpAny (model prog w) A (eval e env) (λo s₁=>wpAny (model prog w) A (getAttr o f true) Q E s₁) E s):wpAny (model prog w) A (eval (.Attribute e f pos) env) Q E s:=
 Attribute_any_ h (by rw[arm_eval_Attribute,hb])
end
def xo9(K:W.Frag)(ta:TE)(f:Str):TE:=λσ H Q=>ta σ H λx H1=>∃a C dx fs v,x=.ref a/\H1 a=some (.ins C dx fs)/\Cls K C/\NoAttr K C f/\fs.lookup f=some v/\Q v H1
def xp2(K:W.Frag)(ta tv:TE)(f:Str):TS:=λD σ H=>tv σ H λy H1=>ta σ H1 λx H2=>∃a C dx fs,x=.ref a/\H2 a=some (.ins C dx fs)/\Cls K C/\NoAttr K C f/\fs.length<1000 /\
 D.nx σ (upd H2 a (.ins C dx (Xc f y fs)))
def xn7(X:Cx)(op:Operator)(rd:V->V->Hp->VK->Prop):Prop:=
 ∀(pins:List (Addr × Obj)) (s:Shared) (σ:St) (H:Hp) (x y:V) (u v:Value) (Q:VK),Inv X pins σ H s->RelV x u->RelV y v->rd x y H Q->wpAny (model X.prog X.w) X.A (inplaceOp op u v) (EP X pins σ Q) X.xe s
def zz4(K:W.Frag)(ta tv:TE)(rd:V->V->Hp->VK->Prop)(f:Str):TS:=λD σ H=>ta σ H λx H1=>∃a C dx fs v,x=.ref a/\H1 a=some (.ins C dx fs)/\Cls K C/\NoAttr K C f/\fs.lookup f=some v /\
 tv σ H1 λy H2=>rd v y H2 λz H3=>∃dx' fs',H3 a=some (.ins C dx' fs')/\fs'.length<1000/\D.nx σ (upd H3 a (.ins C dx' (Xc f z fs')))
section
variable {X:Cx}{o e value:Expr}{f:Str}{pos pos' tpos:Pos}{ta tv:TE}
def zP6(he:PE X e ta)(hb:attributeBase e f X.env (eval e X.env)=eval e X.env):PE X (.Attribute e f pos) (xo9 X.K ta f):=by
 intro pins s σ H Q I h;refine zJ2 hb (thn (he pins s σ H _ I h) λu s1 ⟨x,H1,I1,rx,a,C,dx,fs,v,ex,ea,c,n,l,q⟩=>?_);subst ex;obtain rfl:u=Value.ref a:=rx;exact Xx I1 ea c n l λu' s2 I2 ru=>⟨v,H1,I2,ru,q⟩
def zO6(ha:PE X o ta)(hv:PE X value tv)(hs:swapsWith value (some (.Attribute o f pos')) pos.line X.env=pure false):PS X (.Assign [.Attribute o f pos'] value pos) (xp2 X.K ta tv f):=by
 intro pins s σ H D I h;refine plainObj_wpAny_Assign_Attribute (thn (hv pins s σ H _ I h) λu s1 ⟨y,H1,I1,ry,q⟩=>thn (ha pins s1 σ H1 _ I1 q) λov s2 ⟨x,H2,I2,rx,a,C,dx,fs,ex,ea,c,n,l,q2⟩=>?_) hs;subst ex;obtain rfl:ov=Value.ref a:=rx;exact Xo I2 ea c n l ry λs3 I3=>⟨σ,_,I3,q2⟩
def za4{op:Operator}{rd:V->V->Hp->VK->Prop}(ha:PE X o ta)(hv:PE X value tv)(hop:xn7 X op rd):PS X (.AugAssign (.Attribute o f tpos) op value pos) (zz4 X.K ta tv rd f):=by
 intro pins s σ H D I h;refine wpAny_AugAssign_AttributeAny (thn (ha pins s σ H _ I h) λov s1 ⟨x,H1,I1,rx,a,C,dx,fs,v,ex,ea,c,n,l,q⟩=>?_);subst ex;obtain rfl:ov=Value.ref a:=rx;refine Xx I1 ea c n l λu s2 I2 ru=>thn (hv pins s2 σ H1 _ I2 q) λw3 s3 ⟨y,H2,I3,ry,q3⟩=>thn (hop pins s3 σ H2 v y u w3 _ I3 ru ry q3) λw4 s4 ⟨z,H3,I4,rz,dx',fs',ea',l',q4⟩=>?_;exact Xo I4 ea' c n l' rz λs5 I5=>⟨σ,_,I5,q4⟩
def xp7:V->V->Hp->VK->Prop:=λx y H Q=>∃i j,x=.int i/\y=.int j/\Q (.int (i+j)) H
def zT8:xn7 X .Add xp7:=by
 rintro pins s σ H x y u v Q I rx ry ⟨i,j,rfl,rfl,q⟩;obtain⟨t,rfl⟩:=(show ∃t,u=Value.int i t from rx);obtain⟨t',rfl⟩:=(show ∃t',v=Value.int j t' from ry);exact PyProof.Rows.iadd_int ⟨.int (i+j),H,I.tok _,⟨_,rfl⟩,q⟩
end
section
variable {X:Cx}{pins:List (Addr × Obj)}{σ:St}{H:Hp}{s:Shared}{A:Around}{E:Value->Shared->Prop}{Q:Value->Shared->Prop}{c:Value}{b:Bool}
end
structure Room(k:Nat)(A:Around):Prop where
 hd:A.handled=none
 dp:A.depth+3*k+5<recursionLimit
 un:A.units+16*k+200<cLine
 gd:A.guards=some []
def Room.mono{j k:Nat}{A:Around}(r:Room k A)(h:j<=k):Room j A:=⟨r.hd,by have:=r.dp;lia,by have:=r.un;lia,r.gd⟩
def Room.deeper{k:Nat}{A:Around}(r:Room (k+1) A)(env:Env):Room k (A.deeper env):=
 ⟨r.hd,by have:=r.dp;show A.depth+1+3*k+5<_;lia,by have:=r.un;show A.units+3+16*k+200<_;lia,r.gd⟩
def JQ{A:Around}{C:Addr}{us:List Value}{kw:List (Str × Value)}:(A.under (.builtin "type.__call__" ⟨.ref C::us,kw⟩)).depth=A.depth+1:=by
 first |rfl |simp[Around.under,Code.weight,Code.isCreation,Code.isGuard,Code.isCaller,Code.frames,Code.isFrame,guardIds]
def JP{A:Around}{C:Addr}{us:List Value}{kw:List (Str × Value)}:(A.under (.builtin "type.__call__" ⟨.ref C::us,kw⟩)).units=A.units+1:=by
 first |rfl |simp[Around.under,Code.cUnits,Code.frames,Code.isFrame]
def UH{A:Around}{C:Addr}{us:List Value}{kw:List (Str × Value)}:(A.under (.builtin "type.__call__" ⟨.ref C::us,kw⟩)).guards=A.guards:=by
 first |rfl |simp[Around.under,Code.guards,Code.isGuard,guardIds,pushGuards]
def Room.make{k:Nat}{A:Around}(r:Room (k+1) A)(C:Addr)(us:List Value)(kw:List (Str × Value)):Room k (A.under (.builtin "type.__call__" ⟨.ref C::us,kw⟩)):=
 ⟨r.hd,by have:=r.dp;rw[JQ];lia,by have:=r.un;rw[JP];lia,by rw[UH];exact r.gd⟩
def Room.depth{k:Nat}{A:Around}(r:Room k A):A.depth<recursionLimit:=by have:=r.dp;lia
def Room.units{k:Nat}{A:Around}(r:Room k A):A.units+64<cLine:=by have:=r.un;lia
def zV8:TA:=λ_ H Q=>Q [] H
def zl1(ta:TE)(tr:TA):TA:=λσ H Q=>ta σ H λx H1=>tr σ H1 λxs H2=>Q (x::xs) H2
section
variable {X:Cx}{e:Expr}{es:List Expr}{te:TE}{t:TA}{pos:Pos}
def Yx:PA X [] zV8:=λ_ _ _ _ H Q I h=>Calls.spliced_nil ⟨[],H,I,.nil,h⟩
def ql(ha:PE X e te)(hr:PA X es t)(hs:starEach (e::es) X.env=(false,eval e X.env)::starEach es X.env:=by rfl):PA X (e::es) (zl1 te t):=by
 intro pos pins s σ H Q I h;rw[hs];show wpAny _ _ (spliced ((false,eval e X.env)::backTo pos (starEach es X.env))) _ _ s;refine Calls.spliced_cons (thn (ha pins s σ H _ I h) λu s1 ⟨x,H1,I1,r1,q1⟩=>?_);exact thn (hr pos pins s1 σ H1 _ I1 q1) λus s2 ⟨xs,H2,I2,r2,q2⟩=>⟨x::xs,H2,I2,.cons r1 r2,q2⟩
def xo1(t:TA):TE:=λσ H Q=>t σ H λxs H1=>xs.length<=sizeLine/\∀p,H1 p=none->Q (.ref p) (upd H1 p (.tup xs))
def xo6(t:TA):TE:=λσ H Q=>t σ H λxs H1=>xs.length<=sizeLine/\∀p,H1 p=none->Q (.ref p) (upd H1 p (.lst xs))
def zP0{x1}(h:PA X es t):PE X (.Tuple es x1 pos) (xo1 t):=by
 intro pins s σ H Q I hq
 refine wpAny_Tuple_spliced (thn (h pos pins s σ H _ I hq) λus s1 ⟨xs,H1,I1,r,z,q⟩=>⟨by rw[<- r.length];exact z,?_⟩)
 have hf:H1 s1.heap.objs.size=none:=I1.hok.fresh (zj _);refine⟨.ref s1.heap.objs.size,upd H1 s1.heap.objs.size (.tup xs),I1.laid (t':=s1.toks) (λb u e=>zh _ e) (zj _) ?_,rfl,q _ hf⟩;exact⟨z,us,r,⟨_,zQ _ rfl,rfl,_,rfl⟩⟩
def zP3(h:PA X es t):PE X (.List es pos) (xo6 t):=by
 intro pins s σ H Q I hq
 refine wpAny_List_spliced (thn (h pos pins s σ H _ I hq) λus s1 ⟨xs,H1,I1,r,z,q⟩=>⟨by rw[<- r.length];exact z,?_⟩)
 have hf:H1 s1.heap.objs.size=none:=I1.hok.fresh (zj _);refine⟨.ref s1.heap.objs.size,upd H1 s1.heap.objs.size (.lst xs),I1.laid (t':=s1.toks) (λb u e=>zh _ e) (zj _) ?_,rfl,q _ hf⟩;exact⟨z,us,0,r,zQ _ rfl⟩
end
abbrev Sp:=List V->Hp->VK->XK->Prop
abbrev CXT:=List Env->Hp->Shared->XK->Value->Shared->Prop
structure Env0(P:Program)(w:World)(K:W.Frag)(mg:Str->Option Value)(base:Heap)(A:Around)(outer:List Env)(s:Shared)(H:Hp):Prop where
 frames:A.frames=some outer
 mod:Mod K mg base
 bs:∀b o,base.get? b=some o->s.heap.get? b=some o/\H b=none
 bsz:base.objs.size<=s.heap.objs.size
 funs:s.heap.FunFrames base outer
 frf:∀b∈frs outer,H b=none
 hok:HOk P w H s.heap
 bare:AllBare s.gens
def CE(outer:List Env)(P:Program)(w:World)(H:Hp)(s:Shared)(Q:VK)(u:Value)(s':Shared):Prop:=
 ∃v H',s'.os=s.os/\AllBare s'.gens/\Un (frs outer) [] H H' s.heap s'.heap/\HOk P w H' s'.heap/\RelV v u/\Q v H'
def CR(CX:CXT)(outer:List Env)(P:Program)(w:World)(H:Hp)(s:Shared)(Q:VK)(E:XK)(r:Result)(s':Shared):Prop:=
 match r with
 |.ok (.ret u)=>CE outer P w H s Q u s'
 |.ok _=>False
 |.error e=>CX outer H s E e s'
structure FnOk(P:Program)(w:World)(K:W.Frag)(mg:Str->Option Value)(base:Heap)(CX:CXT)(k:Nat)(f:Addr)(fd:FuncData)(ps:List Str)(sp:Sp):Prop where
 len:∀vs H Q E,sp vs H Q E->vs.length=ps.length
 run:∀(A:Around) (outer:List Env) (s:Shared) (H:Hp) (args:Args) (us:List Value) (vs:List V) (Q:VK) (E:XK),Room k A->Env0 P w K mg base A outer s H->BindsTo s fd args (ps.zip us)->Vals vs us->sp vs H Q E ->
  codeAny (model P w) A (.call (.ref f) args) (CR CX outer P w H s Q E) s
def FnOk.mono{P:Program}{w:World}{K:W.Frag}{mg:Str->Option Value}{base:Heap}{CX:CXT}{j k:Nat}{f:Addr}{fd:FuncData}{ps:List Str}{sp:Sp}(F:FnOk P w K mg base CX j f fd ps sp)(h:j<=k) :
  FnOk P w K mg base CX k f fd ps sp:=⟨F.len,λA outer s H args us vs Q E hr=>F.run A outer s H args us vs Q E (hr.mono h)⟩
def Env0.make{P:Program}{w:World}{K:W.Frag}{mg:Str->Option Value}{base:Heap}{A:Around}{outer:List Env}{s:Shared}{H:Hp}(e:Env0 P w K mg base A outer s H)(C:Addr)(us:List Value)(kw:List (Str × Value)) :
  Env0 P w K mg base (A.under (.builtin "type.__call__" ⟨.ref C::us,kw⟩)) outer s H:=⟨by first |exact e.frames |(simpa [Around.under,Code.envs,Code.isFrame,pushEnvs] using e.frames),e.mod,e.bs,e.bsz,e.funs,e.frf,e.hok,e.bare⟩
section
variable {X:Cx}{pins:List (Addr × Obj)}{σ:St}{H:Hp}{s s':Shared}
def Inv.env0(I:Inv X pins σ H s):Env0 X.prog X.w X.K X.mg X.base X.A X.stack s H:=
 ⟨I.ok.frames,I.ok.mod,I.bs,zF I.ok.bsz I.sz,I.stack,I.stkFree,I.hok,I.bare⟩
def Inv.after{Q:VK}{u:Value}(I:Inv X pins σ H s)(h:CE X.stack X.prog X.w H s Q u s'):EP X pins σ Q u s':=by
 obtain⟨v,H',os,bare,un,hok,r,q⟩:=h;obtain⟨hh,g,d,t,os'⟩:=s';obtain rfl:os'=s.os:=os
 exact⟨v,H',I.call (h':=hh) (g':=g) (d':=d) (t':=t) (ch:=[]) un hok bare (λb z=>absurd z (by simp)),r,q⟩
end
def zZ3(sp:Sp)(dvs:List V)(E:XK)(t:TA):TE:=λσ H Q=>t σ H λvs H1=>sp (vs++dvs) H1 Q E
def zz0(C:Addr)(m:Str)(sp:Sp)(dvs:List V)(E:XK)(ta:TE)(t:TA):TE:=λσ H Q=>ta σ H λx H1=>∃a dx fs,x=.ref a/\H1 a=some (.ins C dx fs)/\fs.lookup m=none /\
 t σ H1 λvs H2=>sp (x::(vs++dvs)) H2 Q E
def zZ0(C:Addr)(sp:Sp)(dvs:List V)(E:XK)(t:TA):TE:=λσ H Q=>t σ H λvs H1=>∀x dx,H1 x=none->H1 dx=none->dx≠x ->
 sp (.ref x::(vs++dvs)) (upd (upd H1 dx (.own x)) x (.ins C dx [])) (λv H2=>v=.non/\Q (.ref x) H2) E
def Binds(K:W.Frag)(fd:FuncData)(ps:List Str)(ds:List Value):Prop:=
 ∀(s:Shared) (us:List Value),K.In s.heap->(us++ds).length=ps.length->BindsTo s fd ⟨us,[]⟩ (ps.zip (us++ds))
def Binds.all{K:W.Frag}{fd:FuncData}{ps:List Str}(h:∀us:List Value,us.length=ps.length->bindArgs fd ⟨us,[]⟩=pure (ps.zip us)):Binds K fd ps []:=λs us _ hl=>by
 rw[xG] at hl ⊢;exact .of_eq (h us hl)
def qZ(CX:CXT)(X:Cx)(E:XK):Prop:=∀(pins:List (Addr × Obj)) (σ:St) (H:Hp) (s:Shared) (e:Value) (s':Shared),Inv X pins σ H s->CX X.stack H s E e s'->X.xe e s'
section
variable {X:Cx}{CX:CXT}{k:Nat}{f C:Addr}{fd:FuncData}{ps:List Str}{sp:Sp}{dvs:List V}{ds:List Value}{E:XK}{x m:Str}{p pos apos:Pos}{e o:Expr}{es:List Expr}{ta:TE}{t:TA}
def QT{pins:List (Addr × Obj)}{σ:St}{H:Hp}{s:Shared}{Q:VK}{us:List Value}{vs:List V}(F:FnOk X.prog X.w X.K X.mg X.base CX k f fd ps sp)(hr:Room k X.A)(hb:Binds X.K fd ps ds)(hd:Vals dvs ds)(hx:qZ CX X E)
  (I:Inv X pins σ H s) (r:Vals vs us) (h:sp (vs++dvs) H Q E):wpAny (model X.prog X.w) X.A (call (.ref f) us) (EP X pins σ Q) X.xe s:=by
 have r2:Vals (vs++dvs) (us++ds):=r.append hd
 have hl:(us++ds).length=ps.length:=by rw[<- r2.length];exact F.len _ _ _ _ h
 refine wpAny_call (codeAny_mono (F.run X.A X.stack s H ⟨us,[]⟩ (us++ds) (vs++dvs) Q E hr I.env0 (hb s us I.kIn hl) r2 h) λr s' hq=>?_)
 cases r with
 |error e=>exact hx pins σ H s e s' I hq
 |ok fl=>
  cases fl with
  |ret u=>exact I.after hq
  |next=>exact False.elim hq
  |brk=>exact False.elim hq
  |cont=>exact False.elim hq
def zb2(F:FnOk X.prog X.w X.K X.mg X.base CX k f fd ps sp)(hr:Room k X.A)(hg:Gl X x)(hm:X.mg x=some (.ref f))(hk:W.keepIn X.K (.ref f)=true)(hb:Binds X.K fd ps ds)(hd:Vals dvs ds)(hx:qZ CX X E)
  (ha:PA X (e::es) t) (hdb:(x == ("__debug__" : Str))=false:=by decide) (he:starEach (e::es) X.env=(false,eval e X.env)::starEach es X.env:=by rfl) (hpl:(backTo pos (starEach es X.env)).any (·.1)=false:=by rfl) :
  PE X (.Call (.Name x p) (e::es) [] pos) (zZ3 sp dvs E t):=by
 intro pins s σ H Q I h;refine wz (Zo I hg hm ?_ hdb);refine W.callWith_K (h₀:=X.base) I.ok.mod.kin hk (thn (ha pos pins s σ H _ I h) λus s1 ⟨vs,H1,I1,r,q⟩=>⟨I1.kIn,?_⟩) he hpl;exact QT F hr hb hd hx I1 r q
def za9{pl:Sem Bool}(he:PE X o ta)(c:Cls X.K C)(hm:Meth X.K C m f)(F:FnOk X.prog X.w X.K X.mg X.base CX k f fd ps sp)(hr:Room k X.A)(hb:Binds X.K fd ps ds)(hd:Vals dvs ds)(hx:qZ CX X E)(ha:PA X (e::es) t)
  (hst:starEach (e::es) X.env=(false,eval e X.env)::starEach es X.env:=by rfl) (hpl:(backTo pos (starEach es X.env)).any (·.1)=false:=by rfl)
  (ht : eval (.Call (.Attribute o m apos) (e :: es) [] pos) X.env = (do
   let ov <- eval o X.env
   standAt apos.atName
   let (f,first) <- holding [ov] (getMethod ov m pl)
   callWith pos f first (backTo pos (starEach (e::es) X.env)) (backToKw pos (keywordEach [] X.env))):=by rfl) :
  PE X (.Call (.Attribute o m apos) (e::es) [] pos) (zz0 C m sp dvs E ta t):=by
 intro pins s σ H Q I h;refine W.methodCall_KW (pl:=pl) (thn (he pins s σ H _ I h) λu s1 ⟨x,H1,I1,rx,a,dx,fs,ex,ea,l,q⟩=>?_) ht;subst ex;obtain rfl:u=Value.ref a:=rx;refine Xw I1 ea c hm l ?_
 refine W.callWith_K (first:=[.ref a]) (h₀:=X.base) I.ok.mod.kin hm.kp (thn (ha pos pins s1 σ H1 _ I1 q) λus s2 ⟨vs,H2,I2,r,q2⟩=>⟨I2.kIn,?_⟩) hst hpl
 exact QT (us:=.ref a::us) (vs:=.ref a::vs) F hr hb hd hx I2 (.cons rfl r) q2
def zo0{pl:Sem Bool}(he:PE X o ta)(c:Cls X.K C)(hm:Meth X.K C m f)(F:FnOk X.prog X.w X.K X.mg X.base CX k f fd ps sp)(hr:Room k X.A)(hb:Binds X.K fd ps ds)(hd:Vals dvs ds)(hx:qZ CX X E)
  (ht : eval (.Call (.Attribute o m apos) [] [] pos) X.env = (do
   let ov <- eval o X.env
   standAt apos.atName
   let (f,first) <- holding [ov] (getMethod ov m pl)
   callWith pos f first (backTo pos (starEach [] X.env)) (backToKw pos (keywordEach [] X.env))):=by rfl) :
  PE X (.Call (.Attribute o m apos) [] [] pos) (zz0 C m sp dvs E ta zV8):=by
 intro pins s σ H Q I h;refine W.methodCall_KW (pl:=pl) (thn (he pins s σ H _ I h) λu s1 ⟨x,H1,I1,rx,a,dx,fs,ex,ea,l,q⟩=>?_) ht;subst ex;obtain rfl:u=Value.ref a:=rx;refine Xw I1 ea c hm l ?_
 exact W.callWith_K0 (first:=[.ref a]) I1.kIn hm.kp (QT (us:=[.ref a]) (vs:=[.ref a]) F hr hb hd hx I1 (.cons rfl .nil) q)
structure Mk(K:W.Frag)(C f:Addr):Prop where
 makes:W.makesIn K C=true
 init:W.findIn K (.ref C) "__init__" = some (some (.ref f))
 fn:W.isFn K (.ref f)=true
 kp:W.keepIn K (.ref C)=true
def zl6{pins:List (Addr × Obj)}{σ:St}{H:Hp}{s:Shared}{Q:VK}{us:List Value}{vs:List V}(M:Mk X.K C f)(F:FnOk X.prog X.w X.K X.mg X.base CX k f fd ps sp)(hr:Room (k+1) X.A)(hb:Binds X.K fd ps ds)(hd:Vals dvs ds)
  (hx:qZ CX X E) (I:Inv X pins σ H s) (r:Vals vs us)
  (h:∀x dx,H x=none->H dx=none->dx≠x->sp (.ref x::(vs++dvs)) (upd (upd H dx (.own x)) x (.ins C dx [])) (λv H2=>v=.non/\Q (.ref x) H2) E) :
  wpAny (model X.prog X.w) X.A (call (.ref C) us) (EP X pins σ Q) X.xe s:=by
 have hq:=h (s.heap.objs.size+1) s.heap.objs.size (I.hok.fresh (xY _)) (I.hok.fresh (zj _)) (zU (Nat.lt_succ_self _));have I2:=Inv.made (C:=C) I;have r2:Vals (V.ref (s.heap.objs.size+1)::(vs++dvs)) (Value.ref (s.heap.objs.size+1)::(us++ds)):=.cons rfl (r.append hd)
 have hl:(Value.ref (s.heap.objs.size+1)::us++ds).length=ps.length:=by
  have e:=r2.length;rw[F.len _ _ _ _ hq] at e;exact e.symm
 refine wpAny_call (zq4 (f:=f) I.kIn M.makes M.init (beq_iff_eq.mp M.fn) (codeAny_mono (F.run _ X.stack _ _ ⟨Value.ref (s.heap.objs.size+1)::us,[]⟩ (Value.ref (s.heap.objs.size+1)::(us++ds)) _ _ E (hr.make C us [])
  (I2.env0.make C us []) (hb _ (Value.ref (s.heap.objs.size+1)::us) I2.kIn hl) r2 hq) λr s' hq'=>?_))
 cases r with
 |error e=>exact hx pins σ _ _ e s' I2 hq'
 | ok fl =>
  cases fl with
  |ret u=>
   obtain⟨v,H',I3,rv,ev,q3⟩:=I2.after hq';subst ev;exact⟨rv,⟨V.ref (s.heap.objs.size+1),H',I3,rfl,q3⟩⟩
  |next=>exact False.elim hq'
  |brk=>exact False.elim hq'
  |cont=>exact False.elim hq'
def zD0(M:Mk X.K C f)(F:FnOk X.prog X.w X.K X.mg X.base CX k f fd ps sp)(hr:Room (k+1) X.A)(hg:Gl X x)(hm:X.mg x=some (.ref C))(hb:Binds X.K fd ps ds)(hd:Vals dvs ds)(hx:qZ CX X E)
  (ha:PA X (e::es) t) (hdb:(x == ("__debug__" : Str))=false:=by decide) (he:starEach (e::es) X.env=(false,eval e X.env)::starEach es X.env:=by rfl) (hpl:(backTo pos (starEach es X.env)).any (·.1)=false:=by rfl) :
  PE X (.Call (.Name x p) (e::es) [] pos) (zZ0 C sp dvs E t):=by
 intro pins s σ H Q I h;refine wz (Zo I hg hm ?_ hdb);refine W.callWith_K (h₀:=X.base) I.ok.mod.kin M.kp (thn (ha pos pins s σ H _ I h) λus s1 ⟨vs,H1,I1,r,q⟩=>⟨I1.kIn,?_⟩) he hpl;exact zl6 M F hr hb hd hx I1 r q
end
section
variable {X:Cx}{CX:CXT}{k:Nat}{f C:Addr}{fd:FuncData}{ps ks:List Str}{sp:Sp}{E:XK}{x m:Str}{p pos apos kpos:Pos}{e o:Expr}{es:List Expr}{kws:List Keyword}{te ta:TE}{t tk:TA}{nm:Option Str}
variable {g:List Value->List Value->List Value}{gV:List V->List V->List V}
end
structure FnScope(N P:List Str)(sc:Scope):Prop where
 kind:sc.kind=.function
 co:sc.isCoroutine=false
 gen:sc.isGenerator=false
 nd:N.Nodup
 pre:N.take P.length=P
 par:∀x∈P,sc.names.lookup x=some .local\/sc.names.lookup x=some .cell
 nofree:∀y∈sc.names,y.2≠.free
theorem VR{kindOf:Str->Option NameKind}{x:Str}:∀{binds:List (Str × Value)}{m:Str->Option Value},(∀v,(x,v) ∉ binds)->bindL kindOf binds m x=m x
 |[],_,_=>rfl
 | (n, v) :: r, m, h => by
  unfold bindL;rw[VR λw hw=>h w (zc _ hw)]
  split
  ·have : x ≠ n := by rintro rfl; exact h v zo
   simp[this]
  ·rfl
theorem VT{kindOf:Str->Option NameKind}{x:Str}:∀{binds:List (Str × Value)}{m:Str->Option Value},(∀v,(x,v) ∉ binds)->bindC kindOf binds m x=m x
 |[],_,_=>rfl
 | (n, v) :: r, m, h => by
  unfold bindC;rw[VT λw hw=>h w (zc _ hw)]
  split
  ·rfl
  ·have : x ≠ n := by rintro rfl; exact h v zo
   simp[this]
def VS{kindOf:Str->Option NameKind}{x:Str}{v:Value}:∀{P:List Str}{vs:List Value}{i:Nat}{m:Str->Option Value},P.Nodup->P[i]?=some x->vs[i]?=some v->kindOf x=some .local ->
  bindL kindOf (P.zip vs) m x=some v
 |[],_,_,_,_,h,_,_=>by simp at h
 |_::_,[],_,_,_,_,h,_=>by simp at h
 |p::P,w::vs,0,m,nd,h1,h2,hk=>by
  simp at h1 h2;subst h1;subst h2;show bindL kindOf ((p,w)::P.zip vs) m p=_;unfold bindL;rw[VR λv hv=>(xo.mp nd).1 (of_mem_zip hv).1,if_pos hk];simp
 |p::P,w::vs,i+1,m,nd,h1,h2,hk=>by
  show bindL kindOf ((p,w)::P.zip vs) m x=_;unfold bindL
  exact VS (i:=i) (xo.mp nd).2 (by simpa using h1) (by simpa using h2) hk
def VU{kindOf:Str->Option NameKind}{x:Str}{v:Value}:∀{P:List Str}{vs:List Value}{i:Nat}{m:Str->Option Value},P.Nodup->P[i]?=some x->vs[i]?=some v->kindOf x≠some .local ->
  bindC kindOf (P.zip vs) m x=some v
 |[],_,_,_,_,h,_,_=>by simp at h
 |_::_,[],_,_,_,_,h,_=>by simp at h
 |p::P,w::vs,0,m,nd,h1,h2,hk=>by
  simp at h1 h2;subst h1;subst h2;show bindC kindOf ((p,w)::P.zip vs) m p=_;unfold bindC;rw[VT λv hv=>(xo.mp nd).1 (of_mem_zip hv).1,if_neg hk];simp
 |p::P,w::vs,i+1,m,nd,h1,h2,hk=>by
  show bindC kindOf ((p,w)::P.zip vs) m x=_;unfold bindC
  exact VU (i:=i) (xo.mp nd).2 (by simpa using h1) (by simpa using h2) hk
def start(N:List Str)(vs:List V):St:=vs.map some++replicate (N.length-vs.length) none
def Wy(CX:CXT)(P:Program)(w:World)(K:W.Frag)(mg:Str->Option Value)(base:Heap)(N:List Str)(qual:Str)(scope:Scope)(f:Addr)(cd:Value)(A:Around)(outer:List Env)(s:Shared)(H:Hp)(E:XK):Cx where
 prog:=P
 w:=w
 K:=K
 mg:=mg
 base:=base
 A:=A.deeper (envOfC qual scope s.heap.objs.size f cd)
 N:=N
 s₀:=s
 H₀:=H
 env:=envOfC qual scope s.heap.objs.size f cd
 outer:=outer
 stack:=envOfC qual scope s.heap.objs.size f cd::outer
 ex:=[]
 calm:=true
 fn:=λ_=>true
 pn:=[]
 xe:=λe s'=>wpAny (model P w) (A.deeper (envOfC qual scope s.heap.objs.size f cd)) (leaving (envOfC qual scope s.heap.objs.size f cd) e) (λ_ s''=>CX outer H s E e s'') (λe' s''=>CX outer H s E e' s'') s'
def Jo{sc:Scope}{n:Nat}{x:Str}(h:sc.names.lookup x=some .cell):∃c,(cellsFrom n sc.names []).lookup x=some c:=by
 have q:=W.cellsFrom_some sc.names n [] (.inl h);exact Option.isSome_iff_exists.mp q
def VD{CX:CXT}{P:Program}{w:World}{K:W.Frag}{mg:Str->Option Value}{base:Heap}{N ps:List Str}{qual:Str}{scope:Scope}{f:Addr}{cd:Value}{A:Around}{outer:List Env}{s s1:Shared}{H:Hp}{E:XK}{us:List Value}{vs:List V}
  (S:FnScope N ps scope) (hd:A.handled=none) (e0:Env0 P w K mg base A outer s H) (hl:vs.length=ps.length) (r:Vals vs us)
  (x:InCallC s s.heap.objs.size (bindL (envOfC qual scope s.heap.objs.size f cd).kindOf (ps.zip us) λ_=>none) (cellsFrom (s.heap.objs.size+1) scope.names []) (bindC (envOfC qual scope s.heap.objs.size f cd).kindOf (ps.zip us) λ_=>none) s1) :
  Inv (Wy CX P w K mg base N qual scope f cd A outer s H E) [] (start N vs) H s1:=by
 have hpl:ps.length<=N.length:=by have:=congrArg List.length S.pre;rw[xk] at this;lia
 obtain⟨h1,tk,rfl,hk⟩:=x.done
 have noA:∀b:Addr,b ∉ (Wy CX P w K mg base N qual scope f cd A outer s H E).ex:=λb z=>absurd (show b∈([]:List Addr) from z) (by simp)
 refine⟨⟨e0.mod,S.kind,rfl,rfl,zj _,λy z c h1 h2=>?_,λy hy=>?_,λy c _ h=>?_,λ_=>hd,Around.frames_deeper e0.frames,.inr ⟨rfl,rfl⟩,λb z=>absurd z (noA b),e0.bs,e0.bsz,λb _ _=>noA b,λb z=>absurd z (noA b),e0.funs,e0.frf⟩,
  rfl,e0.bare,Un.kept hk,⟨_,x.toInCall.ns,λi y v h1 h2 h3=>?_⟩,λy c h=>⟨_,x.cell y c h⟩,e0.hok.fresh (zj _),λy c h=>?_,λp hp=>absurd (show p∈([]:List (Addr × Obj)) from hp) (by simp),e0.hok.kept hk,?_⟩
 ·exact name_of_addr x.apart (PySem.mem_of_lookup h1) (PySem.mem_of_lookup h2)
 ·have hy : scope.names.lookup y = some .cell \/ scope.names.lookup y = some .free := hy
  rcases hy with hy |hy
  ·exact Jo hy
  ·exact absurd rfl (S.nofree _ (PySem.mem_of_lookup hy))
 ·exact xJ (x.above y c (PySem.mem_of_lookup h))
 ·have hi : i < vs.length := by
   unfold start at h2
   by_cases hi:i<vs.length
   ·exact hi
   ·rw [xm (by simpa using hi)] at h2
    rw[we] at h2
    split at h2<;>cases h2
  have ha:vs[i]?=some v:=by
   unfold start at h2
   rw[xE (by simpa using hi),zE] at h2
   cases e:vs[i]? with
   |none=>rw[e] at h2;cases h2
   |some a=>rw[e] at h2;cases h2;rfl
  obtain⟨u,hu,rv⟩:=r.get ha
  have hp:ps[i]?=some y:=by
   rw[<- S.pre,List.getElem?_take_of_lt q5];exact h1
  have ndP:ps.Nodup:=by rw[<- S.pre];exact S.nd.sublist (take_sublist _ _)
  refine⟨u,rv,?_⟩
  rcases S.par y (wg hp) with k |k
  ·exact .inl ⟨k,VS ndP hp hu k⟩
  ·obtain ⟨c, e⟩ := Jo (n := s.heap.objs.size + 1) k;refine .inr ⟨.inl k,c,e,?_⟩;have q:=x.cell y c e
   rw[VU ndP hp hu (by show scope.names.lookup y≠_;rw[k];decide)] at q
   exact q
 ·exact e0.hok.fresh (xJ (x.above y c (PySem.mem_of_lookup h)))
 ·unfold start;show _=N.length;rw[zA,zm,wc];lia
def zH2{CX:CXT}{P:Program}{w:World}{K:W.Frag}{mg:Str->Option Value}{base:Heap}{k:Nat}{f:Addr}{name qual:Str}{params:Arguments}{body:List Stmt}{scope:Scope}{dV kV doc pm cdv ct oc:Value}{an od:Option Addr}
  {osl:Array (Option Value)}{N ps:List Str}{sp:Sp} (lk:K.lookup f=some ⟨oc,od,.func (W.fnOf name qual params body scope dV kV doc pm an cdv ct),osl⟩) (hcd:W.codeIn K cdv qual=true) (S:FnScope N ps scope)
  (len:∀vs H Q E,sp vs H Q E->vs.length=ps.length)
  (hbody : ∀ (A : Around) (outer : List Env) (s : Shared) (H : Hp) (vs : List V) (Q : VK) (E : XK), Room k (A.deeper (envOfC qual scope s.heap.objs.size f cdv)) -> sp vs H Q E ->
   ∃t,PSs (Wy CX P w K mg base N qual scope f cdv A outer s H E) body t/\t { nx:=λ_ H'=>Q .non H',rt:=Q } (start N vs) H) :
  FnOk P w K mg base CX (k+1) f (W.fnOf name qual params body scope dV kV doc pm an cdv ct) ps sp:=by
 refine⟨len,λA outer s H args us vs Q E hr e0 hb r hsp=>?_⟩;have hl:=len _ _ _ _ hsp;have KX:K.In s.heap:=e0.mod.kin.keeps λb o e=>(e0.bs b o e).1;have lim:s.heap.NoLimit:=e0.mod.nolimit.keeps λb o e=>(e0.bs b o e).1
 have hkind:∀y∈ps.zip us,scope.names.lookup y.1=some .local\/(scope.names.lookup y.1=some .cell/\((cellsFrom (s.heap.objs.size+1) scope.names []).lookup y.1).isSome=true):=fun⟨n,v⟩ hy=>by
  rcases S.par n (of_mem_zip hy).1 with q |q
  ·exact .inl q
  ·exact .inr ⟨q,W.cellsFrom_some _ _ _ (.inl q)⟩
 refine codeAny_call_function hr.depth (KX _ _ lk) rfl S.co S.gen rfl (W.codeRec_of KX hcd) (hb _ _ _ _ ?_);refine wpAny_newFunctionEnv_cells S.kind hkind λenv he s1 x=>?_;subst he;refine⟨lim.keeps x.toInCall.keep,codeAny_func ?_⟩;obtain⟨t,ht,hq⟩:=hbody A outer s H vs Q E (hr.deeper _) hsp;have I:Inv (Wy CX P w K mg base N qual scope f cdv A outer s H E) [] (start N vs) H s1:=VD S hr.hd e0 hl r x;refine xT (ht [] s1 (start N vs) H _ I hq) (λfl s' hs=>?_) λe s' hs=>hs
 have fin:∀{σ':St}{H':Hp}{v:V}{u:Value},Inv (Wy CX P w K mg base N qual scope f cdv A outer s H E) [] σ' H' s'->RelV v u->Q v H'->CE outer P w H s Q u s':=
  λ{σ' H' v u} J rv q=>⟨v,H',J.os,J.bare,J.base,J.hok,rv,q⟩
 cases fl with
 |ret u=>
  obtain⟨v,σ',H',J,rv,q⟩:=hs;exact fin J rv q
 |next=>
  obtain⟨σ',H',J,q⟩:=hs;exact fin (v:=V.non) (u:=Value.none) J rfl q
 |brk=>
  obtain⟨_,_,_,q⟩:=hs;exact False.elim q
 |cont=>
  obtain⟨_,_,_,q⟩:=hs;exact False.elim q
section
variable {X:Cx}{x:Str}{p pos:Pos}{e:Expr}{es:List Expr}{t:TA}{id T:String}{r:List V->Hp->VK->Prop}
def tCB(r:List V->Hp->VK->Prop)(t:TA):TE:=λσ H Q=>t σ H λvs H1=>r vs H1 Q
def jR(hc:qd X (.builtin id) r)(hg:Gl X x)(hm:X.mg x=none)(hv:bootBuiltins x=some (.builtin id))(ha:PA X (e::es) t)(hn:x ≠ "__name__" := by decide)(hdb:(x == ("__debug__" : Str))=false:=by decide)
  (he:starEach (e::es) X.env=(false,eval e X.env)::starEach es X.env:=by rfl) (hpl:(backTo pos (starEach es X.env)).any (·.1)=false:=by rfl):PE X (.Call (.Name x p) (e::es) [] pos) (tCB r t):=by
 intro pins s σ H Q I h;refine wz (Vy I hg hm hv ?_ hn hdb);exact PyProof.Rows.callWith_builtin1 (thn (ha pos pins s σ H _ I h) λus s1 ⟨vs,H1,I1,r1,q1⟩=>hc pins s1 σ H1 vs us Q I1 r1 q1) he hpl
def Ve(hc:qd X (.type T) r)(hg:Gl X x)(hm:X.mg x=none)(hv:bootBuiltins x=some (.type T))(ha:PA X (e::es) t)(hn:x ≠ "__name__" := by decide)(hdb:(x == ("__debug__" : Str))=false:=by decide)
  (he:starEach (e::es) X.env=(false,eval e X.env)::starEach es X.env:=by rfl) (hpl:(backTo pos (starEach es X.env)).any (·.1)=false:=by rfl):PE X (.Call (.Name x p) (e::es) [] pos) (tCB r t):=by
 intro pins s σ H Q I h;refine wz (Vy I hg hm hv ?_ hn hdb);exact PyProof.Rows.callWith_type1 (thn (ha pos pins s σ H _ I h) λus s1 ⟨vs,H1,I1,r1,q1⟩=>hc pins s1 σ H1 vs us Q I1 r1 q1) he hpl
end
end L2
namespace HT
open PySem PyProof.Rows
def kU:List Int->List Int->Bool
 |[],[]=>false
 |[],_::_=>true
 |_::_,[]=>false
 |x::xs,y::ys=>if x=y then kU xs ys else decide (x<y)
def kT(x y:Int)(xs ys:List Int):kU (x::xs) (y::ys)=if x=y then kU xs ys else decide (x<y):=rfl
def Wh:kU [] []=false:=rfl
def Xh(y:Int)(ys:List Int):kU [] (y::ys)=true:=rfl
def Xi(x:Int)(xs:List Int):kU (x::xs) []=false:=rfl
def zs1(A:Around)(s:Shared)(a:Int)(t:Tok)(c:Int)(u:Tok):∃e,SeqAt.EqAt A s (.int a t) (.int c u) e/\(e=true↔a=c):=
 ⟨(a == c),SeqAt.EqAt.int_int a t c u,by simp⟩
def zm6(A:Around)(s:Shared)(a:Int)(t:Tok)(c:Int)(u:Tok)(prog:Program)(w:World)(E:Value->Shared->Prop)(Q:Value->Shared->Prop)(h:Q (.bool (decide (a<c))) s) :
  wpAny (model prog w) A (richCompare .Lt (.int a t) (.int c u)) Q E s:=
 (PyProof.Rows.lt_int h:wpAny (model prog w) A (compareOp .Lt (.int a t) (.int c u)) Q E s)
section
open PySem.SeqAt
open PySem.AutoSeq1 (wpAny_loadPart')
open PySem.MeetsSeq PySem.MeetsSeq2 PySem.MeetsSeq3
def XC(l b:Addr)(items items2:Array Value)(n n2:Nat)(dd dd2:Option Addr)(sl sl2:Array (Option Value))(ns ms:List Int)(hi:IntsAre items.toList ns)(hj:IntsAre items2.toList ms) :
  Meets (Builtin.«tuple.__lt__» ⟨[.ref l,.ref b],[]⟩)
   (λ_ R s => s.heap.get? l = some { cls := .type "tuple", dict := dd, data := .seq items n, slots := sl } /\ s.heap.get? b = some { cls := .type "tuple", dict := dd2, data := .seq items2 n2, slots := sl2 } /\
    R (.ok (.ret (.bool (kU ns ms)))) s):=
 .of_wp λprog w A R s h=>by
  obtain⟨hp,g,d,tk,os⟩:=s;obtain⟨hl,hb,h⟩:=h;have f2:=AutoSeq1.sub_tuple_tuple
  have z1:items.size=ns.length:=by rw[<- hi.length];simp
  have z2:items2.size=ms.length:=by rw[<- hj.length];simp
  wp_walk using wpAny_loadPart' hl,wpAny_loadPart' hb,wpAny_forIn_list _ (λrest b s'=>b.1=none/\s'=⟨hp,g,d,tk,os⟩/\∃(vs ws:List Value) (ns' ms':List Int),rest=vs.zip ws /\
   IntsAre vs ns'/\IntsAre ws ms'/\ns'.length+items2.size=ms'.length+items.size/\R (.ok (.ret (.bool (kU ns' ms')))) ⟨hp,g,d,tk,os⟩) _
  case turn=>
   rintro⟨y,x⟩ rest b s' ⟨hb',rfl,vs,ws,ns',ms',hz,hvi,hwi,hlen,hR⟩
   cases hvi with
   |nil=>rw[List.zip_nil_left] at hz;cases hz
   | cons a t hvi' =>
    cases hwi with
    |nil=>rw[List.zip_nil_right] at hz;cases hz
    | cons c u hwi' =>
     rw[ym] at hz;injection hz with hyx hrest;injection hyx with hy hx;subst hy hx;rw[kT] at hR;simp only[zt] at hlen;obtain⟨e,he,hiff⟩:=zs1 A.in1 ⟨hp,g,d,tk,os⟩ a t c u;refine zb (he prog w _ _ ?_)
     cases e with
     |true=>
      rw[if_pos (hiff.mp rfl)] at hR
      wp_walk
      exact⟨rfl,rfl,_,_,_,_,hrest,hvi',hwi',q5,hR⟩
     |false=>
      rw[if_neg (λq=>absurd (hiff.mpr q) zT)] at hR;have hri:=zm6 A.in1 ⟨hp,g,d,tk,os⟩ a t c u prog w
      wp_walk using hri
      exact⟨_,rfl,by simpa using hR⟩
  case fin=>
   rintro⟨b1,b2⟩ s' ⟨hb',rfl,vs,ws,ns',ms',hz,hvi,hwi,hlen,hR⟩;simp only at hb';subst hb'
   have hv:kU ns' ms'=decide (items.size<items2.size):=by
    cases hvi with
    | nil =>
     cases hwi with
     |nil=>
      simp only[ya] at hlen;rw[Wh]
      exact(zW q5).symm
     |cons c u hw=>
      simp only[ya,zt] at hlen;rw[Xh]
      exact(xv q5).symm
    | cons a t hv =>
     cases hwi with
     |nil=>
      simp only[ya,zt] at hlen;rw[Xi]
      exact(zW q5).symm
     |cons c u hw=>
      rw[ym] at hz;cases hz
   rw[hv] at hR
   wp_walk
   exact⟨_,rfl,by simpa [Builtin.Tuple.tupleCompareSizes] using hR⟩
  case h=>
   exact⟨rfl,rfl,items.toList,items2.toList,ns,ms,rfl,hi,hj,q5,h⟩
end
section
variable {prog:Program}{w:World}{A:Around}{E:Value->Shared->Prop}{s:Shared}
def JR{l b:Addr}{items items2:Array Value}{ns ms:List Int}{Q:Value->Shared->Prop}(hl:IsTup s.heap l items)(hb:IsTup s.heap b items2)(hi:IntsAre items.toList ns)(hj:IntsAre items2.toList ms)
  (hu:A.units<cLine) (h:Q (.bool (kU ns ms)) s):wpAny (model prog w) A (compareOp .Lt (.ref l) (.ref b)) Q E s:=by
 obtain⟨⟨cls,dd,data,sl⟩,ho,hc,n,hd⟩:=id hl;obtain⟨⟨cls2,dd2,data2,sl2⟩,ho2,hc2,n2,hd2⟩:=id hb;simp only at hc hd hc2 hd2;subst hc hd hc2 hd2
 exact richCompare_meets_room (op:=.Lt) ⟨_,ho,rfl⟩ ⟨_,ho2,rfl⟩ PySem.F.slot_tuple_lt PySem.F.entry_tuple_lt (PySem.F.args_tuple_lt_2 _ _) (XC l b items items2 n n2 dd dd2 sl sl2 ns ms hi hj)
  ⟨ho,ho2,show Value.bool (kU ns ms)≠Value.notImplemented/\Q (.bool (kU ns ms)) s from⟨(λx=>nomatch x),h⟩⟩ hu
def zI8{t b:Addr}{vs ws:List Value}{Q:Value->Shared->Prop}(ht:IsTup s.heap t vs.toArray)(hb:IsTup s.heap b ws.toArray)(hv:vs≠[])
  (h1:ws=[]->Q (.ref t) s) (h2:ws≠[]->Q (.ref s.heap.objs.size) { s with heap:=s.heap.push { cls:=.type "tuple",data:=.seq (vs++ws).toArray } })
  (hsz:vs.length+ws.length<=sizeLine):wpAny (model prog w) A (binaryOp .Add (.ref t) (.ref b)) Q E s:=by
 obtain⟨⟨cls,dd,data,sl⟩,ho,hc,n,hd⟩:=id ht;obtain⟨⟨cls2,dd2,data2,sl2⟩,ho2,hc2,n2,hd2⟩:=id hb;simp only at hc hd hc2 hd2;subst hc hd hc2 hd2
 have e:vs.toArray++ws.toArray=(vs++ws).toArray:=by simp
 by_cases hw:ws=[]
 ·exact concat_meets ⟨_,ho,rfl⟩ ⟨_,ho2,rfl⟩ noFill_tuple_add seq_tuple_add PySem.F.slot_tuple_add PySem.F.entry_tuple_add (PySem.F.args_tuple_add_2 _ _)
   (tuple_addW1 t b vs.toArray ws.toArray n n2 dd dd2 sl sl2 (by simpa using hv) (by simp[hw])) ⟨ho,ho2,h1 hw⟩
 ·refine concat_meets ⟨_, ho, rfl⟩ ⟨_, ho2, rfl⟩ noFill_tuple_add seq_tuple_add PySem.F.slot_tuple_add PySem.F.entry_tuple_add (PySem.F.args_tuple_add_2 _ _)
   (tuple_addW2 t b vs.toArray ws.toArray n n2 dd dd2 sl sl2 (by simpa using hv) (by simpa using hw) (by rw[zJ,zJ];exact hsz)) ⟨ho,ho2,?_⟩
  rw[e];exact h2 hw
def sIx(n d:Nat):Option Int->Nat
 |none=>d
 |some v=>if v<0 then(v+(n:Int)).toNat else min v.toNat n
def Ku(n d:Nat):sIx n d none=d:=rfl
def QS(n d k:Nat):sIx n d (some (k:Int))=min k n:=by
 show(if (k:Int)<0 then((k:Int)+(n:Int)).toNat else min (k:Int).toNat n)=min k n
 rw[if_neg q5,Int.toNat_natCast]
def zM2(n d:Nat)(hd:d<=n)(o:Option Int):sIx n d o<=n:=by
 cases o with
 |none=>exact hd
 |some v=>
  show(if v<0 then(v+(n:Int)).toNat else min v.toNat n)<=n
  by_cases hv:v<0
  ·rw[if_pos hv];lia
  ·rw[if_neg hv];exact Nat.min_le_right _ _
def zi2(v:Int)(n d:Nat):(if v<0 then max (v+(n:Int)) 0 else min v (n:Int))=((sIx n d (some v):Nat):Int):=by
 show(if v<0 then max (v+(n:Int)) 0 else min v (n:Int))=(((if v<0 then(v+(n:Int)).toNat else min v.toNat n):Nat):Int)
 by_cases hv:v<0
 ·simp only[if_pos hv];lia
 ·simp only[if_neg hv];lia
def Qj(lo hi:Option Int)(n:Nat):Builtin.Slice.sliceAdjust lo hi 1 (n:Int)=(((sIx n 0 lo:Nat):Int),((sIx n n hi:Nat):Int)):=by
 have h1:¬ ((1:Int)<0):=q5
 unfold Builtin.Slice.sliceAdjust;simp only[h1,if_false];refine Prod.ext ?_ ?_
 ·cases lo with
  |none=>rfl
  |some v=>exact zi2 v n 0
 ·cases hi with
  |none=>rfl
  |some v=>exact zi2 v n n
def JA(i j:Nat):Builtin.Slice.slicePlaces (i:Int) (j:Int) 1=j-i:=by
 unfold Builtin.Slice.slicePlaces
 have h1:(1:Int) > 0:=q5
 simp only[h1,if_true,Int.ediv_one]
 split<;>lia
def Xn{v:Value}{o:Option Int}{Q:Option Int->Shared->Prop}(p:IsPart v o)(h:Q o s):wpAny (model prog w) A (Builtin.Slice.slicePartIndex v) Q E s:=by
 cases p with
 |none=>exact slicePart_none h
 |int i t=>exact slicePart_int h
def qw{sl:Addr}{vl vu:Value}{lo hi:Option Int}{n:Nat}{Q:Int × Int × Nat->Shared->Prop}(hs:s.heap.IsSliceOf sl vl vu .none)(pl:IsPart vl lo)(pu:IsPart vu hi)
  (h:Q (((sIx n 0 lo:Nat):Int),1,sIx n n hi-sIx n 0 lo) s):wpAny (model prog w) A (Builtin.Slice.sliceApplied (.ref sl) (pure (n:Int))) Q E s:=by
 obtain⟨os,hos,hcs,hds⟩:=id hs;unfold Builtin.Slice.sliceApplied Builtin.Slice.sliceFields;refine zb (zb (wpAny_field hos hds (x:=vl) rfl (zb (wpAny_field hos hds (x:=vu) rfl (zb (wpAny_field hos hds (x:=.none) rfl (zg ?_)))))));refine zb (slicePart_none ?_)
 show wpAny _ _ (if ((1:Int) == 0)=true then _ else _) _ _ s
 rw[if_neg q9]
 refine zb (Xn pl (zb (Xn pu (zb (zg ?_)))))
 show wpAny _ _ (match Builtin.Slice.sliceAdjust lo hi 1 (n:Int) with |(lo,hi)=>pure (lo,(1:Int),Builtin.Slice.slicePlaces lo hi 1)) _ _ s
 rw[Qj lo hi n];show wpAny _ _ (pure (((sIx n 0 lo:Nat):Int),(1:Int),Builtin.Slice.slicePlaces ((sIx n 0 lo:Nat):Int) ((sIx n n hi:Nat):Int) 1)) _ _ s;rw[JA];exact zg h
def zn7(xs:Array Value)(i k:Nat):((List.range k).filterMap fun(m:Nat)=>xs[((i:Int)+(m:Int)*1).toNat]?).toArray=((xs.toList.drop i).take k).toArray:=by
 have e:(fun(m:Nat)=>xs[((i:Int)+(m:Int)*1).toNat]?)=λm=>xs[i+m]?:=by
  funext m
  have:((i:Int)+(m:Int)*1).toNat=i+m:=q5
  rw[this]
 rw[e];have:=pick_run xs i k;rw[List.filterMap_map] at this;have e2:((λx=>xs[x]?)∘λx=>i+x)=λm=>xs[i+m]?:=rfl;rw[e2] at this;rw[this]
def Zs{t sl:Addr}{items:Array Value}{vl vu:Value}{lo hi:Option Int}{Q:Value->Shared->Prop}(ht:IsTup s.heap t items)(hs:s.heap.IsSliceOf sl vl vu .none)(pl:IsPart vl lo)(pu:IsPart vu hi)
  (hw:¬ (sIx items.size 0 lo=0/\sIx items.size items.size hi=items.size))
  (h:Q (.ref s.heap.objs.size) { s with heap:=s.heap.push { cls:=.type "tuple",data:=.seq ((items.toList.drop (sIx items.size 0 lo)).take (sIx items.size items.size hi-sIx items.size 0 lo)).toArray } })
  (hsz:items.size<=sizeLine):wpAny (model prog w) A (getItem (.ref t) (.ref sl)) Q E s:=by
 have htake:sizeOk (.seq ((items.toList.drop (sIx items.size 0 lo)).take (sIx items.size items.size hi-sIx items.size 0 lo)).toArray):=by
  show((items.toList.drop (sIx items.size 0 lo)).take (sIx items.size items.size hi-sIx items.size 0 lo)).toArray.size<=sizeLine;rw[zJ,xk,wB,zf];lia
 have hj:sIx items.size items.size hi<=items.size:=zM2 _ _ (zj _) hi;obtain⟨os,hos,hcs,hds⟩:=id hs;have hTs:s.TypeIs (.ref sl) "slice" := ⟨os,hos,hcs⟩;unfold getItem
 try with_reducible refine wm ?_
 first |refine zb (zg ?_) |skip
 refine zb (wpAny_sequenceKey ht.typeIs q9 ?_)
 refine zb (wpAny_callSpecial?_slot (name:=Str.ofString "__getitem__") ht.typeIs PyProof.Rows.slot_tuple_getitem
  (wpAny_call_entry PyProof.Rows.slot_tuple_getitem ht.typeIs entry_tuple_getitem ?_ (args_tuple_getitem _ _)))
 show wpAny _ _ (Builtin.Tuple.tupleItemsOf (.ref t) >>= _) _ _ s;refine zb (tupleItemsOf_ ht ?_);refine zb (wpAny_typeOf hTs ?_)
 rw[if_pos q9]
 refine zb (qw hs pl pu ?_)
 have hno:¬ ((((sIx items.size 0 lo:Nat):Int) == 0&&(1:Int) == 1&&(sIx items.size items.size hi-sIx items.size 0 lo) == items.size)=true):=by
  intro q;rw[xg,xg] at q;have q1:((sIx items.size 0 lo:Nat):Int)=0:=eq_of_beq q.1.1;have q2:sIx items.size items.size hi-sIx items.size 0 lo=items.size:=eq_of_beq q.2
  exact hw ⟨q5,q5⟩
 show wpAny _ _ (if (((sIx items.size 0 lo:Nat):Int) == 0&&(1:Int) == 1&&(sIx items.size items.size hi-sIx items.size 0 lo) == items.size)=true then _ else _) _ _ s
 rw[if_neg hno,zn7]
 first
  |exact zb (m:=Builtin.Tuple.tupleExact _) (wa (zg ⟨_,rfl,zg h⟩) htake)
  |exact zb (m:=Builtin.Tuple.tupleExact _) (wa (zb (zg (zg ⟨_,rfl,zg h⟩))) htake)
  |exact zb (zb (m:=Builtin.Tuple.tupleExact _) (wa (zg (zg ⟨_,rfl,zg h⟩)) htake))
  |exact zb (zb (m:=Builtin.Tuple.tupleExact _) (wa (zg ⟨_,rfl,zg h⟩) htake))
end
end HT
namespace L2
abbrev TO:=St->Hp->(Option Int->Hp->Prop)->Prop
def PO(X:Cx)(e:Option Expr)(t:TO):Prop:=
 ∀(pins:List (Addr × Obj)) (s:Shared) (σ:St) (H:Hp) (Q:Option Int->Hp->Prop),Inv X pins σ H s->t σ H Q ->
  wpAny (model X.prog X.w) X.A (evalPart e X.env) (λu s'=>∃o H',Inv X pins σ H' s'/\IsPart u o/\Q o H') X.xe s
def zy9:TO:=λ_ H Q=>Q none H
def zY8(t:TE):TO:=λσ H Q=>t σ H λx H1=>∃i,x=.int i/\Q (some i) H1
def qU{ns:List Int}:∀{us:List Value},Vals (ns.map V.int) us->IntsAre us ns:=by
 induction ns with
 |nil=>intro us r;rw[xM] at r;cases r;exact .nil
 | cons n ns ih =>
  intro us r;rw[zu] at r
  cases r with
  |cons r1 r2=>
   obtain⟨t,e⟩:=r1;subst e;exact .cons n t (ih r2)
section
variable {X:Cx}{e:Expr}{te:TE}{lo hi:Option Expr}{tl th:TO}{pos p2:Pos}
def zC4:PO X none zy9:=by
 intro pins s σ H Q I h;rw[evalPart_none];exact zg ⟨none,H,I,.none,h⟩
def zC3(h:PE X e te):PO X (some e) (zY8 te):=by
 intro pins s σ H Q I hw;rw[evalPart_some];refine thn (h pins s σ H _ I hw) λu s1 ⟨x,H1,I1,r1,q1⟩=>?_;obtain⟨i,rfl,q⟩:=q1;obtain⟨t,rfl⟩:=r1;exact⟨some i,H1,I1,.int i t,q⟩
def SlR(X:Cx)(r:V->Option Int->Option Int->Hp->VK->Prop):Prop:=
 ∀(pins:List (Addr × Obj)) (s:Shared) (σ:St) (H:Hp) (x:V) (v vl vu:Value) (lo hi:Option Int) (sl:Addr) (Q:VK),Inv X pins σ H s->RelV x v->s.heap.IsSliceOf sl vl vu .none->IsPart vl lo->IsPart vu hi->r x lo hi H Q ->
  ∃T id,typeLookup (.type T) "__getitem__" = pure (some (.builtin id))/\s.TypeIs v T/\wpAny (model X.prog X.w) X.A (getItem v (.ref sl)) (EP X pins σ Q) X.xe s
def tSl(r:V->Option Int->Option Int->Hp->VK->Prop)(te:TE)(tl th:TO):TE:=λσ H Q=>te σ H λx H1=>tl σ H1 λl H2=>th σ H2 λu H3=>r x l u H3 Q
def zn9{r:V->Option Int->Option Int->Hp->VK->Prop}(hr:SlR X r)(he:PE X e te)(hl:PO X lo tl)(hu:PO X hi th):PE X (.Subscript e (.Slice lo hi none p2) pos) (tSl r te tl th):=by
 intro pins s σ H Q I h;refine Subscript_ (thn (he pins s σ H _ I h) λv s1 ⟨x,H1,I1,r1,q1⟩=>?_);refine wpAny_Slice (thn (hl pins s1 σ H1 _ I1 q1) λvl s2 ⟨l,H2,I2,pl,q2⟩=>thn (hu pins s2 σ H2 _ I2 q2) λvu s3 ⟨u,H3,I3,pu,q3⟩=>?_);rw[evalPart_none];refine zg ?_;have I4:Inv X pins σ H3 { s3 with heap:=s3.heap.push { cls:=.type "slice",data:=.fields #[vl,vu,.none] } }:=I3.kept (t':=s3.toks) λb ob q=>zh _ q;obtain⟨T,id,hT,ht,hg⟩:=hr pins { s3 with heap:=s3.heap.push { cls:=.type "slice",data:=.fields #[vl,vu,.none] } } σ H3 x v vl vu l u s3.heap.objs.size Q I4 r1 (Heap.IsSliceOf.new ..) pl pu q3;show wpAny (model X.prog X.w) X.A (subscriptTail e (.Slice lo hi none p2) v (.ref s3.heap.objs.size)) (EP X pins σ Q) X.xe { s3 with heap:=s3.heap.push { cls:=.type "slice",data:=.fields #[vl,vu,.none] } }
 exact tail_any (ops:=[.ref s3.heap.objs.size,v]) ht hT hg (by with_unfolding_all rfl)
def zI1(xs:List V)(lo hi:Option Int):List V:=(xs.drop (HT.sIx xs.length 0 lo)).take (HT.sIx xs.length xs.length hi-HT.sIx xs.length 0 lo)
def UR(xs:List V)(lo hi:Option Int):(zI1 xs lo hi).length<=xs.length:=by
 unfold zI1;rw[xk,wB];lia
def xp6(K:W.Frag):V->Option Int->Option Int->Hp->VK->Prop:=λx lo hi H Q=>∃a xs,x=.ref a/\SqT K H a xs /\
 ¬ (HT.sIx xs.length 0 lo=0/\HT.sIx xs.length xs.length hi=xs.length)/\∀p,H p=none->Q (.ref p) (upd H p (.tup (zI1 xs lo hi)))
def zL7:SlR X (xp6 X.K):=by
 intro pins s σ H x v vl vu lo hi sl Q I rx hs pl pu h;obtain⟨a,xs,rfl,hx,hw,q⟩:=h;cases rx;obtain⟨its,r,ht,hz⟩:=I.tuple hx
 have hlen:its.toArray.size=xs.length:=by rw[zJ];exact r.length.symm
 refine⟨"tuple",_,PyProof.Rows.slot_tuple_getitem.lookup,ht.typeIs,?_⟩
 refine HT.Zs ht hs pl pu (by rw[hlen];exact hw) ?_ (by rw[hlen];exact hz)
 rw[hlen];refine⟨.ref s.heap.objs.size,_,I.laid (t':=s.toks) (o:=.tup (zI1 xs lo hi)) (λb ob q=>zh _ q) (zj _) ?_,rfl,q _ (I.hok.fresh (zj _))⟩;exact⟨zF (UR xs lo hi) hz,_,(r.drop (HT.sIx xs.length 0 lo)).take (HT.sIx xs.length xs.length hi-HT.sIx xs.length 0 lo),IsTup.new _ _⟩
def xa9(K:W.Frag):R2:=λx y H Q=>∃a b xs ys,x=.ref a/\y=.ref b/\SqT K H a xs/\SqT K H b ys/\xs≠[]/\xs.length+ys.length<=sizeLine /\
 (ys=[]->Q (.ref a) H)/\(ys≠[]->∀p,H p=none->Q (.ref p) (upd H p (.tup (xs++ys))))
def Vals.nil_iff{xs:List V}{us:List Value}(r:Vals xs us):us=[]↔xs=[]:=by
 cases r with
 |nil=>simp
 |cons _ _=>simp
def zE2:OpR X (binaryOp .Add) (xa9 X.K):=by
 intro pins s σ H x y v u Q I rx ry h;obtain⟨a,b,xs,ys,rfl,rfl,ha,hb,hx,hz,q1,q2⟩:=h;cases rx;cases ry;obtain⟨its,r1,p1,_⟩:=I.tuple ha;obtain⟨its2,r2,p2,_⟩:=I.tuple hb
 refine HT.zI8 p1 p2 (λz=>hx (r1.nil_iff.mp z)) (λz=>⟨.ref a,H,I,rfl,q1 (r2.nil_iff.mp z)⟩) (λz=>?_) (by rw[<- r1.length,<- r2.length];exact hz)
 refine⟨.ref s.heap.objs.size,_,I.laid (t':=s.toks) (o:=.tup (xs++ys)) (λb ob q=>zh _ q) (zj _) ?_,rfl,q2 (λw=>z (r2.nil_iff.mpr w)) _ (I.hok.fresh (zj _))⟩
 exact⟨by rw[zA];exact hz,_,r1.append r2,IsTup.new _ _⟩
end
def ixN(n:Nat)(i:Int):Option Nat:=if 0<=i then(if i<n then some i.toNat else none) else if -(n:Int)<=i then some (i+n).toNat else none
def atI{α:Type}(xs:List α)(i:Int):Option α:=(ixN xs.length i).bind λj=>xs[j]?
def ze4{n:Nat}{i:Int}{j:Nat}(h:ixN n i=some j):seqIndex? i n=some j/\j<n/\-(n:Int)<=i/\i<n:=by
 unfold ixN at h
 by_cases h0:0<=i
 ·rw [if_pos h0] at h
  by_cases h1:i<n
  ·rw [if_pos h1] at h;have e:i.toNat=j:=zy h
   exact⟨by rw[seqIndex_of h0 h1,e],q5,q5,h1⟩
  ·rw[if_neg h1] at h;cases h
 ·rw [if_neg h0] at h
  by_cases h1:-(n:Int)<=i
  ·rw [if_pos h1] at h;have e:(i+n).toNat=j:=zy h
   exact⟨by rw[seqIndex_neg q5 h1,e],q5,h1,q5⟩
  ·rw[if_neg h1] at h;cases h
def Kc{α:Type}{xs:List α}{i:Int}{v:α}(h:atI xs i=some v):∃j,seqIndex? i xs.length=some j/\xs[j]?=some v/\j<xs.length/\-(xs.length:Int)<=i/\i<xs.length:=by
 unfold atI at h
 cases e:ixN xs.length i with
 |none=>rw[e] at h;cases h
 |some j=>
  rw[e] at h;obtain⟨h1,h2,h3,h4⟩:=ze4 e;exact⟨j,h1,h,h2,h3,h4⟩
def YX{α:Type}{xs:List α}{j:Nat}{v:α}(h:xs[j]?=some v):atI xs (j:Int)=some v:=by
 have hj:j<xs.length:=(zN.mp h).1
 have e:ixN xs.length (j:Int)=some j:=by
  unfold ixN
  rw[if_pos q5,if_pos q5];simp
 unfold atI;rw[e];exact h
def Kd(b:Expr):Prop:=∀o i,subscripted b false o i=operate [o,i] (getItem o i)
def IxR(X:Cx)(r:R2):Prop:=
 ∀(value slice:Expr) (pins:List (Addr × Obj)) (s:Shared) (σ:St) (H:Hp) (x y:V) (v u:Value) (Q:VK),Inv X pins σ H s->RelV x v->RelV y u->r x y H Q ->
  subscripted slice false v u=operate [v,u] (getItem v u)->wpAny (model X.prog X.w) X.A (subscriptTail value slice v u) (EP X pins σ Q) X.xe s
def MtR(X:Cx)(id:String)(r:V->List V->Hp->VK->Prop):Prop:=
 ∀(pins:List (Addr × Obj)) (s:Shared) (σ:St) (H:Hp) (x:V) (xs:List V) (v:Value) (us:List Value) (Q:VK),Inv X pins σ H s->RelV x v->Vals xs us->r x xs H Q ->
  wpAny (model X.prog X.w) X.A (call (.builtin id) (v::us)) (EP X pins σ Q) X.xe s
section
variable {X:Cx}{a b:Expr}{ta tb:TE}{pos:Pos}
def IxR.or{r r':R2}(h:IxR X r)(h':IxR X r'):IxR X (λx y H Q=>r x y H Q\/r' x y H Q):=by
 intro value slice pins s σ H x y v u Q I rx ry q hs
 rcases q with q |q
 ·exact h value slice pins s σ H x y v u Q I rx ry q hs
 ·exact h' value slice pins s σ H x y v u Q I rx ry q hs
def zP4{r:R2}(hr:IxR X r)(ha:PE X a ta)(hb:PE X b tb)(hs:Kd b):PE X (.Subscript a b pos) (tOp r ta tb):=by
 intro pins s σ H Q I h;exact Subscript_ (xi1 ha hb I h λv u s2 x y H2 I2 rx ry q=>hr a b pins s2 σ H2 x y v u Q I2 rx ry q (hs _ _))
def xj3(K:W.Frag):R2:=λx y H Q=>∃p xs i v,x=.ref p/\y=.int i/\SqL K H p xs/\atI xs i=some v/\Q v H
def xj1(K:W.Frag):R2:=λx y H Q=>∃p xs i v,x=.ref p/\y=.int i/\SqT K H p xs/\atI xs i=some v/\Q v H
def xj2:R2:=λx y H Q=>∃z i c,x=.str z/\y=.int i/\z.length<=sizeLine/\atI z.cps.toList i=some c/\Q (.str ⟨#[c]⟩) H
def ze3:IxR X (xj3 X.K):=by
 intro value slice pins s σ H x y v u Q I rx ry h hs;obtain⟨p,xs,i,z,rfl,rfl,hq,he,q⟩:=h;cases rx;obtain⟨t,rfl⟩:=ry;obtain⟨its,r,pl,hz⟩:=I.list hq;obtain⟨j,h1,h2,h3,h4,h5⟩:=Kc he;obtain⟨w,ew,rw'⟩:=r.get h2;have hl:=r.length;have hn:=Vw;have fin:EP X pins σ Q w s:=⟨z,H,I,rw',q⟩
 by_cases h0:0<=i
 ·have hj : i.toNat = j := by
   rw[seqIndex_of h0 h5] at h1;exact zy h1
  exact item_listR pl.isList h0 q5 (by rw[hj];simpa using ew) fin hs
 ·have hj : (i + (its.toArray.size : Int)).toNat = j := by
   rw[seqIndex_neg q5 h4] at h1
   rw[zJ,<- hl];exact zy h1
  exact subscriptTail_builtinR (x:=w) pl.isList.typeIs slot_list_getitem.lookup
   (wpAny_getItem_list_neg (Q:=λr s'=>r=w/\EP X pins σ Q r s') pl.isList q5 (by rw[zJ]<;>lia) q5 (by rw[hj];simpa using ew) ⟨rfl,fin⟩) hs
def zT4:IxR X (xj1 X.K):=by
 intro value slice pins s σ H x y v u Q I rx ry h hs;obtain⟨p,xs,i,z,rfl,rfl,hq,he,q⟩:=h;cases rx;obtain⟨t,rfl⟩:=ry;obtain⟨its,r,pl,hz⟩:=I.tuple hq;obtain⟨j,h1,h2,h3,h4,h5⟩:=Kc he;obtain⟨w,ew,rw'⟩:=r.get h2;have hl:=r.length;have hn:=Vw;have fin:EP X pins σ Q w s:=⟨z,H,I,rw',q⟩
 exact subscriptTail_builtinR (x:=w) pl.typeIs slot_tuple_getitem.lookup
  (getItem_tuple (j:=j) (Q:=λr s'=>r=w/\EP X pins σ Q r s') pl q5 q5 (by rw[zJ,<- hl];exact h1) (by simpa using ew) ⟨rfl,fin⟩) hs
def zT5:IxR X xj2:=by
 intro value slice pins s σ H x y v u Q I rx ry h hs;obtain⟨z,i,c,rfl,rfl,hz,he,q⟩:=h;obtain⟨t,rfl⟩:=rx;obtain⟨t',rfl⟩:=ry;obtain⟨j,h1,h2,h3,h4,h5⟩:=Kc he
 have hl:z.cps.toList.length=z.length:=by simp[Str.length]
 rw[hl] at h1 h4 h5;have hn:=Vw
 exact tail_any (typeIs_str s z t) slot_str_getitem.lookup (getItem_str (c:=c) (by
  have e1:decide (i < -(2^63:Int))=false:=zW q5
  have e2:decide (i>=2^63)=false:=zW q5
  rw[e1,e2,Bool.or_false]) (by rw[h1];simpa using h2) ⟨.str ⟨#[c]⟩,H,I.tok _,⟨_,rfl⟩,q⟩) hs
def rIx(K:W.Frag):R2:=λx y H Q=>xj3 K x y H Q\/xj1 K x y H Q\/xj2 x y H Q
def kW:IxR X (rIx X.K):=ze3.or (zT4.or zT5)
def JO(its:List Value)(n j:Nat)(u:Value):Obj.mapSeq (·.setIfInBounds j u) { cls:=.type "list",data:=.seq its.toArray n }={ cls:=.type "list",data:=.seq (its.set j u).toArray n }:=by
 simp[Obj.mapSeq]
def Inv.lst{pins:List (Addr × Obj)}{σ:St}{H:Hp}{s:Shared}{p:Addr}{xs:List V}(I:Inv X pins σ H s)(h:H p=some (.lst xs)) :
  ∃(its:List Value) (n:Nat),Vals xs its/\s.heap.get? p=some { cls:=.type "list",data:=.seq its.toArray n }/\xs.length<=sizeLine:=by
 obtain⟨z,its,n,r,e⟩:=I.hok p _ h;exact⟨its,n,r,e,z⟩
def Inv.lstUpd{pins:List (Addr × Obj)}{σ:St}{H:Hp}{s:Shared}{p:Addr}{xs ys:List V}{its its':List Value}{n n':Nat}{f:Obj->Obj}(I:Inv X pins σ H s)(h:H p=some (.lst xs))
  (ho:s.heap.get? p=some { cls:=.type "list",data:=.seq its.toArray n }) (hf:f { cls:=.type "list",data:=.seq its.toArray n }={ cls:=.type "list",data:=.seq its'.toArray n' }) (r:Vals ys its') (hz:ys.length<=sizeLine) (t:Nat) :
  Inv X pins σ (upd H p (.lst ys)) { s with heap:=s.heap.update p f,toks:=t }:=by
 have e:(s.heap.update p f).get? p=some { cls:=.type "list",data:=.seq its'.toArray n' }:=by
  rw[Heap.get?_update_self f ho (by rw[hf]<;>rfl),hf]
 refine I.write (x:=p) (e:=p) (by rw[h];trivial) (.inl rfl) (λb u hb q=>(Heap.get?_update_other _ _ (Ne.symm hb)).trans q) ⟨_,e⟩ ?_
 exact⟨hz,its',n',r,e⟩
def xa7:V->V->V->Hp->(Hp->Prop)->Prop:=λo i v H Q=>∃p xs k j,o=.ref p/\i=.int k/\H p=some (.lst xs)/\ixN xs.length k=some j/\Q (upd H p (.lst (xs.set j v)))
def zl5:xn6 X xa7:=by
 intro pins s σ H o i v ov iv u Q I ro ri rv h;obtain⟨p,xs,k,j,rfl,rfl,hp,hj,q⟩:=h;cases ro;obtain⟨t,rfl⟩:=ri;obtain⟨its,n,r,ho,hz⟩:=I.lst hp;obtain⟨h1,h2,h3,h4⟩:=ze4 hj;have hl:=r.length;have hn:=Vw
 have I':Inv X pins σ (upd H p (.lst (xs.set j v))) { s with heap:=s.heap.update p (Obj.mapSeq (·.setIfInBounds j u)) }:=
  I.lstUpd hp ho (JO its n j u) (r.set rv j) (by rw[length_set];exact hz) s.toks
 by_cases h0:0<=k
 ·have hk : k.toNat = j := by
   rw[seqIndex_of h0 h4] at h1;exact zy h1
  exact W.ki_setAt ho h0 q5 (by rw[zJ,<- hl];exact h4) (by rw[hk];exact⟨_,I',q⟩)
 ·have hk : (k + (its.toArray.size : Int)).toNat = j := by
   rw[seqIndex_neg q5 h3] at h1
   rw[zJ,<- hl];exact zy h1
  exact W.ki_setBack ho q5 (by rw[zJ,<- hl];exact h3) q5 (by rw[hk];exact⟨_,I',q⟩)
def yc:qd X (.builtin "len") (λxs H Q=>∃p ys,xs=[.ref p]/\(SqL X.K H p ys\/SqT X.K H p ys)/\Q (.int ys.length) H):=by
 intro pins s σ H xs us Q I r h;obtain⟨p,ys,rfl,hq,q⟩:=h;obtain⟨u,rfl,rx⟩:=jG r;cases rx;have hn:=Vw
 rcases hq with hq |hq
 ·obtain ⟨its, r', pl, hz⟩ := I.list hq;have hlen:=r'.length
  exact Calls.call_len_list pl.isList (by simp only[zJ]<;>lia) ⟨.int ys.length,H,I.tok _,⟨s.toks+1,by rw[zJ,hlen]⟩,q⟩
 ·obtain ⟨its, r', pl, hz⟩ := I.tuple hq;have hlen:=r'.length
  exact len_tuple pl (by simp only[zJ]<;>lia) ⟨.int ys.length,H,I.tok _,⟨s.toks+1,by rw[zJ,hlen]⟩,q⟩
def wW:qd X (.type "tuple") (λxs H Q=>∃p ys,xs=[.ref p]/\((SqL X.K H p ys/\∀l,H l=none->Q (.ref l) (upd H l (.tup ys)))\/(SqT X.K H p ys/\Q (.ref p) H))):=by
 intro pins s σ H xs us Q I r h;obtain⟨p,ys,rfl,h⟩:=h;obtain⟨u,rfl,rx⟩:=jG r;cases rx
 rcases h with ⟨hq,q⟩ |⟨hq,q⟩
 ·obtain ⟨its, r', pl, hz⟩ := I.list hq;have hlen:=r'.length
  refine call_tuple_list pl.isList (λh' kp=>?_) (by simp only[zJ]<;>lia)
  have I1:Inv X pins σ H { s with heap:=h' }:=I.kept (t':=s.toks) kp
  have I2:Inv X pins σ (upd H h'.objs.size (.tup ys)) { s with heap:=h'.push { cls:=.type "tuple",data:=.seq its.toArray } }:=
   I1.laid (t':=s.toks) (λb o e=>zh _ e) (zj _) (show ObjOk X.prog X.w _ _ _ (.tup ys) from⟨hz,its,r',IsTup.new _ _⟩)
  exact⟨.ref h'.objs.size,_,I2,rfl,q _ (I1.hok.fresh (zj _))⟩
 ·obtain⟨its,r',pl,hz⟩:=I.tuple hq;exact call_tuple_same pl ⟨.ref p,H,I,rfl,q⟩
def tyV(K:W.Frag)(T:String)(x:V)(H:Hp):Prop:=match x with
 |.str _=>T = "str"
 |.int _=>T = "int"
 | .ref p => (T = "list" /\ ∃ xs, SqL K H p xs) \/ (T = "tuple" /\ ∃ o, K.lookup p = some o /\ o.cls = .type "tuple" /\ o.dict = none) \/
   (T = "dict" /\ ((∃kvs,H p=some (.dK kvs))\/∃kvs,H p=some (.dT kvs)))\/(T = "set" /\ ∃S n,H p=some (.set S n))
 |_=>False
def zt7{pins:List (Addr × Obj)}{σ:St}{H:Hp}{s:Shared}{T:String}{x:V}{v:Value}(I:Inv X pins σ H s)(r:RelV x v)(ty:tyV X.K T x H) :
  s.TypeIs v T/\∀a,v=.ref a->∃ob,s.heap.get? a=some ob/\ob.dict=none:=by
 cases x with
 |str z=>
  obtain⟨t,rfl⟩:=r;cases(show T = "str" from ty)
  exact⟨typeIs_str s z t,λ_ e=>nomatch e⟩
 |int i=>
  obtain⟨t,rfl⟩:=r;cases(show T = "int" from ty)
  exact⟨typeIs_int s i t,λ_ e=>nomatch e⟩
 | ref p =>
  cases r
  rcases ty with ⟨rfl,xs,hq⟩ |⟨rfl,o,hk,hc,hd⟩ |⟨rfl,hk⟩ |⟨rfl,S,n,hk⟩
  ·obtain⟨its,_,pl,_⟩:=I.list hq;refine⟨pl.isList.typeIs,λa e=>?_⟩;cases e;obtain⟨o,n,e,c,hd,_⟩:=pl;exact⟨o,e,hd⟩
  ·refine⟨⟨o,I.kIn p o hk,hc⟩,λa e=>?_⟩;cases e;exact⟨o,I.kIn _ o hk,hd⟩
  ·have z : ∃ o, s.heap.get? p = some o /\ o.ExactDict := by
    rcases hk with ⟨kvs,hk⟩ |⟨kvs,hk⟩
    ·obtain⟨_,_,_,_,o,_,_,e,ex,_⟩:=I.hok p _ hk;exact⟨o,e,ex⟩
    ·obtain⟨_,_,_,_,o,_,_,e,ex,_⟩:=I.hok p _ hk;exact⟨o,e,ex⟩
   obtain⟨o,e,ex⟩:=z;refine⟨⟨o,e,ex.1⟩,λa e2=>?_⟩;cases e2;exact⟨o,e,ex.2.1⟩
  ·obtain⟨o,_,_,_,e,ex,_⟩:=I.hok p _ hk;refine⟨⟨o,e,ex.1⟩,λa e2=>?_⟩;cases e2;exact⟨o,e,ex.2.1⟩
 |_=>exact False.elim ty
def xp0(K:W.Frag)(T:String)(r:V->List V->Hp->VK->Prop)(to:TE):TE:=λσ H Q=>to σ H λx H1=>tyV K T x H1/\r x [] H1 Q
def tBM(K:W.Frag)(T:String)(r:V->List V->Hp->VK->Prop)(to:TE)(t:TA):TE:=λσ H Q=>to σ H λx H1=>tyV K T x H1/\t σ H1 λxs H2=>r x xs H2 Q
variable {o e:Expr}{es:List Expr}{to:TE}{t:TA}{name:Str}{apos cpos:Pos}{T id:String}{r:V->List V->Hp->VK->Prop}
def zP7(pa:PlainAttrs T)(slot:Slot T name id)(hty:typeOf (.builtin id)=pure (.type "method_descriptor"))(hm:MtR X id r)(ho:PE X o to)
  (hbase:attributeBase o name X.env (eval o X.env)=eval o X.env:=by rfl) (hline:(apos.endLine == cpos.line)=true:=by rfl):PE X (.Call (.Attribute o name apos) [] [] cpos) (xp0 X.K T r to):=by
 intro pins s σ H Q I h;refine wpAny_Call_method0_late hbase hline (thn (ho pins s σ H _ I h) λv s1 ⟨x,H1,I1,r1,ty,q1⟩=>?_);obtain⟨h1,h2⟩:=zt7 I1 r1 ty;exact⟨T,id,pa,slot,hty,h1,h2,Calls.callWith_builtin rfl (PySem.evalArgs_none (hm pins s1 σ H1 x [] v [] Q I1 r1 .nil q1))⟩
def zP8(pa:PlainAttrs T)(slot:Slot T name id)(hty:typeOf (.builtin id)=pure (.type "method_descriptor"))(hm:MtR X id r)(ho:PE X o to)(ha:PA X (e::es) t)
  (hbase:attributeBase o name X.env (eval o X.env)=eval o X.env:=by rfl)
  (hfew : ((backTo cpos (starEach (e :: es) X.env)).all (λx => !x.1) && (backToKw cpos (keywordEach [] X.env)).all (λx => x.1.isSome)
   && decide ((e::es).length+([]:List Keyword).length+(if ([]:List Keyword).isEmpty then 0 else 1)<30))=true:=by rfl)
  (hline:(apos.endLine == cpos.line)=true:=by rfl) (hs:starEach (e::es) X.env=(false,eval e X.env)::starEach es X.env:=by rfl) (hplain:(backTo cpos (starEach es X.env)).any (·.1)=false:=by rfl) :
  PE X (.Call (.Attribute o name apos) (e::es) [] cpos) (tBM X.K T r to t):=by
 intro pins s σ H Q I h;refine wpAny_Call_method_late hbase hfew hline rfl (thn (ho pins s σ H _ I h) λv s1 ⟨x,H1,I1,r1,ty,q1⟩=>?_);obtain⟨h1,h2⟩:=zt7 I1 r1 ty;refine⟨T,id,pa,slot,hty,h1,h2,?_⟩;have hA:=ha cpos pins s1 σ H1 _ I1 q1;rw[hs] at hA ⊢
 refine Calls.callWith_builtin (by show(false||(backTo cpos (starEach es X.env)).any (·.1))=false;rw[hplain]<;>rfl) (Calls.evalArgs_plain ?_)
 exact thn hA λus s2 ⟨vs,H2,I2,r2,q2⟩=>hm pins s2 σ H2 x vs v us Q I2 r1 r2 q2
end
section
variable {X:Cx}{pins:List (Addr × Obj)}{σ:St}{H:Hp}{s:Shared}{l b:Addr}{xs ys zs:List V}
def Inv.lnew{its:List Value}{t':Nat}(I:Inv X pins σ H s)(hv:Vals ys its)(hz:ys.length<=sizeLine) :
  Inv X pins σ (upd H s.heap.objs.size (.lst ys)) { s with heap:=s.heap.push { cls:=.type "list",data:=.seq its.toArray },toks:=t' }:=
 I.laid (λ_ _ q=>zh _ q) (zj _) ⟨hz,its,0,hv,zQ _ rfl⟩
def Inv.fresh(I:Inv X pins σ H s):H s.heap.objs.size=none:=I.hok.fresh (zj _)
def Inv.lstM(I:Inv X pins σ H s)(hH:H l=some (.lst xs)):xs.length<=sizeLine/\∃(its:List Value) (n:Nat),Vals xs its/\xs.length=its.length/\s.heap.get? l=some { cls:=.type "list",data:=.seq its.toArray n }:=by
 obtain⟨z,its,n,r,e⟩:=I.hok l _ hH;exact⟨z,its,n,r,r.length,e⟩
end
section
variable {X:Cx}
def xj5:R2:=λx y H Q=>∃l b xs zs,x=.ref l/\y=.ref b/\H l=some (.lst xs)/\H b=some (.lst zs)/\xs.length+zs.length<=sizeLine/\∀p,H p=none->Q (.ref p) (upd H p (.lst (xs++zs)))
def zv8:OpR X (binaryOp .Add) xj5:=by
 intro pins s σ H x y v u Q I rx ry h;obtain⟨l,b,xs,zs,rfl,rfl,hH,hB,hz,q⟩:=h;cases rx;cases ry;obtain⟨z,its,n,r,hl,e⟩:=I.lstM hH;obtain⟨z2,its2,n2,r2,hl2,e2⟩:=I.lstM hB
 refine PySem.P.add_list e e2 ?_ (by rw[zJ,zJ];lia)
 have ea:its.toArray++its2.toArray=(its++its2).toArray:=by simp
 rw[ea]
 exact⟨.ref _,_,I.lnew (t':=s.toks) (r.append r2) (by rw[zA];lia),rfl,q _ I.fresh⟩
end
section
variable {prog:Program}{w:World}{A:Around}{E:Value->Shared->Prop}{s:Shared}
end
section
variable {X:Cx}
end
end L2
namespace Att
open PySem PySem.W PySem.Calls PyProof.Rows
def YN{P:Params}{h:Heap}:∀(ns:List Int) (vs:List Value),WellAll P h vs (ns.map WData.int)->IntsAre vs ns:=by
 intro ns
 induction ns with
 |nil=>
  intro vs w;rw[xM] at w;cases w;exact .nil
 | cons n ns ih =>
  intro vs w;rw[zu] at w
  cases w with
  |cons a b=>
   cases a;exact .cons _ _ (ih _ b)
def QR{l:OpenLaw}{n:Nat}(hn:l.most=some n){P:Params}{h:Heap}{args:List WData}{vals:List Value}
  (hpre:l.row.toRowW.claim.pre args=true) (hwl:WellAll P h vals args) :
  ∃a vs ns,vals=[Value.ref a]/\args=[WData.list (ns.map WData.int)]/\h.get? a=some { cls:=.type "list",data:=.seq vs.toArray }/\IntsAre vs ns/\ns.length<=n:=by
 have hsh:WShape.hasAll [] args [.list .int]=true:=(pre_splitW hpre).1;have hc:l.pre.holds [] { args:=args }=true:=(pre_splitW hpre).2;obtain⟨d,r,rfl,h1,h2⟩:=hasAllW_cons hsh;obtain rfl:=hasAllW_nil h2;obtain⟨xs,rfl,h3⟩:=hasW_list h1;obtain⟨ns,rfl⟩:=items_int h3
 have hlen:ns.length<=n:=by
  unfold OpenLaw.pre at hc
  have h4:(WTm.not (.lt (.lit (.int (n:Int))) (.len (.arg 0)))).holds [] { args:=[.list (ns.map .int)] }=true:=by
   have h4:=(holds_andW hc).1;rw[hn] at h4;exact h4
  have h5:=condW_of h4 (w_not (w_lt w_lit (w_len_list (w_arg rfl))));rw[zm] at h5;refine Nat.le_of_not_lt λq=>?_
  have q':(n:Int)<((ns.length:Nat):Int):=q5
  first
   |(rw[xv q'] at h5;exact absurd h5 q9)
   |(simp at h5;lia)
 cases hwl with
 |cons w1 w2=>
  cases w2
  cases w1 with
  |list ho hall=>exact⟨_,_,ns,rfl,rfl,ho,YN ns _ hall,hlen⟩
def za5(l:OpenLaw)(args:List WData):l.row.toRowW.claim.post args (.bool true) args=true:=
 postW_of (r:=l.row.toRowW) (X:=(true == true))
  (show WShape.has [] (.bool true) .bool=true by first |rfl |decide |simp[WShape.has,WShape.arms,WShape.armsAll])
  (show(WTm.eq .res (.lit (.bool true))).value [] { args:=args,res:=some (.bool true),after:=args }=some (.bool (true == true)) from w_eq_bool (w_res rfl) w_lit) rfl
def attach_call{l:OpenLaw}{n:Nat}{q:Program}{loose:List Str}{XP:(Str->Option Value)->Heap->Prop}{YP:World->Heap->Prop}{d:DefRec}
  (hn:l.most=some n) (hdf:d.params.defaults=[])
  (call : ∀ (w : World) (s₀ s₁ : Shared) (mg mb : Str -> Option Value) (fa : Addr) (o : Obj) (pm cd doc : Value) (a : Addr) (vs : List Value) (ns : List Int),
   Ground q loose [] XP w s₀ mg mb s₁.heap->YP w s₁.heap ->
   s₁.heap.get? fa=some o->o.data=.func (docDef d.name d.params d.body d.scope pm cd doc)->s₁.heap.CodeRec cd d.name->mg d.name=some (.ref fa) ->
   s₁.heap.get? a=some { cls:=.type "list",data:=.seq vs.toArray }->IntsAre vs ns->ns.length<=n->s₁.gens=#[] ->
   codeAny (model l.prog w) callerA (.call (.ref fa) ⟨[.ref a],[]⟩) (λr s'=>r=.ok (.ret (.bool true))/\OldK s₁.heap s'.heap/\s'.os=s₁.os/\AllBare s'.gens) s₁) :
  WalkO q loose XP YP l.row.toRowW d [] (λf vs=>PySem.call f vs):=by
 intro w s₀ s₁ mg mb G Y fa o pm cd doc dV kV ho hd hcd hD hmg hg args vals as hpre hlay hrd hwl hlo;obtain rfl:dV=.none:=Dflts.none hD hdf;obtain rfl:kV=.none:=Dflts.noKw hD;obtain⟨a,vs,ns,rfl,rfl,hobj,hints,hlen⟩:=QR hn hpre hwl;refine enter_call (codeAny_mono (call w s₀ s₁ mg mb fa o pm cd doc a vs ns G Y ho (fd_plain hd) hcd hmg hobj hints hlen hg) λr s' hq=>?_);obtain⟨rfl,h2,h3,h4⟩:=hq
 exact⟨.inl ⟨.bool true,.bool true,[],rfl,λ_=>rfl,.bool true,za5 l _,λ_=>⟨List.Pairwise.nil,λ_ hm=>(nomatch hm)⟩⟩,h2,h3,h4⟩
section
variable {prog:Program}{w:World}{A:Around}{E:Value->Shared->Prop}{s:Shared}{K:Frag}
end
end Att
namespace L2
theorem WB:∀{vs:List Value}{ns:List Int},IntsAre vs ns->Vals (ns.map V.int) vs
 |_,_,.nil=>.nil
 |_,_,.cons n t h=>.cons ⟨t,rfl⟩ (WB h)
def vR(s:Stmt)(j:Nat):Stmt:=match s with
 |.ClassDef _ _ _ body _ _ _ _ _ _ _=>body.getD j (.Pass ⟨0,0,0,0⟩)
 |_=>.Pass ⟨0,0,0,0⟩
def vo(s:Stmt):Arguments:=match s with
 |.FunctionDef _ a _ _ _ _ _ _ _ _=>a
 |_=>{ posonlyargs:=[],args:=[],vararg:=none,kwonlyargs:=[],kw_defaults:=[],kwarg:=none,defaults:=[] }
def yM(s:Stmt):List Stmt:=match s with
 |.FunctionDef _ _ b _ _ _ _ _ _ _=>b
 |_=>[]
def zV(s:Stmt):Scope:=match s with
 |.FunctionDef _ _ _ _ _ _ sc _ _ _=>sc
 |_=>{ kind:=.function,names:=[],isGenerator:=false,isCoroutine:=false }
abbrev CX0:CXT:=λ_ _ _ _ _ _=>False
abbrev E0:XK:=λ_ _ _=>False
def JF{X:Cx}:qZ CX0 X E0:=λ_ _ _ _ _ _ _ h=>h.elim
structure Fun(K:W.Frag)(x qual:Str)(st:Stmt)(f:Addr)(fd:FuncData):Prop where
 ex:∃(oc:Value) (od:Option Addr) (kV doc pm:Value) (an:Option Addr) (cdv ct:Value) (osl:Array (Option Value)),
  fd=W.fnOf x qual (vo st) (yM st) (zV st) .none kV doc pm an cdv ct/\K.lookup f=some ⟨oc,od,.func fd,osl⟩/\W.codeIn K cdv qual=true
 kp:W.keepIn K (.ref f)=true
section
variable {P:Program}{w:World}{K:W.Frag}{mg:Str->Option Value}{base:Heap}
def Fun.ok{x qual:Str}{st:Stmt}{f:Addr}{fd:FuncData}{N ps:List Str}{k:Nat}{sp:Sp}(F:Fun K x qual st f fd)(S:FnScope N ps (zV st))(len:∀vs H Q E,sp vs H Q E->vs.length=ps.length)
  (hbody : ∀ (cdv : Value) (A : Around) (outer : List Env) (s : Shared) (H : Hp) (vs : List V) (Q : VK) (E : XK), Room k (A.deeper (envOfC qual (zV st) s.heap.objs.size f cdv)) -> sp vs H Q E ->
   ∃t,PSs (Wy CX0 P w K mg base N qual (zV st) f cdv A outer s H E).nox (yM st) t/\t { nx:=λ_ H'=>Q .non H',rt:=Q } (start N vs) H):FnOk P w K mg base CX0 (k+1) f fd ps sp:=by
 obtain⟨oc,od,kV,doc,pm,an,cdv,ct,osl,rfl,lk,hcd⟩:=F.ex;refine zH2 lk hcd S len λA outer s H vs Q E hr hsp=>?_;obtain⟨t,h,q⟩:=hbody cdv A outer s H vs Q E hr hsp;exact⟨t,h.nox,q⟩
def Fun.binds{x qual:Str}{st:Stmt}{f:Addr}{fd:FuncData}{ps:List Str}(F:Fun K x qual st f fd)
  (h:∀(kV doc pm:Value) (an:Option Addr) (cdv ct:Value) (us:List Value),us.length=ps.length->bindArgs (W.fnOf x qual (vo st) (yM st) (zV st) .none kV doc pm an cdv ct) ⟨us,[]⟩=pure (ps.zip us)):Binds K fd ps []:=by
 obtain⟨oc,od,kV,doc,pm,an,cdv,ct,osl,rfl,lk,hcd⟩:=F.ex;exact .all (h kV doc pm an cdv ct)
def KZ{x qual:Str}{st:Stmt}{f:Addr}{oc:Value}{od an:Option Addr}{osl:Array (Option Value)}{kV doc pm cdv ct:Value}(l:K.lookup f=some ⟨oc,od,.func (W.fnOf x qual (vo st) (yM st) (zV st) .none kV doc pm an cdv ct),osl⟩)
  (c:W.codeIn K cdv qual=true) (k:W.keepIn K (.ref f)=true):Fun K x qual st f (W.fnOf x qual (vo st) (yM st) (zV st) .none kV doc pm an cdv ct):=⟨⟨oc,od,kV,doc,pm,an,cdv,ct,osl,rfl,l,c⟩,k⟩
end
def qL{A:Around}{k:Nat}(hr:Room k A):A.units+1<cLine:=yk (Nat.add_le_add_left (by decide:1<=64) _) hr.units
section
variable {X:Cx}
end
def Same(H H':Hp):Prop:=∀b o,H b=some o->H' b=some o
end L2
namespace L2
open PySem
def jy(env:Env):List (Str × NameKind)->List (Str × Addr)->List (Str × Addr)
 |[],acc=>acc
 |y::r,acc=>if y.2 == .free then jy env r ((y.1,(env.cells.lookup y.1).getD 0)::acc) else jy env r acc
def kB{env:Env}:∀(l:List (Str × NameKind)) (acc:List (Str × Addr)),(∀y∈l,y.2=.free->∃c,env.cells.lookup y.1=some c)->(∀x c,acc.lookup x=some c->env.cells.lookup x=some c) ->
  ∀x c,(jy env l acc).lookup x=some c->env.cells.lookup x=some c
 |[],acc,_,ha,x,c,h=>ha x c h
 | y :: r, acc, hf, ha, x, c, h => by
  unfold jy at h
  split at h
  ·rename_i hk
   have hk':y.2=.free:=by simpa using hk
   obtain⟨d,hd⟩:=hf y zo hk';refine kB r _ (λz hz=>hf z (zc _ hz)) (λz e hz=>?_) x c h;rw[xu] at hz
   cases hb:z == y.1 with
   |true=>
    rw[hb,hd] at hz
    have e2:z=y.1:=by simpa using hb
    have e3:d=e:=by simpa using hz
    rw[e2,hd,e3]
   |false=>rw[hb] at hz;exact ha z e hz
  ·exact kB r acc (λz hz=>hf z (zc _ hz)) ha x c h
theorem Zv{env:Env}{x:Str}:∀(l:List (Str × NameKind)) (acc:List (Str × Addr)),(∃c,acc.lookup x=some c)->∃c,(jy env l acc).lookup x=some c
 |[],acc,h=>h
 | y :: r, acc, h => by
  unfold jy
  split
  ·refine Zv r _ ?_;rw[xu]
   cases hb:x == y.1 with
   |true=>exact⟨_,rfl⟩
   |false=>exact h
  ·exact Zv r acc h
theorem qO{env:Env}{y:Str × NameKind}(hk:y.2=.free):∀(l:List (Str × NameKind)) (acc:List (Str × Addr)),y∈l->∃c,(jy env l acc).lookup y.1=some c
 |[],acc,h=>by simp at h
 | z :: r, acc, h => by
  unfold jy
  rcases zd.mp h with rfl |h
  ·rw [if_pos (by rw [hk]; rfl)]
   exact Zv r _ ⟨_,al_List_lookup_cons_self⟩
  ·split
   ·exact qO hk r _ h
   ·exact qO hk r _ h
def Xz{env:Env}(f:Str × NameKind->List (Str × Addr)->Sem (ForInStep (List (Str × Addr))))
  (hf:∀y acc,f y acc=if y.2 == .free then(cellOf env y.1 >>= λc=>pure (.yield ((y.1,c)::acc))) else pure (.yield acc)) :
  ∀(l:List (Str × NameKind)) (acc:List (Str × Addr)),(∀y∈l,y.2=.free->∃c,env.cells.lookup y.1=some c)->forIn l acc f=(pure (jy env l acc):Sem _)
 |[],acc,_=>by rw[forIn_nil];rfl
 | y :: r, acc, h => by
  have ih:=λacc=>Xz f hf r acc λz hz=>h z (zc _ hz);rw[List.forIn_cons,hf];unfold jy
  split
  ·rename_i hk
   obtain⟨c,hc⟩:=h y zo (by simpa using hk)
   have e:cellOf env y.1=pure c:=by unfold cellOf;rw[hc]
   rw[e,hc];exact ih _
  ·exact ih _
def ZY{scope:Scope}{env:Env}(h:∀y∈scope.names,y.2=.free->∃c,env.cells.lookup y.1=some c):closureFor scope env=pure (jy env scope.names []):=by
 have e:=Xz (env:=env) (λx cs=>match x with |(name,kind)=>if (kind == NameKind.free)=true then(do let c <- cellOf env name;pure (.yield ((name,c)::cs))) else pure (.yield cs)) (λy acc=>rfl) scope.names [] h
 have e2:closureFor scope env=((forIn scope.names [] (λx cs=>match x with |(name,kind)=>if (kind == NameKind.free)=true then(do let c <- cellOf env name;pure (ForInStep.yield ((name,c)::cs))) else pure (ForInStep.yield cs)):Sem (List (Str × Addr))) >>= λcs=>pure cs):=rfl
 rw[e2,e];rfl
def ZB{env:Env}{x:Str}:∀(l:List (Str × NameKind)),
  (l.map λ(n, k) => if (k == NameKind.free && env.scope.kind == .function && env.kindOf n == some .cell) then (n, NameKind.cell) else (n, k)).lookup x =
   (l.lookup x).map λk=>if (k == NameKind.free&&env.scope.kind == .function&&env.kindOf x == some .cell) then NameKind.cell else k
 |[]=>rfl
 | (n, k) :: r => by
  have ih:=@ZB env x r;rw[zu]
  by_cases e:x=n
  ·subst e;dsimp only
   split
   ·rename_i h;rw[al_List_lookup_cons_self,al_List_lookup_cons_self,Option.map_some,if_pos h]
   ·rename_i h;rw[al_List_lookup_cons_self,al_List_lookup_cons_self,Option.map_some,if_neg h]
  ·have e' : (x == n) = false := by simpa using e
   dsimp only
   split
   ·rw[xu,e',xu,e'];exact ih
   ·rw[xu,e',xu,e'];exact ih
def zi5:∀(l:List (Str × NameKind)) (h:Heap) (acc:List (Str × Addr)) (x:Str) (c:Addr),(cellsFrom h.objs.size l acc).lookup x=some c ->
  ((pushCells h l).IsCell c none/\h.objs.size<=c/\(x,NameKind.cell)∈l)\/acc.lookup x=some c
 |[],_,_,_,_,e=>.inr e
 | (n, k) :: r, h, acc, x, c, e => by
  unfold cellsFrom at e;unfold pushCells
  split at e
  ·rename_i hk
   have hk':k=.cell:=by simpa using hk
   rw[if_pos hk];have hz:(h.push { cls:=.type "cell",data:=.cell none }).objs.size=h.objs.size+1:=wE ..;rw[<- hz] at e
   rcases zi5 r (h.push { cls:=.type "cell",data:=.cell none }) _ x c e with ⟨a,b,d⟩ |q
   ·exact .inl ⟨a,by rw[hz] at b;lia,zc _ d⟩
   ·rw [xu] at q
    cases hb:x == n with
    |false=>rw[hb] at q;exact .inr q
    |true=>
     rw[hb] at q
     have e1:h.objs.size=c:=by simpa using q
     have e2:x=n:=by simpa using hb
     subst e1 e2
     refine .inl ⟨?_,zj _,by rw[hk'];exact zo⟩
     exact⟨_,pushCells_keeps _ _ _ _ (zQ _ rfl),rfl⟩
  ·rename_i hk;rw[if_neg hk]
   rcases zi5 r h acc x c e with ⟨a,b,d⟩ |q
   ·exact .inl ⟨a,b,zc _ d⟩
   ·exact .inr q
def zi3:∀(l:List (Str × NameKind)) (n:Nat) (acc:List (Str × Addr)),(∀x y c,acc.lookup x=some c->acc.lookup y=some c->x=y)->(∀x c,acc.lookup x=some c->c<n) ->
  ∀x y c,(cellsFrom n l acc).lookup x=some c->(cellsFrom n l acc).lookup y=some c->x=y
 |[],_,_,hi,_,x,y,c,e,e'=>hi x y c e e'
 | (m, k) :: r, n, acc, hi, hl, x, y, c, e, e' => by
  unfold cellsFrom at e e'
  have one:∀z d,((m,n)::acc).lookup z=some d->(z=m/\d=n)\/acc.lookup z=some d:=λz d q=>by
   rw[xu] at q
   cases hb:z == m with
   |true=>rw[hb] at q;exact .inl ⟨by simpa using hb,by simpa using q.symm⟩
   |false=>rw[hb] at q;exact .inr q
  split at e
  ·rename_i hk;rw[if_pos hk] at e';refine zi3 r (n+1) ((m,n)::acc) (λa b d q q'=>?_) (λa d q=>?_) x y c e e'
   ·rcases one a d q with ⟨a1, a2⟩ | a1 <;> rcases one b d q' with ⟨b1, b2⟩ | b1
    ·rw[a1,b1]
    ·exact absurd (hl b d b1) (by rw[a2];exact wn _)
    ·exact absurd (hl a d a1) (by rw[b2];exact wn _)
    ·exact hi a b d a1 b1
   ·rcases one a d q with ⟨_, a2⟩ | a1
    ·rw[a2];exact Nat.lt_succ_self _
    ·exact wH (hl a d a1)
  ·rename_i hk;rw[if_neg hk] at e';exact zi3 r n acc hi hl x y c e e'
theorem Zw{x:Str}:∀(l:List (Str × NameKind)) (n:Nat) (acc:List (Str × Addr)),(∃c,acc.lookup x=some c)->∃c,(cellsFrom n l acc).lookup x=some c
 |[],_,_,h=>h
 | (m, k) :: r, n, acc, h => by
  unfold cellsFrom
  split
  ·refine Zw r _ _ ?_;rw[xu]
   cases hb:x == m with
   |true=>exact⟨_,rfl⟩
   |false=>exact h
  ·exact Zw r _ _ h
theorem zi4{x:Str}:∀(l:List (Str × NameKind)) (n:Nat) (acc:List (Str × Addr)),(x,NameKind.cell)∈l->∃c,(cellsFrom n l acc).lookup x=some c
 |[],_,_,h=>by simp at h
 | (m, k) :: r, n, acc, h => by
  unfold cellsFrom
  rcases zd.mp h with e |h
  ·cases e;exact Zw r _ _ ⟨_,al_List_lookup_cons_self⟩
  ·split
   ·exact zi4 r _ _ h
   ·exact zi4 r _ _ h
theorem zI7{x:Str}:∀(l:List (Str × NameKind)) (n:Nat) (acc:List (Str × Addr)) (lo:Nat),lo<=n->((x,NameKind.cell)∈l\/∀c,acc.lookup x=some c->lo<=c)->∀c,(cellsFrom n l acc).lookup x=some c->lo<=c
  | [], n, acc, lo, hn, h, c, e => by
    rcases h with h |h
    · simp at h
    · exact h c e
  | (m, k) :: r, n, acc, lo, hn, h, c, e => by
    unfold cellsFrom at e
    split at e
    · rename_i hk
      refine zI7 r (n+1) ((m,n)::acc) lo q5 ?_ c e
      rcases h with h |h
      · rcases zd.mp h with z | z
        · cases z
          refine .inr λd q=>?_;rw[al_List_lookup_cons_self] at q
          have:n=d:=by simpa using q
          lia
        · exact .inl z
      · refine .inr λd q => ?_
        rw[xu] at q
        cases hb:x == m with
        | true => rw [hb] at q; have : n = d := by simpa using q;
                  lia
        |false=>rw[hb] at q;exact h d q
    · rename_i hk
      refine zI7 r n acc lo hn ?_ c e
      rcases h with h |h
      · rcases zd.mp h with z | z
        · cases z;exact absurd rfl hk
        · exact .inl z
      · exact .inr h
section
variable {M:Model}{A:Around}{E:Value->Shared->Prop}{s:Shared}
def jt{scope:Scope}{env:Env}{cl:List (Str × Addr)}{Q:Env->Shared->Prop}
  (h : Q (newEnv scope s.heap.objs.size env.globals (cellsFrom (s.heap.objs.size + 1) scope.names cl) env.qual none .none (some env) builtinsNs)
   { s with heap:=pushCells (s.heap.push { cls:=.type "dict",data:=.dict #[] }) scope.names }) :
  wpAny M A (newFunctionEnv scope env.globals cl [] env.qual none .none (some env)) Q E s:=by
 simp only[newFunctionEnv,Option.isSome_some,if_true];refine zb (wpAny_alloc ?_);refine zb (wpAny_layCells _ (λname kind cells=>?_) _ _ _ _ ?_)
 ·cases hkc:kind == NameKind.cell<;>simp[hkc]
 ·rw[List.forIn_nil];refine zb (zg (zg ?_));have hz:({ s with heap:=s.heap.push { cls:=.type "dict",data:=.dict #[] } }:Shared).heap.objs.size=s.heap.objs.size+1:=wE ..;rw[hz];exact h
end
abbrev ZF(ifs:List Expr)(env:Env):Sem Bool:=forIn ifs true λc r=>if r=true then do let ok <- isTrue c env (eval c env);pure (ForInStep.yield ok) else pure (ForInStep.yield r)
section
variable {prog:Program}{w:World}{A:Around}{R:Result->Shared->Prop}{s:Shared}
def zh7{elt target iter:Expr}{ifs:List Expr}{scope:Scope}{pos:Pos}{it acc:Value}{env:Env}(J:Nat->Shared->Prop)
  (turn : ∀ n s, J n s -> wpAny (model prog w) A (pyNext it) (λr s1 => match r with
   |none=>R (.ok .next) s1
   | some v => wpAny (model prog w) A (letOwnedTupleGo target it v) (λ_ s2 => wpAny (model prog w) A (assign target env v) (λ_ s3 => wpAny (model prog w) A (ZF ifs env) (λok s4 =>
     if ok=true then wpAny (model prog w) A (eval elt env) (λx s5=>wpAny (model prog w) A (call (.builtin "list.append") [acc,x]) (λ_ s6=>∃m,m<n/\J m s6) (λ_ _=>False) s5) (λ_ _=>False) s4
     else ∃m,m<n/\J m s4) (λ_ _=>False) s3) (λ_ _=>False) s2) (λ_ _=>False) s1) (λ_ _=>False) s)
  (n:Nat) (h:J n s):codeAny (model prog w) A (.compLoop (.ListComp elt [⟨target,iter,ifs,0⟩] scope pos) 0 it acc env) R s:=by
 refine codeAny_loop rfl J (λn s hJ=>?_) n h
 show wpAny _ A ((compTurn (.ListComp elt [⟨target,iter,ifs,0⟩] scope pos) 0 it acc env).onRaise (λx=>do noteFrame x env;theTreesLotGoes x)) _ _ s
 refine wpAny_noted ?_;rw[compTurn_list]
 have up:∀{α:Type}{t:Sem α}{Q Q':α->Shared->Prop}{E:Value->Shared->Prop}{s:Shared},wpAny (model prog w) A t Q (λ_ _=>False) s->(∀a s,Q a s->Q' a s)->wpAny (model prog w) A t Q' E s:=
  λh f=>xT h f λ_ _ z=>False.elim z
 refine zb (wl (zb (up (turn n s hJ) λr s1 h1=>?_)))
 cases r with
 |none=>exact zg h1
 |some v=>
  refine zb (up h1 λ_ s2 h2=>?_);refine zb (up h2 λ_ s3 h3=>?_);refine zb (up h3 λok s4 h4=>?_)
  cases ok with
  |false=>exact zg ⟨rfl,h4⟩
  |true=>exact zb (zb (up h4 λx s5 h5=>zb (up h5 λ_ s6 h6=>zg (zg ⟨rfl,h6⟩))))
end
section
variable {prog:Program}{w:World}{A:Around}{E:Value->Shared->Prop}{s:Shared}
end
end L2
namespace L2
def Inv.track{X:Cx}{pins:List (Addr × Obj)}{σ:St}{H:Hp}{s:Shared}{a:Addr}{o:HO}(I:Inv X pins σ H s)(hn:H a=none)(hz:X.s₀.heap.objs.size<=a)(hL:a≠X.env.locals)
  (hc:∀x c,X.env.cells.lookup x=some c->c≠a) (hp:∀p∈X.pn++pins,p.1≠a) (new:ObjOk X.prog X.w (upd H a o) s.heap a o):Inv X pins σ (upd H a o) s:=by
 have nb:∀b u,H b=some u->b≠a:=λb u e=>wJ e hn;refine⟨I.ok,I.os,I.bare,⟨I.base.keep,I.base.slot,λb u e n hx=>?_,I.base.there,λb xs e=>?_,λb u xs e=>?_,λb ps e=>?_⟩,I.loc,I.cell,?_,λx c e=>?_,λp hq=>?_,λb u e=>?_,I.len⟩
 ·rw[xS (zU (zR (zw e) hz))];exact I.base.free b u e n hx
 ·have q:=I.base.tups b xs e;rw[xS (nb b _ q)];exact q
 ·have q:=I.base.frzs b u xs e;rw[xS (nb b _ q)];exact q
 ·obtain⟨m,q⟩:=I.base.tbls b ps e;exact⟨m,by rw[xS (nb b _ q)];exact q⟩
 ·rw[xS (Ne.symm hL)];exact I.free
 ·rw[xS (hc x c e)];exact I.freeC x c e
 ·obtain ⟨q1, q2, q3⟩ := I.pin p hq
  exact⟨q1,by rw[xS (hp p hq)];exact q2,q3⟩
 ·by_cases hb : b = a
  ·subst hb;rw[yd] at e;cases e;exact new
  ·rw [xS hb] at e
   exact(I.hok b u e).stay (λ_ _ _ q=>q) (λc q=>by rw[xS (nb c _ q)];exact q) (λc xs q=>by rw[xS (nb c _ q)];exact q) λc o u q=>by rw[xS (nb c _ q)];exact q
structure CompOk(X:Cx)(scope:Scope)(M:List Str):Prop where
 kind:scope.kind=.function
 uniq:∀y∈scope.names,scope.names.lookup y.1=some y.2
 frees:∀y∈scope.names,y.2=.free->(X.env.kindOf y.1=some .cell\/X.env.kindOf y.1=some .free)
 shadow:∀x∈M,scope.names.lookup x≠some .local/\scope.names.lookup x≠some .cell
 same:∀(i:Nat) (x:Str),M[i]?=some x->scope.names.lookup x=some .free->X.N[i]?=some x
 mlen:M.length=X.N.length
def zi0(N M:List Str)(out sc:Scope):Bool:=
 (sc.kind == .function && sc.names.all (λy => sc.names.lookup y.1 == some y.2 && (y.2 != .free || (out.names.lookup y.1 == some .cell || out.names.lookup y.1 == some .free))) &&
  M.all (λx=>sc.names.lookup x != some .local&&sc.names.lookup x != some .cell))&&(M.length == N.length&&(M.zip N).all (λp=>sc.names.lookup p.1 != some .free||p.1 == p.2))
def vW{X:Cx}{sc:Scope}{M:List Str}(h:zi0 X.N M X.env.scope sc=true):CompOk X sc M:=by
 unfold zi0 at h;rw[xg,xg,xg,xg,yg,yg,yg] at h;obtain⟨⟨⟨h1,h2⟩,h3⟩,h4,h5⟩:=h
 have hl:M.length=X.N.length:=by simpa using h4
 refine⟨by simpa using h1,λy hy=>?_,λy hy hf=>?_,λx hx=>?_,λi x hi hf=>?_,hl⟩
 ·have := h2 y hy;rw[xg] at this
  simpa using this.1
 ·have := h2 y hy;rw[xg] at this;have q:=this.2;rw[hf] at q
  have q':(X.env.scope.names.lookup y.1 == some .cell||X.env.scope.names.lookup y.1 == some .free)=true:=by simpa using q
  rw[Bool.or_eq_true] at q'
  exact q'.imp (λz=>(show X.env.scope.names.lookup y.1=some .cell by simpa using z)) λz=>(show X.env.scope.names.lookup y.1=some .free by simpa using z)
 ·have := h3 x hx;rw[xg] at this
  exact⟨by simpa using this.1,by simpa using this.2⟩
 ·have hlt : i < X.N.length := by rw [<- hl]; exact (zN.mp hi).1
  have hn:X.N[i]?=some X.N[i]:=zk hlt
  have hz:(M.zip X.N)[i]?=some (x,X.N[i]):=by rw[List.getElem?_zip_eq_some];exact⟨hi,hn⟩
  have:=h5 _ (wg hz);rw[Bool.or_eq_true] at this
  rcases this with z |z
  ·rw[hf] at z;simp at z
  ·have e : x = X.N[i] := by simpa using z
   rw[hn,<- e]
def qP(X:Cx)(scope:Scope)(C:Addr):List (Str × Addr):=cellsFrom (C+1) scope.names (jy X.env scope.names [])
def wO(X:Cx)(scope:Scope)(own M:List Str)(C:Addr)(s2:Shared)(H2:Hp)(fp:List Addr):Cx where
 prog:=X.prog
 w:=X.w
 K:=X.K
 mg:=X.mg
 base:=X.base
 A:=X.A
 N:=own++M
 s₀:=s2
 H₀:=H2
 env:=compEnvC scope (qP X scope C) C X.env
 outer:=X.stack
 stack:=X.stack
 ex:=fp
 fn:=λx=>scope.names.lookup x == some .cell
 calm:=X.calm
 pn:=[]
 xe:=λ_ _=>False
def PTs(X:Cx)(ifs:List Expr)(t:TT):Prop:=
 ∀(pins:List (Addr × Obj)) (s:Shared) (σ:St) (H:Hp) (Q:Bool->Hp->Prop),Inv X pins σ H s->t σ H Q->wpAny (model X.prog X.w) X.A (ZF ifs X.env) (TP X pins σ Q) X.xe s
def xo0:TT:=λ_ H Q=>Q true H
def zB3{X:Cx}:PTs X [] xo0:=λ_ _ _ H _ I h=>zg ⟨H,I,h⟩
def zB2{X:Cx}{c:Expr}{t:TT}(hc:PT X c t):PTs X [c] t:=by
 intro pins s σ H Q I h;show wpAny _ _ (forIn [c] true _) _ _ s;simp only[List.forIn_cons,forIn_nil,if_true];exact zb (zb (thn (hc pins s σ H Q I h) λb s' hb=>zg (zg hb)))
def zl2(wi:TI)(own:Nat)(g:TG)(tt:TT)(te:TE):TE:=λσ H Q=>wi σ H λJ H1=>∃W:Nat->Nat->List V->Hp->Prop,(∃m,W 0 m [] H1)/\∀i m acc H,W i m acc H ->
 (J.stop i H/\acc.length<=sizeLine/\∀D,H D=none->Q (.ref D) (upd H D (.lst acc))) \/
 (J.go i H /\ acc.length < sizeLine /\ ∀ x H', J.yld i H x H' -> g x (List.replicate own none ++ σ) H' λσ2 H2 => σ2.drop own = σ /\ tt σ2 H2 λc H3 =>
  if c=true then te σ2 H3 λv H4=>∃m',m'<m/\W (i+1) m' (acc++[v]) H4 else ∃m',m'<m/\W (i+1) m' acc H3)
section
variable {X:Cx}{scope:Scope}{own M:List Str}{pins:List (Addr × Obj)}{σ:St}{H2:Hp}{s2:Shared}{fp:List Addr}
def CompOk.cells(ok:CompOk X scope M)(I:Inv X pins σ H2 s2):∀y∈scope.names,y.2=.free->∃c,X.env.cells.lookup y.1=some c:=λy hy hf=>I.ok.has y.1 (ok.frees y hy hf)
def CompOk.kindIn(ok:CompOk X scope M){x:Str}{C:Addr}{k:NameKind}(h:(compEnvC scope (qP X scope C) C X.env).kindOf x=some k) :
  scope.names.lookup x=some k\/(k=.cell/\scope.names.lookup x=some .free):=by
 have h':(relabel scope X.env).names.lookup x=some k:=h;unfold relabel at h';rw[ZB] at h'
 cases e:scope.names.lookup x with
 |none=>rw[e] at h';simp at h'
 | some j =>
  rw[e,Option.map_some] at h';have h2:=zy h'
  split at h2
  ·rename_i hc
   have:j=.free:=by
    rw[xg,xg] at hc
    simpa using hc.1.1
   exact .inr ⟨h2.symm,by rw[this]⟩
  ·exact .inl (by rw[h2])
def CompOk.cellsFrom_old(ok:CompOk X scope M)(I:Inv X pins σ H2 s2){C:Addr}{x:Str}{c:Addr}(h:(qP X scope C).lookup x=some c)(hx:scope.names.lookup x≠some .cell):X.env.cells.lookup x=some c:=by
 have e0:∀(l:List (Str × NameKind)) (n:Nat) (acc:List (Str × Addr)),(x,NameKind.cell) ∉ l->(cellsFrom n l acc).lookup x=acc.lookup x:=by
  intro l
  induction l with
  |nil=>intro n acc _;rfl
  | cons y r ih =>
   intro n acc hy;obtain⟨m,k⟩:=y;unfold cellsFrom
   split
   ·rename_i hk
    have hk':k=.cell:=by simpa using hk
    rw[ih _ _ λz=>hy (zc _ z),xu]
    have:(x == m)=false:=by
     cases hb:x == m with
     |false=>rfl
     |true=>
      have e:x=m:=by simpa using hb
      exact absurd (by rw[hk',e];exact zo) hy
    rw[this]
   ·exact ih _ _ λz=>hy (zc _ z)
 unfold qP at h;rw[e0 _ _ _ λhm=>hx (ok.uniq _ hm)] at h
 exact kB scope.names [] (ok.cells I) (λ_ _ z=>by simp at z) x c h
end
section
variable {X:Cx}{scope:Scope}{own M:List Str}{pins:List (Addr × Obj)}{σ:St}{H2:Hp}{s2:Shared}{tg iter elt:Expr}{ifs:List Expr}{pos:Pos}{g:TG}{tt:TT}{te:TE}
section
variable {X:Cx}{scope:Scope}{own M:List Str}{pins:List (Addr × Obj)}{σ:St}{H2:Hp}{s2:Shared}{fp:List Addr}
def ze6{o0:Obj}(ok:CompOk X scope M)(hc:X.calm=true)(I:Inv X pins σ H2 s2)(hf:∀b∈fp,FpOk X pins H2 b/\b<s2.heap.objs.size){C:Addr}(hC:C=s2.heap.objs.size+1){h4:Heap}
  (hh:h4=pushCells ((s2.heap.push o0).push { cls:=.type "dict",data:=.dict #[] }) scope.names) :
  Inv (wO X scope own M C s2 H2 fp) [] (replicate own.length none++σ) H2 { s2 with heap:=h4 }:=by
 have zC:(s2.heap.push o0).objs.size=C:=by rw[wE,hC]
 have zC1:((s2.heap.push o0).push { cls:=.type "dict",data:=.dict #[] }).objs.size=C+1:=by rw[wE,zC]
 have keep:∀b o,s2.heap.get? b=some o->h4.get? b=some o:=λb o e=>by
  rw[hh];exact pushCells_keeps _ _ _ _ (zh _ (zh _ e))
 have cellOld:∀x c,X.env.cells.lookup x=some c->c<s2.heap.objs.size:=λx c e=>by obtain⟨v,q⟩:=I.cell x c e;exact q.lt
 have cellB:∀x c,(qP X scope C).lookup x=some c->(h4.IsCell c none/\C+1<=c/\scope.names.lookup x=some .cell)\/X.env.cells.lookup x=some c:=λx c e=>by
  by_cases hx:scope.names.lookup x=some .cell
  ·have e' := e;unfold qP at e';rw[<- zC1] at e'
   rcases zi5 _ _ _ x c e' with ⟨a,b,d⟩ |q
   ·exact .inl ⟨by rw[hh];exact a,by rw[zC1] at b;exact b,hx⟩
   ·exact .inr (kB scope.names [] (ok.cells I) (λ_ _ z=>by simp at z) x c q)
  ·exact .inr (ok.cellsFrom_old I e hx)
 have hNs:∃m,h4.Ns C m:=by
  have q:((s2.heap.push o0).push { cls:=.type "dict",data:=.dict #[] }).Ns C (λ_=>none):=by
   have:=Heap.Ns.new (s2.heap.push o0) (.type "dict");rw[zC] at this;exact this
  exact⟨_,q.keeps λb o e=>by rw[hh];exact pushCells_keeps _ _ _ _ e⟩
 have nfs:∀b∈fp,b ∉ frs X.stack:=λb hb hx=>by
  obtain⟨⟨_,f1,f2,_⟩,_⟩:=hf b hb
  rcases zd.mp (I.stkSub b hx) with e |e
  ·exact f1 e
  ·exact f2 e
 obtain⟨mC,hmC⟩:=hNs
 refine⟨⟨I.ok.mod,ok.kind,I.ok.glob,I.ok.blt,?_,?_,?_,?_,I.ok.hd,I.ok.frames,.inl rfl,?_,I.bs,?_,?_,nfs,I.stack,I.stkFree⟩,rfl,I.bare,Un.kept keep,⟨mC,hmC,?_⟩,?_,I.hok.fresh (by show s2.heap.objs.size<=C;rw[hC];exact xY _),?_,λp hp=>absurd (show p∈([]:List (Addr × Obj)) from hp) (by simp),I.hok.kept keep,?_⟩
 ·show s2.heap.objs.size<=C;rw[hC];exact xY _
 ·intro x y c h1 h2;refine zi3 scope.names (C+1) (jy X.env scope.names []) (λa b d p q=>?_) (λa d p=>?_) x y c h1 h2
  ·exact I.ok.inj a b d (kB scope.names [] (ok.cells I) (λ_ _ z=>by simp at z) a d p) (kB scope.names [] (ok.cells I) (λ_ _ z=>by simp at z) b d q)
  ·have := cellOld a d (kB scope.names [] (ok.cells I) (λ_ _ z => by simp at z) a d p)
   rw[hC];exact wH (wH this)
 ·intro x hx
  have go:∀k,(k=NameKind.cell\/k=NameKind.free)->(compEnvC scope (qP X scope C) C X.env).kindOf x=some k->∃c,(qP X scope C).lookup x=some c:=λk hk e=>by
   rcases ok.kindIn e with e |⟨_,e⟩
   ·rcases hk with rfl | rfl
    ·exact zi4 _ _ _ (PySem.mem_of_lookup e)
    ·exact Zw _ _ _ (qO (y:=(x,.free)) rfl _ _ (PySem.mem_of_lookup e))
   ·exact Zw _ _ _ (qO (y:=(x,.free)) rfl _ _ (PySem.mem_of_lookup e))
  rcases hx with e |e
  ·exact go _ (.inl rfl) e
  ·exact go _ (.inr rfl) e
 ·intro x c hx h
  have hx':scope.names.lookup x=some .cell:=by simpa [wO] using hx
  have:=zI7 (x:=x) scope.names (C+1) (jy X.env scope.names []) (C+1) (zj _) (.inl (PySem.mem_of_lookup hx')) c h;show s2.heap.objs.size<=c
  exact zF (by rw[hC];exact zF (xY _) (xY _)) this
 ·intro b hb;obtain⟨⟨_,_,_,_,f4,_⟩,f6⟩:=hf b hb;refine⟨?_,λx c h=>?_⟩
  ·show b≠C;rw[hC];exact zU (wH f6)
  ·rcases cellB x c h with ⟨_, q, _⟩ | q
   ·rw[hC] at q;exact Nat.ne_of_gt (zR f6 (zF (zF (xY _) (xY _)) q))
   ·exact f4 x c q
 ·exact zF I.ok.bsz I.sz
 ·intro b o e hb;obtain⟨⟨_,_,_,f3,_⟩,_⟩:=hf b hb
  rcases f3 with z |z
  ·exact I.ok.noex b o e z
  ·exact absurd (zR (zw (I.ok.bs b o e).1) z) (wn _)
 ·intro i x v h1 h2 h3;have h2':(replicate own.length (none:Option V)++σ)[i]?=some (some v):=h2
  have hi:own.length<=i:=by
   apply Nat.le_of_not_lt;intro hlt
   rw[xE (by simpa using hlt),we] at h2'
   rw[if_pos hlt] at h2';cases h2'
  rw[xm (by simpa using hi),wc] at h2'
  have h1':(own++M)[i]?=some x:=h1;rw[xm hi] at h1';obtain⟨n1,n2⟩:=ok.shadow x (wg h1')
  have hfree:scope.names.lookup x=some .free/\((compEnvC scope (qP X scope C) C X.env).kindOf x=some .cell\/(compEnvC scope (qP X scope C) C X.env).kindOf x=some .free):=by
   rcases h3 with e |e |e
   ·rcases ok.kindIn (x := x) (C := C) e with q | ⟨q, _⟩
    ·exact absurd q n1
    ·cases q
   ·rcases ok.kindIn (x := x) (C := C) e with q | ⟨_, q⟩
    ·exact absurd q n2
    ·exact⟨q,.inl e⟩
   ·rcases ok.kindIn (x := x) (C := C) e with q | ⟨q, _⟩
    ·exact⟨q,.inr e⟩
    ·cases q
  obtain⟨hfr,hk⟩:=hfree;obtain⟨m,hn,hl⟩:=I.loc;have hkX:=ok.frees (x,.free) (PySem.mem_of_lookup hfr) rfl;have h1':=ok.same _ _ h1' hfr;obtain⟨u,ru,lk⟩:=hl (i-own.length) x v h1' h2' (hkX.elim (λz=>.inr (.inl z)) λz=>.inr (.inr z));refine⟨u,ru,.inr ⟨hk,?_⟩⟩
  rcases lk with ⟨k,_⟩ |⟨_,c,ec,ic⟩
  ·rcases hkX with z |z<;>(rw[k] at z;cases z)
  ·obtain ⟨c', e'⟩ : ∃ c', (qP X scope C).lookup x = some c' := Zw _ _ _ (qO (y := (x, .free)) rfl _ _ (PySem.mem_of_lookup hfr));refine⟨c',e',?_⟩
   have:=ok.cellsFrom_old I e' (by rw[hfr];simp)
   have e2:some c=some c':=ec.symm.trans this;cases e2;exact ic.keeps keep
 ·intro x c h
  rcases cellB x c h with ⟨q,_⟩ |q
  ·exact⟨_,q⟩
  ·obtain⟨v,z⟩:=I.cell x c q;exact⟨v,z.keeps keep⟩
 ·intro x c h
  rcases cellB x c h with ⟨q,q2,_⟩ |q
  ·exact I.hok.fresh (by rw[hC] at q2;exact zF (zF (xY _) (xY _)) q2)
  ·exact I.freeC x c q
 ·show(List.replicate own.length (none:Option V)++σ).length=(own++M).length;rw[zA,zA,wc,I.len,ok.mlen]
end
def Ql(σ σ':St):Prop:=∀(j:Nat) (v:V),σ[j]?=some (some v)->σ'[j]?=some (some v)
def kh{m:Nat}{sg sg2:St}(h:sg2.drop m=sg):Ql (replicate m none++sg) sg2:=by
 intro j v e
 by_cases hj:j<m
 ·rw [xE (by simpa using hj), we, if_pos hj] at e
  cases e
 ·rw [xm (by simpa using Nat.le_of_not_lt hj), wc, <- h, xV] at e
  rw[show m+(j-m)=j by lia] at e
  exact e
section
variable {X:Cx}{pins:List (Addr × Obj)}{σ:St}{H:Hp}{s:Shared}
def Inv.pin1{a:Addr}{o:Obj}(I:Inv X pins σ H s)(hf:FpOk X pins H a)(ho:s.heap.get? a=some o)(hc:∀v,o.data≠.cell v):Inv X ((a,o)::pins) σ H s:=by
 refine⟨I.ok,I.os,I.bare,I.base,I.loc,I.cell,I.free,I.freeC,λp hp=>?_,I.hok,I.len⟩
 rcases zI.mp hp with hp |hp
 ·exact I.pin p (xR _ hp)
 ·rcases zd.mp hp with rfl | hp
  ·exact⟨ho,hf.1,hf.2.1,hf.2.2.1,hc⟩
  ·exact I.pin p (zr _ hp)
def Inv.unpin{q:Addr × Obj}(I:Inv X (q::pins) σ H s):Inv X pins σ H s:=
 ⟨I.ok,I.os,I.bare,I.base,I.loc,I.cell,I.free,I.freeC,λp hp=>I.pin p (by
  rcases zI.mp hp with hp |hp
  ·exact xR _ hp
  ·exact zr _ (zc _ hp)),I.hok,I.len⟩
def Inv.pinAt{q:Addr × Obj}(I:Inv X pins σ H s)(h:q∈pins):s.heap.get? q.1=some q.2/\H q.1=none:=
 let z:=I.pin q (zr _ h);⟨z.1,z.2.1⟩
end
section
variable {X:Cx}{pf:List (Addr × Obj)}{σ:St}{H:Hp}{s:Shared}
def Inv.bump{D:Addr}{ob ob':Obj}{h':Heap}{t:Nat}(I:Inv X ((D,ob)::pf) σ H s)(f:FpOk X pf H D)(hs:Heap.SameBut D s.heap h')(ho:h'.get? D=some ob')(nc:∀v,ob'.data≠.cell v):Inv X ((D,ob')::pf) σ H { s with heap:=h',toks:=t }:=
 Inv.pin1 (I.unpin.turned (t':=t) (λb o hb e=>hs.extBut b o hb e) f.1 f.2.1 f.2.2.2.1 f.2.2.2.2.1 f.2.2.2.2.2) f ho nc
end
section
variable {X:Cx}{scope:Scope}{own M:List Str}{pins:List (Addr × Obj)}{σ:St}{H2:Hp}{s2:Shared}{tg iter elt:Expr}{ifs:List Expr}{pos:Pos}{g:TG}{tt:TT}{te:TE}
abbrev cxC(X:Cx)(scope:Scope)(own M:List Str)(s2:Shared)(H2:Hp)(fp:List Addr):Cx:=wO X scope own M (s2.heap.objs.size+1) s2 H2 fp
def UX{α:Type}{nil:α}{e:Expr}{o0:Obj}{ho:Addr->α->HO}{DO:α->Obj->Prop}{SZ GZ:α->Prop}{KK:St->Prop}{TB:Nat->Nat->α->St->Hp->Prop}{BODY:(Shared->Prop)->Shared->Prop}(nc:∀a ob,DO a ob->∀v,ob.data≠.cell v)(h0:DO nil o0)(fr:o0.isFreed=false)
  (ok:CompOk X scope M) (hc:X.calm=true) {fp:List Addr} (hg:PG (cxC X scope own M s2 H2 fp) tg g) (ht:PTs (cxC X scope own M s2 H2 fp) ifs tt) (kk:∀σ',KK σ'->Ql (replicate own.length none++σ) σ')
  (I2:Inv X pins σ H2 s2) {it:Addr}{tn:Nat->Heap->Prop}{J:It} (T:Turn X.prog X.w X.K tg J fp it tn) (st2:tn 0 s2.heap) (f2:∀b∈fp,FpOk X pins H2 b) {W:Nat->Nat->α->Hp->Prop} (w0:∃m,W 0 m nil H2) {Qf:V->Hp->Prop}
  (turn : ∀ i m acc H, W i m acc H -> (J.stop i H /\ SZ acc /\ ∀ D, H D = none -> Qf (.ref D) (upd H D (ho D acc))) \/
   (J.go i H/\GZ acc/\∀x H',J.yld i H x H'->g x (replicate own.length none++σ) H' λσ2 H2=>KK σ2/\tt σ2 H2 λc H3=>if c=true then TB i m acc σ2 H3 else ∃m',m'<m/\W (i+1) m' acc H3))
  (endD:∀i m acc H ob h,W i m acc H->SZ acc->DO acc ob->H s2.heap.objs.size=none->h.get? s2.heap.objs.size=some ob->ObjOk X.prog X.w (upd H s2.heap.objs.size (ho s2.heap.objs.size acc)) h s2.heap.objs.size (ho s2.heap.objs.size acc))
  (loop : ∀ (R : Result -> Shared -> Prop) (L : Nat -> Shared -> Prop), (∀ n s, L n s -> wpAny (model X.prog X.w) X.A (pyNext (.ref it)) (λr s1 => match r with
   |none=>R (.ok .next) s1
   | some v => wpAny (model X.prog X.w) X.A (letOwnedTupleGo tg (.ref it) v) (λ_ s2' => wpAny (model X.prog X.w) X.A (assign tg (cxC X scope own M s2 H2 fp).env v) (λ_ s3 => wpAny (model X.prog X.w) X.A (ZF ifs (cxC X scope own M s2 H2 fp).env) (λok s4 =>
     if ok=true then BODY (λs7=>∃m,m<n/\L m s7) s4 else ∃m,m<n/\L m s4) (λ_ _=>False) s3) (λ_ _=>False) s2') (λ_ _=>False) s1) (λ_ _=>False) s) ->
   ∀n s,L n s->codeAny (model X.prog X.w) X.A (.compLoop e 0 (.ref it) (.ref s2.heap.objs.size) (cxC X scope own M s2 H2 fp).env) R s)
  (start : ∀ (R : Result -> Shared -> Prop) s, codeAny (model X.prog X.w) X.A (.compLoop e 0 (.ref it) (.ref s2.heap.objs.size) (cxC X scope own M s2 H2 fp).env) R s ->
   (∀E,wpAny (model X.prog X.w) X.A (pyIter (.ref it)) (λit' s'=>codeAny (model X.prog X.w) X.A (.compLoop e 0 it' (.ref s2.heap.objs.size) (cxC X scope own M s2 H2 fp).env) R s') E s)->codeAny (model X.prog X.w) X.A (.compStart e 0 (.ref it) (.ref s2.heap.objs.size) (cxC X scope own M s2 H2 fp).env) R s)
  (body : ∀ (pf : List (Addr × Obj)) (σ6 : St) (H7 : Hp) (s7 : Shared) (i n : Nat) (acc : α) (ob : Obj), Inv (cxC X scope own M s2 H2 fp) ((s2.heap.objs.size, ob) :: pf) σ6 H7 s7 -> DO acc ob -> GZ acc -> (∀ {H : Hp}, H s2.heap.objs.size = none -> FpOk (cxC X scope own M s2 H2 fp) pf H s2.heap.objs.size) ->
   KK σ6->TB i n acc σ6 H7->∀post:Shared->Prop,
   (∀{acc' ob' σ9 H9 s9 m'},m'<n->W (i+1) m' acc' H9->DO acc' ob'->Ql (replicate own.length none++σ) σ9->Inv (cxC X scope own M s2 H2 fp) ((s2.heap.objs.size,ob')::pf) σ9 H9 s9->post s9)->BODY post s7)
  {R0:Result->Shared->Prop}
  (fin:∀H' s' m,Inv X pins σ H' s'->Qf (.ref s2.heap.objs.size) H'->s'.heap.Ns (s2.heap.objs.size+1) m->H' (s2.heap.objs.size+1)=none->s2.heap.objs.size+1≠X.env.locals->X.s₀.heap.objs.size<=s2.heap.objs.size+1->(∀x c,X.env.cells.lookup x=some c->c≠s2.heap.objs.size+1)->(∀p∈X.pn++pins,p.1≠s2.heap.objs.size+1)->R0 (.ok .next) s') {h4:Heap}
  (hh:h4=pushCells ((s2.heap.push o0).push { cls:=.type "dict",data:=.dict #[] }) scope.names) :
  codeAny (model X.prog X.w) X.A (.compStart e 0 (.ref it) (.ref s2.heap.objs.size) (cxC X scope own M s2 H2 fp).env) R0 { s2 with heap:=h4 }:=by
 have fpl:∀b∈fp,FpOk X pins H2 b/\b<s2.heap.objs.size:=λb hb=>by
  obtain⟨o,e,_⟩:=T.obj 0 _ st2 b hb;exact⟨f2 b hb,zw e⟩
 have Dlt:s2.heap.objs.size<s2.heap.objs.size+1:=Nat.lt_succ_self _;unfold cxC at *;generalize hC:s2.heap.objs.size+1=C at *;have I4:Inv (wO X scope own M C s2 H2 fp) [] (replicate own.length none++σ) H2 { s2 with heap:=h4 }:=ze6 ok hc I2 fpl hC.symm hh;generalize hX:wO X scope own M C s2 H2 fp=X' at *
 have keep4:∀b o,s2.heap.get? b=some o->h4.get? b=some o:=λb o e=>by
  rw[hh];exact pushCells_keeps _ _ _ _ (zh _ (zh _ e))
 have hD4:h4.get? s2.heap.objs.size=some o0:=by
  rw[hh];exact pushCells_keeps _ _ _ _ (zh _ (zQ _ fr))
 have st4:tn 0 h4:=T.keep _ _ _ st2 λb hb o e=>keep4 b o e
 have xP:X'.prog=X.prog:=by rw[<- hX];rfl
 have xw:X'.w=X.w:=by rw[<- hX];rfl
 have xK:X'.K=X.K:=by rw[<- hX];rfl
 have xA:X'.A=X.A:=by rw[<- hX];rfl
 have xc:X'.calm=true:=by rw[<- hX];exact hc
 have xpn:X'.pn=[]:=by rw[<- hX];rfl
 have xs:X'.s₀=s2:=by rw[<- hX];rfl
 have xH:X'.H₀=H2:=by rw[<- hX];rfl
 have xL:X'.env.locals=C:=by rw[<- hX];rfl
 have xfs:X'.fs=frs X.stack:=by rw[<- hX];rfl
 have xex:X'.ex=fp:=by rw[<- hX];rfl
 have xe:X'.xe=λ_ _=>False:=by rw[<- hX];rfl
 have fpb:∀{pl:List (Addr × Obj)}{H:Hp},(∀b∈fp,H b=none)->(∀p∈pl,p.1 ∉ fp)->∀b∈fp,FpOk X' pl H b:=λ{pl H} hn hpl b hb=>by
  have z:=I4.ok.exf b (by rw[xex];exact hb)
  refine⟨hn b hb,z.1,I4.ok.exfs b (by rw[xex];exact hb),.inl (by rw[xex];exact hb),λx c e=>z.2 x c e,λp hp y=>?_⟩
  rw[xpn,xl] at hp
  exact hpl p hp (by rw[y];exact hb)
 have Dfp:s2.heap.objs.size ∉ fp:=λz=>wn _ (fpl _ z).2;have DC:s2.heap.objs.size≠C:=zU Dlt
 have fD:∀{pl:List (Addr × Obj)}{H:Hp},(∀p∈pl,p.1∈fp)->H s2.heap.objs.size=none->FpOk X' pl H s2.heap.objs.size:=λ{pl H} hp hn=>by
  refine⟨hn,by rw[xL];exact DC,λz=>?_,.inr (by rw[xs];exact zj _),λx c e z=>?_,λp h z=>?_⟩
  ·obtain ⟨_, o, ho, _⟩ := I4.ok.funs.mem (by exact z)
   rw[xs] at ho;exact wn _ (zw ho)
  ·obtain⟨v,o,q,hd⟩:=I4.cell x c e;rw[z] at q;cases hD4.symm.trans q;exact nc _ _ h0 _ hd
  ·rw [xpn, xl] at h
   exact Dfp (by rw[<- z];exact hp p h)
 have main:codeAny (model X.prog X.w) X.A (.compLoop e 0 (.ref it) (.ref s2.heap.objs.size) X'.env) R0 { s2 with heap:=h4 }:=by
  obtain⟨m0,w0⟩:=w0
  refine loop _ (λn s'=>∃i acc σ' H' ob,Inv X' [(s2.heap.objs.size,ob)] σ' H' s'/\Ql (replicate own.length none++σ) σ'/\tn i s'.heap/\(∀b∈fp,H' b=none)/\DO acc ob/\W i n acc H') ?_ m0 _
   ⟨0,nil,_,H2,_,I4.pin1 (fD (λ_ h=>by cases h) (I2.hok.fresh (zj _))) hD4 (nc _ _ h0),λ_ _ e=>e,st4,λb hb=>(f2 b hb).1,h0,w0⟩
  rintro n s3 ⟨i,acc,σ3,H3,ob,I3,hσ,st3,fr3,rv,w3⟩
  have plD:∀p∈[((s2.heap.objs.size,ob):Addr × Obj)],p.1 ∉ fp:=λp hp=>by
   rw[zq.mp hp];exact Dfp
  rcases turn i n acc H3 w3 with ⟨stop,hsz,q⟩ |⟨go,gz,step⟩
  ·have := T.done X' xP xw xK xc i _ s3 σ3 H3 (λ_ _ => False) I3 (fpb fr3 plD) st3 stop;rw[xA] at this;refine thn this λr s4 ⟨hr,I5⟩=>?_;subst hr
   have un:Un (frs X.stack) fp H2 H3 s2.heap s4.heap:=by
    have:=I5.base;rw[xfs,xex,xH,xs] at this;exact this
   have hok:HOk X.prog X.w H3 s4.heap:=by have:=I5.hok;rw[xP,xw] at this;exact this
   have IX:Inv X pins σ H3 s4:=I2.call' (by rw[I5.os,xs]) un hok I5.bare λb hb=>by
    obtain⟨_,f1,_,f3,f4,f5⟩:=f2 b hb;exact⟨f3,f1,f4,f5⟩
   have old:∀{b:Addr},s2.heap.objs.size<=b->(X.s₀.heap.objs.size<=b/\b≠X.env.locals/\(∀x c,X.env.cells.lookup x=some c->c≠b)/\∀p∈X.pn++pins,p.1≠b):=λ{b} hb=>by
    obtain⟨_,f1,_,f3,f4,f5⟩:=I2.fpOk (H':=λ_=>none) hb rfl;exact⟨zF I2.sz hb,f1,f4,f5⟩
   obtain⟨d1,d2,d3,d4⟩:=old (zj s2.heap.objs.size);obtain⟨c1,c2,c3,c4⟩:=old (b:=C) (xJ Dlt);obtain⟨m,hm,_⟩:=I5.loc;rw[xL] at hm
   have hCn:H3 C=none:=by have:=I5.free;rw[xL] at this;exact this
   obtain⟨hDo,hD⟩:=I5.pinAt (.head _)
   exact fin _ s4 m (IX.track hD d1 d2 d3 d4 (endD i n acc H3 ob s4.heap w3 hsz rv hD hDo)) (q _ hD) hm (by rw[xS (Ne.symm DC)];exact hCn) c2 c1 c3 c4
  ·have := T.item X' xP xw xK xc i _ s3 σ3 H3 (λ_ _ => False) I3 (fpb fr3 plD) st3 go;rw[xA] at this;refine thn this λr s4 ⟨u,hr,h4⟩=>?_;subst hr;refine thn h4 λ_ s5 ⟨x,H5,I5,r5,y5,st5,fr5⟩=>?_;have I5p:=(I5.weak (σ':=replicate own.length none++σ) (I4.len.trans I5.len.symm) hσ).pinned (fpb fr5 plD) (T.obj _ _ st5);have a1:=hg _ s5 _ H5 x u _ I5p r5 (step x H5 y5);rw[xP,xw,xA,xe] at a1;refine thn a1 λ_ s6 ⟨σ6,H6,I6,d6,q6⟩=>?_;have a2:=ht _ s6 σ6 H6 _ I6 q6;rw[xP,xw,xA,xe] at a2;refine thn a2 λb s7 ⟨H7,I7,q7⟩=>?_
   have outer:∀{H:Hp}{s:Shared}{σ7:St}{ob:Obj},Inv X' ((s2.heap.objs.size,ob)::ZD fp s5.heap) σ7 H s->(tn (i+1) s.heap/\(∀b∈fp,H b=none)/\Inv X' [(s2.heap.objs.size,ob)] σ7 H s):=λ{H s σ7 ob} I=>by
    refine⟨T.keep _ _ _ st5 λb hb o e=>(I.pinAt (.tail _ (kf hb e))).1,λb hb=>?_,I.pins_of λp hp=>I.pin p ?_⟩
    ·obtain⟨o,e,d⟩:=T.obj _ _ st5 b hb;exact(I.pinAt (q:=(b,o)) (.tail _ (kf hb e))).2
    ·rw[zq.mp hp];exact zr _ (.head _)
   cases b with
   |false=>
    obtain⟨p1,p2,p5⟩:=outer I7;obtain⟨m',hm,w7⟩:=q7;exact⟨m',hm,i+1,acc,σ6,H7,ob,p5,kk _ d6,p1,p2,rv,w7⟩
   |true=>
    rw[if_pos rfl] at q7 ⊢;refine body (ZD fp s5.heap) σ6 H7 s7 i n acc ob I7 rv gz (fD λp hp=>(YB hp).1) d6 q7 _ λ{acc' ob' σ9 H9 s9 m'} hm w9 rv9 k9 I9=>?_;obtain⟨p1,p2,p5⟩:=outer I9;exact⟨m',hm,i+1,acc',σ9,H9,ob',p5,k9,p1,p2,rv9,w9⟩
 exact start _ _ main λE=>T.self _ 0 _ _ E st4 main
def LstO(acc:List V)(ob:Obj):Prop:=∃its k,ob={ cls:=.type "list",data:=.seq (List.toArray its) k }/\Vals acc its
def LstO.nc(a:List V)(ob:Obj):LstO a ob->∀v,ob.data≠.cell v:=fun⟨_,_,e,_⟩ v z=>by rw[e] at z;cases z
def KL{P:Program}{w:World}{H:Hp}{acc:List V}{ob:Obj}{h:Heap}{D:Addr}(hz:acc.length<=sizeLine):LstO acc ob->h.get? D=some ob->ObjOk P w (upd H D (.lst acc)) h D (.lst acc):=fun⟨its,k,e,rv⟩ ho=>⟨hz,its,k,rv,by rw[ho,e]⟩
def KJ{X':Cx}{pf:List (Addr × Obj)}{D:Addr}{ob:Obj}{acc:List V}{σ:St}{H:Hp}{s:Shared}{v:V}{y:Value}{post:Shared->Prop}(I:Inv X' ((D,ob)::pf) σ H s)(f:∀{H:Hp},H D=none->FpOk X' pf H D)(d:LstO acc ob)(gz:acc.length<sizeLine)(r:RelV v y)
  (k:∀{ob' s'},LstO (acc++[v]) ob'->Inv X' ((D,ob')::pf) σ H s'->post s'):wpAny (model X'.prog X'.w) X'.A (call (.builtin "list.append") [.ref D,y]) (λ_=>post) (λ_ _=>False) s:=by
 obtain⟨its,n,rfl,rv⟩:=d;have p4:=I.pinAt (.head _);have hl:=rv.length
 refine wpAny_list_append_plain (items:=List.toArray its) ⟨n,p4.1⟩ (λh' hpl hs=>?_) (by simp;lia)
 obtain⟨n',hpl⟩:=hpl
 exact k ⟨its++[y],n',rfl,rv.append (.cons r .nil)⟩ (I.bump (t:=s.toks) (f p4.2) hs (by rw[hpl];simp) λv z=>by cases z)
def VL(ok:CompOk X scope M)(hc:X.calm=true)(hg:∀C s2 H2 fp,PG (wO X scope own M C s2 H2 fp) tg g)(ht:∀C s2 H2 fp,PTs (wO X scope own M C s2 H2 fp) ifs tt)(he:∀C s2 H2 fp,PE (wO X scope own M C s2 H2 fp) elt te)
  (I2:Inv X pins σ H2 s2) {it:Addr}{fp:List Addr}{tn:Nat->Heap->Prop}{J:It} (T:Turn X.prog X.w X.K tg J fp it tn) (st2:tn 0 s2.heap) (f2:∀b∈fp,FpOk X pins H2 b)
  {W:Nat->Nat->List V->Hp->Prop} (w0:∃m,W 0 m [] H2) {Qf:V->Hp->Prop}
  (turn : ∀ i m acc H, W i m acc H -> (J.stop i H /\ acc.length <= sizeLine /\ ∀ D, H D = none -> Qf (.ref D) (upd H D (.lst acc))) \/
   (J.go i H /\ acc.length < sizeLine /\ ∀ x H', J.yld i H x H' -> g x (List.replicate own.length none ++ σ) H' λσ2 H2 => σ2.drop own.length = σ /\ tt σ2 H2 λc H3 =>
    if c=true then te σ2 H3 λv H4=>∃m',m'<m/\W (i+1) m' (acc++[v]) H4 else ∃m',m'<m/\W (i+1) m' acc H3))
  {RR:Value->Addr->Result->Shared->Prop}{E:Value->Shared->Prop}
  (fin:∀D C H' s' m,Inv X pins σ H' s'->Qf (.ref D) H'->s'.heap.Ns C m->H' C=none->C≠X.env.locals->X.s₀.heap.objs.size<=C->(∀x c,X.env.cells.lookup x=some c->c≠C)->(∀p∈X.pn++pins,p.1≠C)->RR (.ref D) C (.ok .next) s') :
  wpAny (model X.prog X.w) X.A (newList []) (λacc s3=>wpAny (model X.prog X.w) X.A (newFunctionEnv scope X.env.globals (jy X.env scope.names []) [] X.env.qual none .none (some X.env)) (λcenv s4=>
   codeAny (model X.prog X.w) X.A (.compStart (.ListComp elt [⟨tg,iter,ifs,0⟩] scope pos) 0 (.ref it) acc { cenv with scope:=relabel scope X.env }) (RR acc cenv.locals) s4) E s3) E s2:=by
 refine wa (jt ?_);dsimp only;rw[wE]
 exact UX (ho:=λ_=>.lst) LstO.nc ⟨[],0,rfl,.nil⟩ rfl ok hc (hg _ _ _ _) (ht _ _ _ _) (λ_=>kh) I2 T st2 f2 w0 turn (λ_ _ _ _ _ _ _ hz d _=>KL hz d)
  (λR L turn n s h=>zh7 (elt:=elt) (iter:=iter) (scope:=scope) (pos:=pos) L turn n h) (λ_ _ h k=>codeAny_compStart_list h (k _))
  (λpf σ6 H7 s7 i n acc ob I7 d gz fD kd q7 post fin=>thn (he _ _ _ _ _ s7 σ6 H7 _ I7 q7) λy s8 ⟨v,H8,I8,r8,m',hm,w8⟩=>KJ I8 fD d gz r8 λd' I'=>fin hm w8 d' (kh kd) I') (fin _ _) rfl
end
def zD1{wi:TI}(ok:CompOk X scope M)(hc:X.calm=true)(hi:PI X tg iter wi)(hg:∀C s2 H2 fp,PG (wO X scope own M C s2 H2 fp) tg g)(ht:∀C s2 H2 fp,PTs (wO X scope own M C s2 H2 fp) ifs tt)
  (he:∀C s2 H2 fp,PE (wO X scope own M C s2 H2 fp) elt te) (hs:∀x,foldedSetIterable iter X.env x=pure x:=by intro _;rfl) :
  PE X (.ListComp elt [⟨tg,iter,ifs,0⟩] scope pos) (zl2 wi own.length g tt te):=by
 intro pins s σ H Q I h;rw[eval_ListComp]
 refine wY (use:=none) rfl hs (ZY (ok.cells I)) ok.kind (λx hx hl=>by rw[ok.uniq x hx,hl]) ?_
 refine thn (hi pins s σ H _ I h) λv s1 h1=>thn h1 λitv s2 h2=>?_;obtain⟨it,fp,tn,J,H2,e,I2,T,st2,f2,W,w0,turn⟩:=h2;subst e;refine VL (Qf:=Q) ok hc hg ht he I2 T st2 f2 w0 turn λD C H' s' m IY q hm hCn c2 c1 c3 c4=>⟨m,hm,λh' hs'=>?_⟩;exact⟨.ref D,H',IY.turned (t':=s'.toks) (λb o hb e=>hs'.extBut b o hb e) hCn c2 (.inr c1) c3 c4,rfl,q⟩
def Jz{wi:TI}{i:Nat}{x:Str}{pos' spos:Pos}(hN:X.N.Nodup)(hix:X.N[i]?=some x)(hx:Loc X.env.scope x)(ok:CompOk X scope M)(hc:X.calm=true)(hi:PI X tg iter wi)(hg:∀C s2 H2 fp,PG (wO X scope own M C s2 H2 fp) tg g)
  (ht:∀C s2 H2 fp,PTs (wO X scope own M C s2 H2 fp) ifs tt) (he:∀C s2 H2 fp,PE (wO X scope own M C s2 H2 fp) elt te)
  (hsw:swapsWith (.ListComp elt [⟨tg,iter,ifs,0⟩] scope pos) (some (.Name x pos')) spos.line X.env=pure true:=by rfl) (hf:X.fn x=true\/X.env.scope.names.lookup x=some .local:=by first |exact .inl rfl |exact .inr rfl |assumption)
  (hs:∀x,foldedSetIterable iter X.env x=pure x:=by intro _;rfl):PS X (.Assign [.Name x pos'] (.ListComp elt [⟨tg,iter,ifs,0⟩] scope pos) spos) (zZ4 (zl2 wi own.length g tt te) (zr7 i)):=by
 intro pins s σ H D I h;rw[exec_Assign_Name_used _ _ _ _ hsw];refine zb (wl (zb ?_))
 show wpAny _ _ (do let _ <- comprehension (.ListComp elt [⟨tg,iter,ifs,0⟩] scope pos) scope X.env _ (newList []) false (eval iter X.env) (some (assign (.Name x pos') X.env))) _ _ s
 refine zb (thn (wY (use:=some (assign (.Name x pos') X.env)) (Q:=λ_ s'=>SP X pins D .next s') rfl hs (ZY (ok.cells I)) ok.kind (λx hx hl=>by rw[ok.uniq x hx,hl]) ?_)
  λ_ s' hq=>zg (zg hq))
 refine thn (hi pins s σ H _ I h) λv s1 h1=>thn h1 λitv s2 h2=>?_;obtain⟨it,fp,tn,J,H2,e,I2,T,st2,f2,W,w0,turn⟩:=h2;subst e;refine VL (Qf:=λx H1=>zr7 i x σ H1 D.nx) ok hc hg ht he I2 T st2 f2 w0 turn λD' C H' s' m IY q hm hCn c2 c1 c3 c4=>?_;show wpAny _ _ (assign (.Name x pos') X.env (.ref D')) _ _ s';refine wpAny_assign_Name (WF IY hN hix hx (v:=.ref D') rfl (λs'' I'' ⟨a,hsb,ha⟩=>?_) hf)
 have hCa:C≠a:=by
  rcases ha with z |z
  ·rw[z];exact c2
  ·exact λe=>c3 x a z e.symm
 exact⟨m,hm.sameBut hsb hCa,λh' hs'=>⟨_,H',I''.turned (t':=s''.toks) (λb o hb e=>hs'.extBut b o hb e) hCn c2 (.inr c1) c3 c4,q⟩⟩
end
section
variable {X:Cx}{pins:List (Addr × Obj)}{σ:St}{H:Hp}{s:Shared}
def SqB(K:W.Frag)(b:Bool)(H:Hp)(a:Addr)(xs:List V):Prop:=match b with |true=>SqL K H a xs |false=>SqT K H a xs
def newTup{T:Addr}{x y:V}{u v:Value}{s1:Shared}(I:Inv X pins σ H s)(I1:Inv X pins σ H s1)(hT:s.heap.objs.size<=T)(hn:H T=none)(ho:s1.heap.get? T=some { cls:=.type "tuple",data:=.seq #[u,v] })(rx:RelV x u)(ry:RelV y v) :
  Inv X pins σ (upd H T (.tup [x,y])) s1:=by
 obtain⟨_,f1,_,f3,f4,f5⟩:=I.fpOk (H':=H) hT hn
 exact I1.track hn (zF I.sz hT) f1 f4 f5 ⟨(by show 2<=sizeLine;decide),[u,v],.cons rx (.cons ry .nil),⟨_,ho,rfl,_,rfl⟩⟩
def zv9{h h':Heap}{o:Obj}(hk:∀b x,b ∉ [h.objs.size]->(h.push o).get? b=some x->h'.get? b=some x):∀b x,h.get? b=some x->h'.get? b=some x:=
 λb x e=>hk b x (λz=>absurd (zw e) (by rw[zq.mp z];exact wn _)) (zh _ e)
end
end L2
namespace L2
open PySem PySem.Spec PyProof.Rows PySem.W
structure ExcC(K:W.Frag)(C:Addr):Prop where
 ga:findIn K (.ref C) "__getattribute__" = some (some (.builtin "BaseException.__getattribute__"))
 gt:findIn K (.ref C) "__getattr__" = some none
 cl:findIn K (.ref C) "__class__" = some (some (.builtin "object.__class__"))
 gs:specialIn K (.builtin "object.__class__") "__get__" = some (some (.builtin "getset_descriptor.__get__"))
 tk:takesIn K (.builtin "object.__class__")=some true
 ob:mroIn K C (.type "object")=some true
 be:mroIn K C (.type "BaseException")=some true
 hd:hasDictIn K C=true
def zq2 : ".".intercalate ("object.__class__".cutAt '.').dropLast = "object" := by decide +kernel
def zq1 : "object.__class__".startsWith "lifetime." = false:=w5
def zt6:builtinKind "BaseException.__getattribute__" = some .slot:=w5
def zj6:splitId "BaseException.__getattribute__" = some ("BaseException","__getattribute__"):=w5
section
variable {prog:Program}{w:World}{A:Around}{E:Value->Shared->Prop}{s:Shared}{K:W.Frag}{x C:Addr}
def ExcAt(h:Heap)(x C:Addr):Prop:=∃(ox:Obj) (vs:Array Value),h.get? x=some ox/\ox.cls=.ref C/\ox.data=.fields vs
def ExcAt.type{M:Model}{h:Heap}(hx:ExcAt h x C):Looks M h (typeOf (.ref x)) (.ref C):=by
 obtain⟨ox,vs,e,ec,_⟩:=hx;intro A Q E s k q;unfold typeOf;refine zb (wpAny_loadPart (k _ _ e) ?_);rw[ec];exact zg q
def zH5{R:Result->Shared->Prop}{tp:Value}(c:ExcC K C)(KX:K.In s.heap)(hx:ExcAt s.heap x C)(q:R (.ok (.ret (.ref C))) s) :
  codeAny (model prog w) A (.call (.builtin "getset_descriptor.__get__") { pos:=[.builtin "object.__class__",.ref x,tp] }) R s:=by
 obtain⟨hp,g,d,t,os⟩:=s;have l0:Looks (model prog w) hp (typeOf (.ref x)) (.ref C):=hx.type;have l4:Looks (model prog w) hp (isSubtype (.ref C) (.type "object")) true:=looks_subIn KX c.ob;refine codeAny_call_builtin PySem.F.slot_gs_get.plain PySem.F.entry_gs_get ?_;refine PySem.F.slot_gs_get.check _ _ _ _ _ _ _ _ ?_ (PySem.F.args_gs_get _ _ _) ?_
 ·exact PySem.F.typeOf_object_class
 ·unfold Builtin.«getset_descriptor.__get__» Builtin.Getset_descriptor.descrGet
  wp_walk using l0.at
  rw[zq2]
  wp_walk using l4.at
  refine⟨PySem.Code.quiet_builtin _ zq1,codeAny_builtin PySem.F.entry_object_class ?_⟩;unfold Builtin.«object.__class__» shownTypeOf
  wp_walk using l0.at
  exact q
def zf6{tk:Tok}{Q:PySem.Fin->Shared->Prop}(c:ExcC K C)(KX:K.In s.heap)(hx:ExcAt s.heap x C)(q:Q (.done (.ret (.ref C))) s) :
  wpAny (model prog w) A (Builtin.«object.__getattribute__» ⟨[.ref x,.str "__class__" tk],[]⟩) Q E s:=by
 obtain⟨hp,g,d,t,os⟩:=s;have l1:Looks (model prog w) hp (typeLookup (.ref C) "__class__") (some (.builtin "object.__class__")):=looks_findIn KX c.cl;have l2:Looks (model prog w) hp (specialOf (.builtin "object.__class__") "__get__") (some (.builtin "getset_descriptor.__get__")):=looks_specialIn KX c.gs;have l3:Looks (model prog w) hp (Builtin.ObjectAttr.takesStores (.builtin "object.__class__")) true:=looks_takesIn KX c.tk;have l0:Looks (model prog w) hp (typeOf (.ref x)) (.ref C):=hx.type;unfold Builtin.«object.__getattribute__»
 wp_walk using l0.at,l1.at,l2.at,l3.at
 exact zH5 c KX hx (by wp_walk;exact q)
def zH4{M:Model}{h:Heap}(c:ExcC K C)(KX:K.In h)(hx:ExcAt h x C):Looks M h (isInstance (.ref x) (.type "BaseException")) true:=by
 have l0:Looks M h (typeOf (.ref x)) (.ref C):=hx.type;have l4:Looks M h (isSubtype (.ref C) (.type "BaseException")) true:=looks_subIn KX c.be;intro A Q E s k q;unfold isInstance;exact zb (l0 A _ E s k (l4 A Q E s k q))
def zf7{M:Model}{v:Value}{Q:Unit->Shared->Prop}(c:ExcC K C)(KX:K.In s.heap)(hx:ExcAt s.heap x C)(q:Q () s) :
  wpAny M A (checkBuiltinCall "BaseException.__getattribute__" { pos:=[.ref x,v] }) Q E s:=by
 refine check_slot (i := "BaseException.__getattribute__") (owner := "BaseException") (n := "__getattribute__") (self:=.ref x) (rest:=[v]) (kw:=[]) zt6 zj6 ?_ ?_ q
 ·exact zH4 c KX hx
 ·exact PySem.F.args_bexc_ga _ _
def zr8{v:Value}{tk:Tok}{R:Result->Shared->Prop}(c:ExcC K C)(KX:K.In s.heap)(hx:ExcAt s.heap x C)(hv:v=.str "__class__" tk)(q:R (.ok (.ret (.ref C))) s) :
  codeAny (model prog w) A (.call (.builtin "BaseException.__getattribute__") { pos:=[.ref x,v] }) R s:=by
 refine codeAny_call_builtin (PySem.F.attrBase_ValueError).ga.plain PySem.F.entry_bexc_ga ?_;refine zf7 c KX hx ?_;subst hv;exact zf6 c KX hx q
def zr9{Q:Option Value->Shared->Prop}(c:ExcC K C)(KX:K.In s.heap)(hx:ExcAt s.heap x C)(q:Q (some (.ref C)) { s with toks:=s.toks+1 }) :
  wpAny (model prog w) A (getAttr? (.ref x) "__class__") Q E s:=by
 obtain⟨hp,g,d,t,os⟩:=s;have l0:Looks (model prog w) hp (typeOf (.ref x)) (.ref C):=hx.type;have l1:Looks (model prog w) hp (typeLookup (.ref C) "__getattribute__") (some (.builtin "BaseException.__getattribute__")):=looks_findIn KX c.ga;unfold getAttr? getAttrBy? getAttrBy getAttrByItsOwn;have l2:Looks (model prog w) hp (typeLookup (.ref C) "__getattr__") none:=looks_findIn KX c.gt;have l3:∀self,bindSpecial (.builtin "BaseException.__getattribute__") self=pure (.builtin "BaseException.__getattribute__",[self]):=(PySem.F.attrBase_ValueError).ga.bind
 wp_walk using l0.at,l1.at,l2.at,wpAny_of_eq (l3 _)
 refine zr8 c KX hx rfl ?_;show wpAny (model prog w) A (handedOut (.ref C)) _ _ _;unfold handedOut
 wp_walk
 exact q
def zr0(c:ExcC K C):KitX K (.ref x) (.ref C) λh=>ExcAt h x C where
 ty:=λM h _ hx=>hx.type
 it:=λM h KX _ A Q E s k q=>mc_isType (s:=s) (λa o e=>k a o (KX a o e)) c.hd A Q E s (λ_ _ z=>z) q
 ne:=λh tp dd its n sl KX e=>by
  have hd:=c.hd;unfold hasDictIn clsIn at hd;refine beq_eq_false_iff_ne.mpr λz=>?_;injection z with z;subst z
  split at hd
  ·rename_i hl;have:=KX _ _ hl;rw[e] at this;cases this
  ·cases hd
 ca:=λKX hx q=>zr9 c KX hx q
end
end L2
namespace L2
theorem vh{h b b':Heap}:∀{l:List Env},h.FunFrames b l->(∀x∈frs l,b'.get? x=none)->h.FunFrames b' l
 |[],_,_=>trivial
 |env::r,hl,hb=>by
  obtain⟨hk,⟨L,o,hf,hn,ho,hd⟩,hr⟩:=hl
  refine⟨hk,⟨L,o,hf,hb L (by unfold frs;rw[wL,hf];exact zo),ho,hd⟩,vh hr λx hx=>hb x ?_⟩
  unfold frs;rw[wL,hf];exact zc _ hx
structure Fl(h:Heap)(a T:Addr)(cls:Value):Prop where
 ne:T≠a
 ex:∃(oe oT:Obj) (vs ts:Array Value) (a0:Value),h.get? a=some oe/\(oe.cls=cls/\vs[0]?=some a0)/\oe.data=.fields vs/\vs[1]?=some (.ref T)/\h.get? T=some oT/\oT.data=.fields ts/\ts[3]?=some .none
structure Kp(l:List Env)(hid:List Addr)(h h':Heap):Prop where
 keep:∀b o,h.get? b=some o->b ∉ frs l->b ∉ hid->h'.get? b=some o
 slot:∀b o,h.get? b=some o->b∈frs l->∃sl,h'.get? b=some { o with slots:=sl }
def jX{h:Heap}{l:List Addr}:(W.hideAll h l).StaysIn h:=λ_ _ e=>W.of_hideAll l e
section
variable {M:Model}{A:Around}{E:Value->Shared->Prop}{s:Shared}{B:Heap}{env:Env}{outer:List Env}{L e:Addr}{cls:Value}{Q:Unit->Shared->Prop}
def Fl.of_traced{h h':Heap}{l:List Env}{hid:List Addr}{a0:Value}(ff:h'.FunFrames (W.hideAll h (hid++frs l)) l)(tr:h'.TracedW (W.hideAll h (hid++frs l)) e cls a0):∃T,Fl h' e T cls/\(h.get? T=none\/T∈hid):=by
 obtain⟨oe,vs,T,oT,ts,h1,⟨h2,h3⟩,h4,h5,h6,h7,h8,h9,h10⟩:=tr;refine⟨T,⟨h7,oe,oT,vs,ts,a0,h1,⟨h2,h3⟩,h4,h5,h8,h9,h10⟩,?_⟩
 cases q:h.get? T with
 |none=>exact .inl rfl
 | some o =>
  refine .inr ?_
  by_cases hm:T∈hid++frs l
  ·rcases zI.mp hm with z | z
   ·exact z
   ·obtain⟨_,o',ho',hd'⟩:=ff.mem (b:=T) z;rw[h8] at ho';cases ho';exact absurd h9 (hd' ts)
  ·rw[W.hideAll_get _ q hm] at h6;cases h6
def Kp.of{h h':Heap}{l:List Env}{hid:List Addr}(ffh:h.FunFrames B l)(st:(W.hideAll h (hid++frs l)).StaysIn h')
  (up:∀(b:Addr) (o:Obj),h.get? b=some o->(∀vs:Array Value,o.data≠.fields vs)->∃sl,h'.get? b=some { cls:=o.cls,dict:=o.dict,data:=o.data,slots:=sl }):Kp l hid h h' where
 keep:=λb o e h1 h2=>st b o (W.hideAll_get _ e λz=>(zI.mp z).elim h2 h1)
 slot:=λb o e hb=>by
  obtain⟨_,o',ho',hd⟩:=ffh.mem (b:=b) hb;rw[e] at ho';cases ho';exact up b o e hd
def zd1{oe:Obj}{vs:Array Value}{a0:Value}(hf:A.frames=some (env::outer))(ff:s.heap.FunFrames B (env::outer))(hL:env.frame=some L)(he:s.heap.get? e=some oe)(hd:oe.data=.fields vs)(h1:vs[1]?=some .none)(h0:vs[0]?=some a0)
  (q:∀(h':Heap) (T:Addr),Kp (env::outer) [e] s.heap h'->Fl h' e T oe.cls->s.heap.get? T=none->Q () { s with heap:=h' }):wpAny M A (leaving env (.ref e)) Q E s:=by
 refine wpAny_leaving_firstW (base:=W.hideAll s.heap ([e]++frs (env::outer))) hf (vh ff λx hx=>W.hideAll_none _ (zr _ hx)) hL he jX (W.hideAll_none _ (by simp)) hd h1 h0 λh' hl=>?_
 obtain⟨st,ff',tr,up⟩:=hl;obtain⟨T,fl,hT⟩:=Fl.of_traced ff' tr
 refine q h' T (Kp.of ff st up) fl (hT.resolve_right λz=>fl.ne (by simpa using z))
def JS{T:Addr}(hf:A.frames=some (env::outer))(ff:s.heap.FunFrames B (env::outer))(hL:env.frame=some L)(hfl:Fl s.heap e T cls)
  (q:∀(h':Heap) (T':Addr),Kp (env::outer) [e,T] s.heap h'->Fl h' e T' cls->(s.heap.get? T'=none\/T'=T)->Q () { s with heap:=h' }):wpAny M A (leaving env (.ref e)) Q E s:=by
 obtain⟨ne,oe,oT,vs,ts,a0,h1,⟨h2,h3⟩,h4,h5,h6,h7,h8⟩:=hfl
 refine wpAny_leaving_nextW (base:=W.hideAll s.heap ([e,T]++frs (env::outer))) (cls:=cls) (a0:=a0) hf (vh ff λx hx=>W.hideAll_none _ (zr _ hx)) hL
  ⟨oe,vs,T,oT,ts,h1,⟨h2,h3⟩,h4,h5,W.hideAll_none _ (by simp),ne,h6,h7,h8⟩ jX (W.hideAll_none _ (by simp)) λh' hl=>?_
 obtain⟨st,ff',tr,up⟩:=hl;obtain⟨T',fl,hT⟩:=Fl.of_traced ff' tr
 exact q h' T' (Kp.of ff st up) fl (hT.imp_right λz=>by
  rcases zd.mp z with z |z
  ·exact absurd z fl.ne
  ·simpa using z)
def zt4{T:Addr}(hf:A.frames=some (env::outer))(ff:s.heap.FunFrames B (env::outer))(hL:env.frame=some L)(hfl:Fl s.heap e T cls)
  (q:∀(h':Heap) (T':Addr),Kp (env::outer) [e,T,T'] s.heap h'->Fl h' e T' cls->(s.heap.get? T'=none\/T'=T)->Q () { s with heap:=h' }) :
  wpAny M A (noteFrame (.ref e) env) (λ_ s2=>wpAny M A (setFlight (.ref e) none) Q E s2) E s:=by
 obtain⟨ne,oe,oT,vs,ts,a0,h1,⟨h2,h3⟩,h4,h5,h6,h7,h8⟩:=hfl;have ffb:=vh (b':=W.hideAll s.heap ([e,T]++frs (env::outer))) ff λx hx=>W.hideAll_none _ (zr _ hx)
 refine wpAny_noteFrame_onW (base:=W.hideAll s.heap ([e,T]++frs (env::outer))) (cls:=cls) (a0:=a0) hf ffb hL
  ⟨oe,vs,T,oT,ts,h1,⟨h2,h3⟩,h4,h5,W.hideAll_none _ (by simp),ne,h6,h7,h8⟩ jX (W.hideAll_none _ (by simp)) λh' hl=>?_
 obtain⟨st,ff',tr,up⟩:=hl;refine wpAny_setFlight_noneW (base:=W.hideAll s.heap ([e,T]++frs (env::outer))) (l:=env::outer) (cls:=cls) (a0:=a0) st ff' tr λh2' st2 ff2 tr2 up2=>?_;obtain⟨T',fl,hT⟩:=Fl.of_traced ff2 tr2
 have hT':s.heap.get? T'=none\/T'=T:=hT.imp_right λz=>by
  rcases zd.mp z with z |z
  ·exact absurd z fl.ne
  ·simpa using z
 have kp:Kp (env::outer) [e,T] s.heap h2':=Kp.of ff st2 λb o eb hd=>by
  obtain⟨sl,q1⟩:=up b o eb hd;exact⟨sl,up2 b _ q1 hd⟩
 refine q h2' T' ⟨λb o eb n1 n2=>kp.keep b o eb n1 λz=>n2 (by
  rcases zd.mp z with z |z
  ·simp[z]
  ·simp[zq.mp z]),kp.slot⟩ fl hT'
end
section
variable {P:Program}{w:World}{fs ex:List Addr}{H H1:Hp}{h h1 h2:Heap}{l:List Env}{hid hid':List Addr}{a:Addr}{o:HO}
def ObjOk.obj(x:ObjOk P w H h a o):∃u,h.get? a=some u:=by
 cases o with
 |lst xs=>obtain⟨_,_,_,_,e⟩:=x;exact⟨_,e⟩
 |tup xs=>obtain⟨_,_,_,_,e,_⟩:=x;exact⟨_,e⟩
 |dK kvs=>obtain⟨_,_,_,_,o,_,_,e,_⟩:=x;exact⟨_,e⟩
 |dT kvs=>obtain⟨_,_,_,_,o,_,_,e,_⟩:=x;exact⟨_,e⟩
 |set S n=>obtain⟨o,_,_,_,e,_⟩:=x;exact⟨_,e⟩
 |ins C dx fs=>obtain⟨_,_,_,e,_⟩:=x;exact⟨_,e⟩
 |own y=>exact x
 |xd fs=>obtain⟨_,⟨_,_,_,e,_⟩,_⟩:=x;exact⟨_,e⟩
 |rng lo hi=>obtain⟨_,_,_,e⟩:=x;exact⟨_,e⟩
 |frz ob u=>obtain⟨e,_⟩:=x;exact⟨_,e⟩
 |tbl ps=>exact⟨_,show h.get? a=some _ from x⟩
 |met f y=>exact⟨_,show h.get? a=some _ from x⟩
 |cot q=>obtain⟨_,e,_⟩:=x;exact⟨_,e⟩
 |ext φ=>obtain⟨_,e,_⟩:=x;exact e
def HOk.nil_at(x:HOk P w H h)(e:h.get? a=none):H a=none:=by
 cases q:H a with
 |none=>rfl
 |some o=>obtain⟨u,z⟩:=(x a o q).obj;rw[e] at z;cases z
def HOk.track(x:HOk P w H h)(hn:H a=none)(new:ObjOk P w (upd H a o) h a o):HOk P w (upd H a o) h:=λb u e=>by
 by_cases hb:b=a
 ·subst hb;rw[yd] at e;cases e;exact new
 ·rw [xS hb] at e
  exact(x b u e).stay (λc v _ q=>q) (λc q=>by rw[xS (wJ q hn)];exact q) (λc xs q=>by rw[xS (wJ q hn)];exact q) λc o u q=>by rw[xS (wJ q hn)];exact q
def Kp.trans(k:Kp l hid h h1)(k':Kp l hid' h1 h2):Kp l (hid++hid') h h2 where
 keep:=λb o e n1 n2=>k'.keep b o (k.keep b o e n1 λz=>n2 (xR _ z)) n1 λz=>n2 (zr _ z)
 slot:=λb o e hb=>by
  obtain⟨sl,e1⟩:=k.slot b o e hb;obtain⟨sl',e2⟩:=k'.slot b _ e1 hb;exact⟨sl',e2⟩
def Un.kp(u:Un fs ex H H1 h h1)(k:Kp l hid h1 h2)(hl:∀b∈frs l,b∈fs\/h.get? b=none)(hh:∀b∈hid,h.get? b=none):Un fs ex H H1 h h2 where
 keep:=λb o e n hb hx=>k.keep b o (u.keep b o e n hb hx) (λz=>(hl b z).elim hb λq=>by rw[e] at q;cases q) λz=>by rw[hh b z] at e;cases e
 slot:=λb o e n hb hx=>by
  obtain⟨sl,e1⟩:=u.slot b o e n hb hx
  by_cases hm:b∈frs l
  ·obtain⟨sl',e2⟩:=k.slot b _ e1 hm;exact⟨sl',e2⟩
  ·exact⟨sl,k.keep b _ e1 hm λz=>by rw[hh b z] at e;cases e⟩
 free:=u.free
 there:=λb o e hx=>by
  obtain⟨o',e1⟩:=u.there b o e hx
  by_cases hm:b∈frs l
  ·obtain⟨sl',e2⟩:=k.slot b _ e1 hm;exact⟨_,e2⟩
  ·exact⟨_,k.keep b _ e1 hm λz=>by rw[hh b z] at e;cases e⟩
 tups:=u.tups
 frzs:=u.frzs
 tbls:=u.tbls
def HOk.kp(x:HOk P w H1 h1)(k:Kp l hid h1 h2)(hf:∀b∈frs l,H1 b=none)(hh:∀b∈hid,H1 b=none):HOk P w H1 h2:=λa o e=>
 (x a o e).stay (λb u hb q => k.keep b u q (λz => by
  have n:=hf b z
  rcases hb with rfl |hb
  ·rw[e] at n;cases n
  ·rw[hb] at n;cases n) λz=>by
  have n:=hh b z
  rcases hb with rfl |hb
  ·rw[e] at n;cases n
  ·rw[hb] at n;cases n) (λ_ q=>q) (λ_ _ q=>q) λ_ _ _ q=>q
def Un.track(u:Un fs ex H H1 h h1)(hn:H1 a=none)(ha:h.get? a=none):Un fs ex H (upd H1 a o) h h1 where
 keep:=u.keep
 slot:=u.slot
 free:=λb ob e n hx=>by
  rw[xS (λz=>by rw[z,ha] at e;cases e)]
  exact u.free b ob e n hx
 there:=u.there
 tups:=λb xs e=>by
  have q:=u.tups b xs e;rw[xS (wJ q hn)];exact q
 frzs:=λb ob xs e=>by
  have q:=u.frzs b ob xs e;rw[xS (wJ q hn)];exact q
 tbls:=λb ps e=>by
  obtain⟨m,q⟩:=u.tbls b ps e
  exact⟨m,by rw[xS (wJ q hn)];exact q⟩
end
def CX1(P:Program)(w:World):CXT:=λouter H s E e s'=>∃(a T:Addr) (cls:Value) (H':Hp),e=.ref a/\s'.os=s.os/\AllBare s'.gens/\Un (frs outer) [] H H' s.heap s'.heap/\HOk P w H' s'.heap /\
 Fl s'.heap a T cls/\s.heap.get? a=none/\s.heap.get? T=none/\H' a=none/\H' T=none/\E cls none H'
section
variable {P:Program}{w:World}{K:W.Frag}{mg:Str->Option Value}{base:Heap}{N:List Str}{qual:Str}{scope:Scope}{f:Addr}{cd:Value}{A:Around}{outer:List Env}{s:Shared}{H:Hp}{E:XK}
def zK8{pins:List (Addr × Obj)}{σ:St}{H1:Hp}{s1:Shared}{h':Heap}{e C:Addr}{vs:List Value}(I:Inv (Wy (CX1 P w) P w K mg base N qual scope f cd A outer s H E) pins σ H1 s1)(m:s1.heap.MadeExcOf h' e (.ref C) vs)(q:E (.ref C) none H1) :
  (Wy (CX1 P w) P w K mg base N qual scope f cd A outer s H E).xe (.ref e) { s1 with heap:=h' }:=by
 obtain⟨t,he,ht,_⟩:=m.there;have ff:h'.FunFrames base (envOfC qual scope s.heap.objs.size f cd::outer):=Heap.FunFrames.of_keeps (λb o eb _=>⟨o,m.keeps b o eb,rfl⟩) I.stack
 have e0:s.heap.get? e=none:=by
  cases q:s.heap.get? e with
  |none=>rfl
  |some o=>
   obtain⟨o',z⟩:=I.base.there e o q (λz=>nomatch z)
   rw[m.new] at z;cases z
 have eH:H1 e=none:=I.hok.nil_at m.new;show wpAny _ _ (leaving (envOfC qual scope s.heap.objs.size f cd) (.ref e)) _ _ _;refine zd1 (s:={ s1 with heap:=h' }) (B:=base) (outer:=outer) (L:=s.heap.objs.size) (a0:=.ref t) I.ok.frames ff rfl he rfl rfl rfl λh2 T kp fl hT=>?_;have un:Un (frs outer) [] H H1 s.heap h':=Un.trans I.base (Un.kept m.keeps)
 have T0:s.heap.get? T=none:=by
  cases q:s.heap.get? T with
  |none=>rfl
  |some o=>
   obtain⟨o',z⟩:=un.there T o q (λz=>nomatch z)
   have hT':h'.get? T=none:=hT;rw[hT'] at z;cases z
 have hok':HOk P w H1 h':=I.hok.kept m.keeps;have fr:∀b∈frs (envOfC qual scope s.heap.objs.size f cd::outer),H1 b=none:=I.stkFree;refine⟨e,T,_,H1,rfl,I.os,I.bare,un.kp kp (λb hb=>?_) (λb hb=>?_),hok'.kp kp fr (λb hb=>?_),fl,e0,T0,eH,hok'.nil_at hT,q⟩
 ·rcases zd.mp (I.stkSub b hb) with z | z
  ·right
   rw[z];exact Heap.get?_none_of_le (zj _)
  ·exact .inl z
 ·rw[zq.mp hb];exact e0
 ·rw[zq.mp hb];exact eH
end
abbrev Qt:List Value:=[.type "ValueError",.type "Exception",.type "BaseException",.type "object"]
def zH3{K:W.Frag}{C:Addr}{bmB:List Value}{newId:String}(h:W.excIn K C bmB newId=true) :
  ∃nm q N bs bm hdct sn sub ab col dd k0 k1 k2 k3 k5,K.lookup C=some (excClassObj nm q C N bs bm hdct sn sub ab col dd k0 k1 k2 k3 k5 newId)/\W.tailIn K bmB bm=true/\W.nsOkIn K N=true/\W.nsIn K N "__init__" = some none:=by
 unfold W.excIn at h
 split at h
 ·rename_i dd cd sl hl
  split at h
  ·rename_i C' bm k0 k1 k2 k3 n k5 hm hs;simp only[xg,beq_iff_eq,Bool.not_eq_true'] at h;obtain⟨⟨⟨⟨⟨e1,e2⟩,e3⟩,e4⟩,e5⟩,e6⟩:=h;obtain⟨nm,bs,mr,N,q,hdct,sn,sub,ab,col,hd⟩:=cd;subst e1 e2;simp only at hm e3 e5 e6;subst hm e3;refine⟨nm,q,N,bs,bm,hdct,sn,sub,ab,col,dd,k0,k1,k2,k3,k5,?_,e4,e5,e6⟩;rw[hl]
   have:sl=#[k0,k1,k2,k3,some (.builtin n),k5]:=by
    apply Array.toList_inj.mp;exact hs
   rw[this]
  ·cases h
 ·cases h
section
variable {X:Cx}
def zn6{x:Str}{C:Addr}{np cpos pos:Pos}{e:Expr}{es:List Expr}{ta:TA}{RX:Hp->Prop}(hc:X.calm=true)(hg:Gl X x)(hm:X.mg x=some (.ref C))(hx:W.excIn X.K C Qt "ValueError.__new__" = true)(ha:PA X (e::es) ta)
  (xe:∀(pins:List (Addr × Obj)) (σ:St) (H:Hp) (s:Shared) (h':Heap) (a:Addr) (vs:List Value),Inv X pins σ H s->s.heap.MadeExcOf h' a (.ref C) vs->RX H->X.xe (.ref a) { s with heap:=h' })
  (hdb:(x == ("__debug__" : Str))=false:=by decide) (he:starEach (e::es) X.env=(false,eval e X.env)::starEach es X.env:=by rfl) (hpl:(backTo cpos (starEach (e::es) X.env)).any (·.1)=false:=by rfl)
  (hbk:∃y r,backTo cpos (starEach (e::es) X.env)=(false,y)::r:=by exact⟨_,_,rfl⟩) :
  PS X (.Raise (some (.Call (.Name x np) (e::es) [] cpos)) none pos) (λ_ σ H=>ta σ H λvs H1=>vs.length<=sizeLine/\RX H1):=by
 intro pins s σ H D I h;obtain⟨nm,q,N,bs,bm,hdct,sn,sub,ab,col,dd,k0,k1,k2,k3,k5,hl,ht,hn,hi⟩:=zH3 hx;have hT:∀{h:Heap},X.K.In h->OwnTail h Qt bm:=λk=>W.tail_of_in k ht
 have hB:bm.contains (.type "BaseException")=true:=(hT I.kIn).hasType q9
 have hNs:X.base.Ns N (X.base.nsMap N):=.of_isNs (W.isNs_of_in I.ok.mod.kin hn);refine wpAny_Raise_call_subT (C:=C) (nm:=nm) (q:=q) (N:=N) (bs:=bs) (bm:=bm) (hdct:=hdct) (sn:=sn) (sub:=sub) (ab:=ab) (col:=col) (dd:=dd) (k0:=k0) (k1:=k1) (k2:=k2) (k3:=k3) (k5:=k5) (mN:=X.base.nsMap N) PySem.F.excBase_ValueError hB (I.ok.hd hc) hpl (W.nsMap_none_of_in I.ok.mod.kin hn hi) ?_;refine Zo I hg hm ⟨rfl,?_⟩ hdb;obtain⟨y,r,ey⟩:=hbk;have hA:=ha cpos pins s σ H _ I h;rw[ey] at hA ⊢
 refine Calls.evalArgs_plain (thn hA λus s1 ⟨vs,H1,I1,rv,z,q1⟩=>⟨rfl,by rw[<- rv.length];exact z,I1.kIn _ _ hl,hNs.keeps I1.bk,hT I1.kIn,λh' a m=>xe pins σ H1 s1 h' a us I1 m q1⟩)
end
section
variable {X:Cx}{pins:List (Addr × Obj)}{σ:St}{H:Hp}{s:Shared}
def zz6{M:Model}{A:Around}{E:Value->Shared->Prop}{B:Heap}{l:List Env}{e T:Addr}{cls:Value}{Q:Unit->Shared->Prop}(ff:s.heap.FunFrames B l)(hfl:Fl s.heap e T cls)
  (q:∀(h':Heap) (T':Addr),Kp l [e,T] s.heap h'->Fl h' e T' cls->(s.heap.get? T'=none\/T'=T)->Q () { s with heap:=h' }):wpAny M A (setFlight (.ref e) none) Q E s:=by
 obtain⟨ne,oe,oT,vs,ts,a0,h1,⟨h2,h3⟩,h4,h5,h6,h7,h8⟩:=hfl;have ffb:=vh (b':=W.hideAll s.heap ([e,T]++frs l)) ff λx hx=>W.hideAll_none _ (zr _ hx)
 refine wpAny_setFlight_noneW (base:=W.hideAll s.heap ([e,T]++frs l)) (l:=l) (cls:=cls) (a0:=a0) jX ffb ⟨oe,vs,T,oT,ts,h1,⟨h2,h3⟩,h4,h5,W.hideAll_none _ (by simp),ne,h6,h7,h8⟩ λh2' st2 ff2 tr2 up2=>?_
 obtain⟨T',fl,hT⟩:=Fl.of_traced ff2 tr2
 exact q h2' T' (Kp.of ff st2 λb o eb hd=>⟨o.slots,up2 b o eb hd⟩) fl (hT.imp_right λz=>by
  rcases zd.mp z with z |z
  ·exact absurd z fl.ne
  ·simpa using z)
abbrev Cx.suite(X:Cx)(ev:Value):Cx:={ X with A:=X.A.mark (some ev),calm:=false,xe:=λ_ _=>False }
def Cx.Ok.suite(ok:X.Ok)(ev:Value):(X.suite ev).Ok:=
 ⟨ok.mod,ok.kind,ok.glob,ok.blt,ok.above,ok.inj,ok.has,ok.cab,λz=>(nomatch z),ok.frames,ok.stk,ok.exf,ok.bs,ok.bsz,ok.noex,ok.exfs,ok.funs,ok.frf⟩
def Inv.suite(I:Inv X pins σ H s)(ev:Value):Inv (X.suite ev) pins σ H s:=⟨I.ok.suite ev,I.os,I.bare,I.base,I.loc,I.cell,I.free,I.freeC,I.pin,I.hok,I.len⟩
def Inv.unsuite{ev:Value}(I:Inv (X.suite ev) pins σ H s)(ok:X.Ok):Inv X pins σ H s:=⟨ok,I.os,I.bare,I.base,I.loc,I.cell,I.free,I.freeC,I.pin,I.hok,I.len⟩
def Qv{M:Model}{A:Around}{E:Value->Shared->Prop}{i:Nat}{x:Str}{v:V}{Q:Unit->Shared->Prop}(I:Inv X pins σ H s)(hN:X.N.Nodup)(hi:X.N[i]?=some x)(hk:X.env.scope.names.lookup x=some .local)(hv:σ[i]?=some (some v))
  (h:∀s',Inv X pins (σ.set i none) H s'->Q () s'):wpAny M A (unbindName X.env x) Q E s:=by
 obtain⟨m,hn,hl⟩:=id I.loc
 have hcls:(X.env.scope.kind == .class||(X.env.scope.kind == .module&&X.env.locals != X.env.globals))=false:=by rw[I.ok.kind];rfl
 have hiσ:i<σ.length:=by rw[I.len];exact(zN.mp hi).1
 obtain⟨u,_,lk⟩:=hl i x v hi hv (.inl hk)
 have hmx:m x=some u:=by
  rcases lk with ⟨_,e⟩ |⟨z,_⟩
  ·exact e
  ·rcases z with z | z
   ·have z':X.env.scope.names.lookup x=some .cell:=z;rw[hk] at z';cases z'
   ·have z':X.env.scope.names.lookup x=some .free:=z;rw[hk] at z';cases z'
 refine wpAny_unbindName_local hk hn hmx hcls λh' u' hn' hs=>?_;obtain⟨oL,_,_,hoL,_⟩:=id hn
 have tracked:HOk X.prog X.w H h':=λb ob e=>by
  refine(I.hok b ob e).stay (λc w' hc q=>(hs.2 c ?_).trans q) (λ_ q=>q) (λ_ _ q=>q) λ_ _ _ q=>q;rintro rfl;have hfree:=I.free
  rcases hc with rfl |hc
  ·rw[hfree] at e;cases e
  ·rw[hfree] at hc;cases hc
 refine h _ ⟨I.ok,I.os,I.bare,⟨λb o e n hb hx=>?_,λb o e n hb hx=>?_,I.base.free,λb o e hx=>?_,I.base.tups,I.base.frzs,I.base.tbls⟩,⟨_,hn',λj y v' e1 e2 e3=>?_⟩,λy c e=>?_,I.free,I.freeC,λp hp=>?_,tracked,by simpa using I.len⟩
 ·exact(hs.2 b (zU (zR (zw e) I.ok.above))).trans (I.base.keep b o e n hb hx)
 ·obtain⟨sl,e1⟩:=I.base.slot b o e n hb hx;exact⟨sl,(hs.2 b (zU (zR (zw e) I.ok.above))).trans e1⟩
 ·obtain⟨o',e1⟩:=I.base.there b o e hx;exact⟨o',(hs.2 b (zU (zR (zw e) I.ok.above))).trans e1⟩
 ·by_cases hj : j = i
  ·subst hj;rw[xt hiσ] at e2;cases e2
  ·rw [xI (Ne.symm hj)] at e2;obtain⟨u',r',q⟩:=hl j y v' e1 e2 e3;refine⟨u',r',?_⟩
   rcases q with ⟨k,e⟩ |⟨k,c,e,z⟩
   ·refine .inl ⟨k,?_⟩;have:y≠x:=λe=>hj (We hN e1 (e ▸ hi));simp[this,e]
   ·exact .inr ⟨k,c,e,z.sameBut hs (I.cne y c e)⟩
 ·obtain⟨w',z⟩:=I.cell y c e;exact⟨w',z.sameBut hs (I.cne y c e)⟩
 ·obtain⟨e,n,ne,nf,d⟩:=I.pin p hp;exact⟨(hs.2 p.1 ne).trans e,n,ne,nf,d⟩
end
abbrev HO.exc(a C:Addr):HO:=.ext λh=>ExcAt h a C
def Fl.at{h:Heap}{a T C:Addr}(f:Fl h a T (.ref C)):ExcAt h a C:=by
 obtain⟨oe,oT,vs,ts,a0,h1,⟨h2,h3⟩,h4,_⟩:=f.ex;exact⟨oe,vs,h1,h2,h4⟩
def zU4{P:Program}{w:World}{H:Hp}{h:Heap}{a C:Addr}(x:ExcAt h a C):ObjOk P w H h a (.exc a C):=by
 refine⟨x,?_,λh1 h2 ⟨ox,vs,e,r⟩ k=>⟨ox,vs,k _ e,r⟩⟩;obtain⟨ox,vs,e,_⟩:=x;exact⟨ox,e⟩
section
variable {X:Cx}{k i:Nat}{f C CB:Addr}{fd:FuncData}{ps:List Str}{sp:Sp}{x xB n:Str}{p pos apos np hpos tpos:Pos}{e:Expr}{es:List Expr}{ta:TA}{ts:TS}{b0:Stmt}{suite:List Stmt}
def zt8(C:Addr)(i:Nat)(ts:TS)(D:Ends)(σ:St):XK:=λcls _ H2=>cls=.ref C/\∀a,H2 a=none ->
 ts { nx:=λσ' H'=>(∃v,σ'[i]?=some (some v))/\D.nx (σ'.set i none) H',rt:=λ_ _=>False } (σ.set i (some (.ref a))) (upd H2 a (.exc a C))
def zf2{pins:List (Addr × Obj)}{σ:St}{H1:Hp}{s1 s2:Shared}{D:Ends}{ev:Value}(I1:Inv X pins σ H1 s1)(hq:CX1 X.prog X.w X.stack H1 s1 (zt8 C i ts D σ) ev s2)
  (hgB:Gl X xB) (hmB:X.mg xB=some (.ref CB)) (hex:W.exmOne X.K (.ref C) (.ref CB)=some true) (hN:X.N.Nodup) (hi:X.N[i]?=some n) (hl:X.env.scope.names.lookup n=some .local)
  (hst:X.stack=X.env::X.outer) (hfr:X.env.frame=some X.env.locals) (hs:∀ev,PSs (X.suite ev) (b0::suite) ts) (hdB:(xB == ("__debug__" : Str))=false) :
  wpAny (model X.prog X.w) X.A (noteFrame ev X.env) (λ_ s₂=>wpAny (model X.prog X.w) X.A (setFlight ev none) (λ_ s₃=>wpAny (model X.prog X.w) X.A (handleBy ev X.env [.ExceptHandler (some (.Name xB np)) (some n) (b0::suite) hpos]) (SP X pins D) X.xe s₃) X.xe s₂) X.xe s2:=by
 obtain⟨a,T,cls,H2,rfl,hos,hbare,un,hok,fl,a0,T0,aH,TH,rfl,hsu⟩:=hq
 have I2:Inv X pins σ H2 s2:=I1.call' hos un hok hbare (ch:=[]) λ_ z=>nomatch z
 have fr:∀b∈frs (X.env::X.outer),H2 b=none:=λb hb=>I2.stkFree b (by rw[hst];exact hb)
 have ffr:X.A.frames=some (X.env::X.outer):=by rw[<- hst];exact I1.ok.frames
 have ff2:s2.heap.FunFrames X.base (X.env::X.outer):=by rw[<- hst];exact I2.stack
 have mk:∀(h':Heap) (hid:List Addr),Kp (X.env::X.outer) hid s2.heap h'->(∀b∈hid,s1.heap.get? b=none/\H2 b=none)->Inv X pins σ H2 { s2 with heap:=h' }:=λh' hid kp hh=>
  I1.call' (s':={ s2 with heap:=h' }) (ch:=[]) hos (un.kp kp (λb hb=>.inl (by rw[hst];exact hb)) λb hb=>(hh b hb).1) (hok.kp kp fr λb hb=>(hh b hb).2) hbare λ_ z=>nomatch z
 have mkE:∀(h':Heap) (hid:List Addr),Kp (X.env::X.outer) hid s2.heap h'->(∀b∈hid,s1.heap.get? b=none/\H2 b=none)->ExcAt h' a C->Inv X pins σ (upd H2 a (.exc a C)) { s2 with heap:=h' }:=λh' hid kp hh hx=>
  I1.call' (s':={ s2 with heap:=h' }) (ch:=[]) hos ((un.kp kp (λb hb=>.inl (by rw[hst];exact hb)) λb hb=>(hh b hb).1).track aH a0) ((hok.kp kp fr λb hb=>(hh b hb).2).track aH (zU4 hx)) hbare λ_ z=>nomatch z
 have nT:∀{h':Heap}{T':Addr}{hid:List Addr},Kp (X.env::X.outer) hid s2.heap h'->(h'.get? T'=none\/T'=T)->(∀b∈hid,s1.heap.get? b=none/\H2 b=none)->s1.heap.get? T'=none/\H2 T'=none:=λ{h' T' hid} kp hT hh=>by
  rcases hT with hT |rfl
  ·refine ⟨?_, (mk h' hid kp hh).hok.nil_at hT⟩
   cases z:s1.heap.get? T' with
   |none=>rfl
   |some o=>
    obtain⟨o',z'⟩:=(un.kp kp (λb hb=>.inl (by rw[hst];exact hb)) λb hb=>(hh b hb).1).there T' o z λz=>nomatch z
    rw[hT] at z';cases z'
  ·exact⟨T0,TH⟩
 have kp0:Kp (X.env::X.outer) [] s2.heap s2.heap:=⟨λ_ _ e _ _=>e,λ_ o e _=>⟨o.slots,e⟩⟩;refine zt4 (outer:=X.outer) (B:=X.base) ffr ff2 hfr fl λh3 T3 kp3 fl3 hT3=>?_
 have n3:=nT kp0 hT3 (λb hb=>nomatch hb)
 have hh3:∀b∈[a,T,T3],s1.heap.get? b=none/\H2 b=none:=λb hb=>by
  rcases zd.mp hb with rfl |hb
  ·exact⟨a0,aH⟩
  rcases zd.mp hb with rfl |hb
  ·exact⟨T0,TH⟩
  ·rw[zq.mp hb];exact n3
 have I3:=mk h3 _ kp3 hh3
 refine wpAny_handleBy_cons (codeAny_handlers_test ?_) (by intro z;cases z)
 refine Zo (X:=X.suite (.ref a)) (I3.suite _) hgB hmB ?_ hdB;refine(W.exm_one (K:=X.K) (b:=true) I3.kIn fl3.at.type hex).here ?_;refine codeAny_handlers_suite_as ?_
 have ff3:h3.FunFrames X.base (X.env::X.outer):=by rw[<- hst];exact I3.stack
 refine zz6 (s:={ s2 with heap:=h3 }) (B:=X.base) (l:=X.env::X.outer) ff3 fl3 λh4 T4 kp4 fl4 hT4=>?_;have kp34:=kp3.trans kp4
 have hh4:∀b∈[a,T,T3]++[a,T3],s1.heap.get? b=none/\H2 b=none:=λb hb=>by
  rcases zI.mp hb with hb |hb
  ·exact hh3 b hb
  ·exact hh3 b (by rcases zd.mp hb with rfl |hb<;>simp_all)
 have I4:=mkE h4 _ kp34 hh4 fl4.at;refine qf I4 hN hi (.inl hl) (v:=.ref a) rfl (λs5 I5=>?_) (.inr hl);refine xT (hs (.ref a) pins s5 _ _ _ (I5.suite _) (hsu a aH)) (λfw s6 q6=>?_) λ_ _ z=>False.elim z
 cases fw with
 |ret u=>obtain⟨_,_,_,_,_,z⟩:=q6;exact False.elim z
 |brk=>obtain⟨_,_,_,z⟩:=q6;exact False.elim z
 |cont=>obtain⟨_,_,_,z⟩:=q6;exact False.elim z
 |next=>
  obtain⟨σ6,H6,I6',⟨v6,hv6⟩,q6⟩:=q6;have I6:Inv X pins σ6 H6 s6:=I6'.unsuite I1.ok;refine zb (wpAny_bindName (qf I6 hN hi (.inl hl) (v:=.non) rfl (λs7 I7=>?_) (.inr hl)));refine wpAny_onRaise (Qv I7 hN hi hl (v:=.non) ?_ λs8 I8=>?_)
  ·exact xt (zN.mp hv6).1
  ·rw[List.set_set] at I8;exact⟨_,H6,I8,q6⟩
end
section
variable (P:Program) (w:World)
end
section
variable {P:Program}{w:World}{H H':Hp}{h h':Heap}{a:Addr}{o:HO}
end
section
variable {P:Program}{w:World}{H:Hp}{h h':Heap}{x e:Addr}{o':HO}
end
section
variable {fs fs' ex ex':List Addr}{H H1 H2:Hp}{h h1 h2 h':Heap}{a x e:Addr}{o:HO}
end
section
variable {X:Cx}{pins:List (Addr × Obj)}{σ:List (Option V)}{H H':Hp}{s:Shared}{h':Heap}
end
section
variable {X:Cx}
variable {a b:Expr}{ta tb:TE}{pos:Pos}
variable {tA tB':TT}{rest:List Expr}
end
section
variable {X:Cx}{pins:List (Addr × Obj)}{σ:St}{H:Hp}{s:Shared}{a:Addr}{xs ys:List V}
end
section
variable {X:Cx}{pins:List (Addr × Obj)}{σ:St}{H:Hp}{s:Shared}{E:Value->Shared->Prop}
end
section
variable {X:Cx}{st:Stmt}{rest:List Stmt}{t u:TS}{e:Expr}{te:TE}{pos:Pos}
end
section
variable {X:Cx}{pos:Pos}
end
section
variable {X:Cx}{tg:Expr}
end
section
variable {X:Cx}{a b c:Expr}{ta tb tc:TE}{pos:Pos}
end
section
variable {prog:Program}{w:World}{A:Around}{E:Value->Shared->Prop}{s:Shared}{K:W.Frag}{x dx C f:Addr}{mA:Str->Option Value}{name:Str}{v:Value}
end
section
variable {P:Program}{w:World}{H H':Hp}{h h':Heap}{a C dx:Addr}{fs fs':List (Str × V)}
end
section
variable {X:Cx}{pins:List (Addr × Obj)}{σ:St}{H:Hp}{s:Shared}{a C dx:Addr}{fs:List (Str × V)}{f:Str}{v:V}{A:Around}{E:Value->Shared->Prop}
end
section
variable {X:Cx}{o e value:Expr}{f:Str}{pos pos' tpos:Pos}{ta tv:TE}
end
section
variable {X:Cx}{pins:List (Addr × Obj)}{σ:St}{H:Hp}{s:Shared}{A:Around}{E:Value->Shared->Prop}{Q:Value->Shared->Prop}{c:Value}{b:Bool}
end
section
variable {X:Cx}{e:Expr}{es:List Expr}{te:TE}{t:TA}{pos:Pos}
end
section
variable {X:Cx}{pins:List (Addr × Obj)}{σ:St}{H:Hp}{s s':Shared}
end
section
variable {X:Cx}{CX:CXT}{k:Nat}{f C:Addr}{fd:FuncData}{ps:List Str}{sp:Sp}{dvs:List V}{ds:List Value}{E:XK}{x m:Str}{p pos apos:Pos}{e o:Expr}{es:List Expr}{ta:TE}{t:TA}
end
section
variable {X:Cx}{CX:CXT}{k:Nat}{f C:Addr}{fd:FuncData}{ps ks:List Str}{sp:Sp}{E:XK}{x m:Str}{p pos apos kpos:Pos}{e o:Expr}{es:List Expr}{kws:List Keyword}{te ta:TE}{t tk:TA}{nm:Option Str}
variable {g:List Value->List Value->List Value}{gV:List V->List V->List V}
end
section
variable {X:Cx}{x:Str}{p pos:Pos}{e:Expr}{es:List Expr}{t:TA}{id T:String}{r:List V->Hp->VK->Prop}
end
section
variable {κ:Type} [DecidableEq κ]
def Xa(kvs:List (κ × V))(k:κ):Option V:=(kvs.find? λkv=>decide (kv.1=k)).map (·.2)
def Wx(kvs:List (κ × V))(k:κ)(v:V):List (κ × V):=
 if (kvs.any λkv=>decide (kv.1=k))=true then kvs.map (λkv=>if kv.1=k then(kv.1,v) else kv) else kvs++[(k,v)]
def Zu(kvs:List (κ × V))(k:κ):List (κ × V):=kvs.filter λkv=>decide (kv.1≠k)
theorem jH{p:κ × V}{r:List (κ × V)}{k:κ}(e:p.1=k):Xa (p::r) k=some p.2:=by simp[Xa,yu,e]
theorem jI{p:κ × V}{r:List (κ × V)}{k:κ}(e:¬ p.1=k):Xa (p::r) k=Xa r k:=by simp[Xa,yu,e]
theorem XB(k:κ):∀kvs:List (κ × V),(kvs.any λkv=>decide (kv.1=k))=(Xa kvs k).isSome
 |[]=>rfl
 |p::r=>by
  rw[any_cons]
  by_cases e:p.1=k
  ·simp only[jH e,xv e,Bool.true_or,Option.isSome_some]
  ·rw[jI e,zW e,Bool.false_or];exact XB k r
theorem YF(kvs:List (κ × V))(k:κ)(v:V):(Wx kvs k v).length<=kvs.length+1:=by
 unfold Wx
 split
 ·rw[zm];lia
 ·rw[zA,zt,ya];lia
theorem RelO.isSome_eq{o:Option V}{u:Option Value}(r:RelO o u):o.isSome=u.isSome:=by
 cases o with
 |none=>cases u with
  |none=>rfl
  |some _=>exact(show False from r).elim
 |some _=>cases u with
  |none=>exact(show False from r).elim
  |some _=>rfl
theorem KV.val{kvs:List (κ × V)}{vs:List (κ × Value)}(r:KV kvs vs)(k:κ):RelO (Xa kvs k) (valueAt vs k):=by
 unfold KV at r
 induction r with
 |nil=>exact True.intro
 | @cons p q ps qs h t ih =>
  obtain⟨h1,h2⟩:=h
  by_cases e:p.1=k
  ·have e' : q.1 = k := h1.symm.trans e
   have b:valueAt (q::qs) k=some q.2:=by simp[valueAt,yu,e']
   rw[jH e,b];exact h2
  ·have e' : ¬ q.1 = k := λz => e (h1.trans z)
   have b:valueAt (q::qs) k=valueAt qs k:=by simp[valueAt,yu,e']
   rw[jI e,b];exact ih
theorem KV.any{kvs:List (κ × V)}{vs:List (κ × Value)}(r:KV kvs vs)(k:κ):(kvs.any λkv=>decide (kv.1=k))=vs.any λkv=>decide (kv.1=k):=by
 unfold KV at r
 induction r with
 |nil=>rfl
 |cons h t ih=>rw[any_cons,any_cons,ih,h.1]
theorem KV.repl{kvs:List (κ × V)}{vs:List (κ × Value)}(r:KV kvs vs)(k:κ){y:V}{u:Value}(ry:RelV y u) :
  KV (kvs.map λkv=>if kv.1=k then(kv.1,y) else kv) (vs.map λkv=>if kv.1=k then(kv.1,u) else kv):=by
 unfold KV at r ⊢
 induction r with
 |nil=>exact .nil
 |@cons p q ps qs h t ih=>
  rw[zu,zu];refine .cons ?_ ih;obtain⟨h1,h2⟩:=h
  by_cases e:p.1=k
  ·rw[if_pos e,if_pos (h1.symm.trans e)];exact⟨h1,ry⟩
  ·rw[if_neg e,if_neg (λz=>e (h1.trans z))];exact⟨h1,h2⟩
theorem KV.put{kvs:List (κ × V)}{vs:List (κ × Value)}(r:KV kvs vs)(k:κ){y:V}{u:Value}(ry:RelV y u):KV (Wx kvs k y) (stored vs k u):=by
 unfold Wx stored;rw[r.any k]
 by_cases e:(vs.any λkv=>decide (kv.1=k))=true
 ·rw[if_pos e,if_pos e];exact r.repl k ry
 ·rw[if_neg e,if_neg e];exact Paired.snoc r ⟨rfl,ry⟩
theorem KV.drop{kvs:List (κ × V)}{vs:List (κ × Value)}(r:KV kvs vs)(k:κ):KV (Zu kvs k) (without vs k):=by
 unfold KV at r ⊢;unfold Zu without
 induction r with
 |nil=>exact .nil
 | @cons p q ps qs h t ih =>
  obtain⟨h1,h2⟩:=h;rw[filter_cons,filter_cons]
  by_cases e:p.1=k
  ·have a : ¬ decide (p.1 ≠ k) = true := by simp [e]
   have b:¬ decide (q.1≠k)=true:=by simp[h1.symm.trans e]
   rw[if_neg a,if_neg b];exact ih
  ·have e' : ¬ q.1 = k := λz => e (h1.trans z)
   have a:decide (p.1≠k)=true:=by simp[e]
   have b:decide (q.1≠k)=true:=by simp[e']
   rw[if_pos a,if_pos b];exact .cons ⟨h1,h2⟩ ih
theorem KV.length{kvs:List (κ × V)}{vs:List (κ × Value)}(r:KV kvs vs):kvs.length=vs.length:=Paired.length r
theorem zs7(kvs:List (κ × V))(k:κ):(Zu kvs k).length<=kvs.length:=List.length_filter_le _ _
end
def UK{P:Program}{w:World}{k:Key}{u:Value}(r:RelV (kV k) u):(yT P w).is k u=true:=by
 cases k with
 |inl i=>obtain⟨t,e⟩:=(show ∃t,u=Value.int i t from r);subst e;exact UF P w i t
 |inr x=>obtain⟨t,e⟩:=(show ∃t,u=Value.str x t from r);subst e;exact UE P w x t
theorem VC{P:Program}{w:World}:∀{ks:List Key}{us:List Value},Vals (ks.map kV) us->ItemsAre (yT P w) ks us
 |[],_,r=>by rw[xM] at r;cases r;exact .nil
 |k::ks,_,r=>by
  rw[zu] at r
  cases r with
  |cons h t=>exact .cons (UK h) (VC t)
abbrev KT(H:Hp):List (List Key × V)->List (List Key × Addr × Value)->Prop:=Paired λp q=>p.1=q.1/\H q.2.1=some (.tup (p.1.map kV))/\RelV p.2 q.2.2
def KT.val{H:Hp}{kvs:List (List Key × V)}{xs:List (List Key × Addr × Value)}(r:KT H kvs xs)(k:List Key):RelO (Xa kvs k) ((atKey xs k).map (·.2)):=by
 induction r with
 |nil=>exact True.intro
 | @cons p q ps qs h t ih =>
  obtain⟨h1,_,h2⟩:=h
  by_cases e:p.1=k
  ·have e' : q.1 = k := h1.symm.trans e
   have b:atKey (q::qs) k=some q.2:=by simp[atKey,yu,e']
   rw[jH e,b];exact h2
  ·have e' : ¬ q.1 = k := λz => e (h1.trans z)
   have b:atKey (q::qs) k=atKey qs k:=by simp[atKey,yu,e']
   rw[jI e,b];exact ih
def KT.repl{H:Hp}{kvs:List (List Key × V)}{xs:List (List Key × Addr × Value)}(r:KT H kvs xs)(k:List Key){y:V}{u:Value}(ry:RelV y u) :
  KT H (kvs.map λkv=>if kv.1=k then(kv.1,y) else kv) (xs.map (putAt k u)):=by
 induction r with
 |nil=>exact .nil
 |@cons p q ps qs h t ih=>
  rw[zu,zu];refine .cons ?_ ih;obtain⟨h1,h2,h3⟩:=h;unfold putAt
  by_cases e:p.1=k
  ·rw[if_pos e,if_pos (h1.symm.trans e)];exact⟨h1,h2,ry⟩
  ·rw[if_neg e,if_neg (λz=>e (h1.trans z))];exact⟨h1,h2,h3⟩
def KT.put{H:Hp}{kvs:List (List Key × V)}{xs:List (List Key × Addr × Value)}(r:KT H kvs xs)(k:List Key){b:Addr}{y:V}{u:Value}(hb:H b=some (.tup (k.map kV)))(ry:RelV y u) :
  KT H (Wx kvs k y) (storedH xs k b u):=by
 have e:(kvs.any λkv=>decide (kv.1=k))=(atKey xs k).isSome:=by
  rw[XB,(r.val k).isSome_eq,Option.isSome_map]
 unfold Wx storedH;rw[e]
 by_cases q:(atKey xs k).isSome=true
 ·rw[if_pos q,if_pos q];exact r.repl k ry
 ·rw[if_neg q,if_neg q];exact Paired.snoc r ⟨rfl,hb,ry⟩
def KT.keeps{H H':Hp}{kvs:List (List Key × V)}{xs:List (List Key × Addr × Value)}(r:KT H kvs xs)(ht:∀b ys,H b=some (.tup ys)->H' b=some (.tup ys)):KT H' kvs xs:=
 Paired.mapP r λ_ _ z=>⟨z.1,ht _ _ z.2.1,z.2.2⟩
section
variable {P:Program}{w:World}{H:Hp}{h:Heap}{a:Addr}
def zM7{u:HO}(ok:HOk P w H h)(e:Rd H a u):ObjOk P w H h a u:=e.ok ok
def UO{kvs:List (Key × V)}(ok:HOk P w H h)(e:Rd H a (.dK kvs)):kvs.length<=sizeLine/\(a == sysModules)=false/\∃vs,KV kvs vs/\h.DictOf (yT P w) a vs:=
 show ObjOk P w H h a (.dK kvs) from zM7 ok e
def zs8{kvs:List (Key × V)}(ok:HOk P w H h)(e:H a=some (.dK kvs)):kvs.length<=sizeLine/\(a == sysModules)=false/\∃vs,KV kvs vs/\h.DictOf (yT P w) a vs:=UO ok (.inl e)
def Vz{ks:List Key}(ok:HOk P w H h)(e:H a=some (.tup (ks.map kV))):(tupleKind (yT P w)).is h ks a:=by
 obtain⟨_,its,r,o,h1,h2,n,h3⟩:=(show ObjOk P w H h a (.tup (ks.map kV)) from ok a _ e)
 exact⟨o,its.toArray,n,h1,h2,h3,by simpa using VC r⟩
def JZ{kvs:List (List Key × V)}(ok:HOk P w H h)(e:Rd H a (.dT kvs)):kvs.length<=sizeLine/\(a == sysModules)=false /\
  ∃xs,KT H kvs xs/\h.DictOfH (tupleKind (yT P w)) a xs:=by
 obtain⟨z,y,xs,r,o,es,ep,h1,h2,h3,h4,h5⟩:=(show ObjOk P w H h a (.dT kvs) from zM7 ok e);refine⟨z,y,xs,r,o,es,ep,h1,h2,h3,h4,λx hx=>?_,h5⟩
 have all:∀{l:List (List Key × V)}{m:List (List Key × Addr × Value)},KT H l m->∀x∈m,(tupleKind (yT P w)).is h x.1 x.2.1:=by
  intro l m q
  induction q with
  |nil=>intro x hx;exact nomatch hx
  | @cons p q ps qs hq t ih =>
   intro x hx
   rcases zd.mp hx with e |hx
   ·subst e
    exact Vz ok (by rw[<- hq.1];exact hq.2.1)
   ·exact ih x hx
 exact all r x hx
def xh8{kvs:List (List Key × V)}(ok:HOk P w H h)(e:H a=some (.dT kvs)):kvs.length<=sizeLine/\(a == sysModules)=false /\
  ∃xs,KT H kvs xs/\h.DictOfH (tupleKind (yT P w)) a xs:=JZ ok (.inl e)
end
def DGet(H:Hp)(a:Addr)(y:V)(r:Option V):Prop:=
 (∃kvs k,Rd H a (.dK kvs)/\y=kV k/\r=Xa kvs k)\/∃kvs k b,Rd H a (.dT kvs)/\y=.ref b/\H b=some (.tup (k.map kV))/\r=Xa kvs k
def DPut(H:Hp)(a:Addr)(y v:V)(H':Hp):Prop:=
 (∃kvs k,H a=some (.dK kvs)/\y=kV k/\kvs.length<sizeLine/\H'=upd H a (.dK (Wx kvs k v))) \/
 ∃kvs k b,H a=some (.dT kvs)/\y=.ref b/\H b=some (.tup (k.map kV))/\kvs.length<sizeLine/\H'=upd H a (.dT (Wx kvs k v))
def DGet.k{H:Hp}{a:Addr}{kvs:List (Key × V)}{k:Key}(e:H a=some (.dK kvs)):DGet H a (kV k) (Xa kvs k):=.inl ⟨kvs,k,.inl e,rfl,rfl⟩
def DPut.k{H:Hp}{a:Addr}{kvs:List (Key × V)}{k:Key}{v:V}(e:H a=some (.dK kvs))(hl:kvs.length<sizeLine):DPut H a (kV k) v (upd H a (.dK (Wx kvs k v))):=.inl ⟨kvs,k,e,rfl,hl,rfl⟩
section
variable {X:Cx}{pins:List (Addr × Obj)}{σ:St}{H:Hp}{s:Shared}{a:Addr}{y v:V}{u r:Value}{o:Option V}{A:Around}{E:Value->Shared->Prop}
def Inv.big(I:Inv X pins σ H s):sysModules<s.heap.objs.size:=by
 have h:mainGlobals<s.heap.objs.size:=(I.mod.glob.keeps I.bk).lt
 exact Nat.lt_trans q9 h
def zg8{Q:Value->Shared->Prop}(hu:A.units+1<cLine)(I:Inv X pins σ H s)(g:DGet H a y (some v))(ry:RelV y u)(h:∀w' s',Inv X pins σ H s'->RelV v w'->Q w' s') :
  wpAny (model X.prog X.w) A (getItem (.ref a) u) Q E s:=by
 rcases g with ⟨kvs,k,e,ey,l⟩ |⟨kvs,k,b,e,ey,eb,l⟩
 ·subst ey;obtain⟨z,hd,vs,rel,dd⟩:=UO I.hok e
  obtain⟨w',hw,rw'⟩:=RelO.some_of (v:=v) (o:=valueAt vs k) (by rw[l];exact rel.val k)
  exact wpAny_getItem_of (UK ry) dd.mapOf hw (h w' _ (I.tok _) rw')
 ·subst ey;cases(show u=Value.ref b from ry);obtain⟨z,hd,xs,rel,dd⟩:=JZ I.hok e
  obtain⟨w',hw,rw'⟩:=RelO.some_of (v:=v) (o:=(atKey xs k).map (·.2)) (by rw[l];exact rel.val k)
  obtain⟨p,hp,hp2⟩:=wM.mp hw;refine wpAny_getItem_heap (tupleKind_room_in1 hu) (Vz I.hok eb) dd hp ?_;rw[hp2];exact h w' _ (I.tok _) rw'
def xt4{Q:Value->Shared->Prop}(hu:A.units+1<cLine)(I:Inv X pins σ H s)(g:DGet H a y o)(ry:RelV y u)(h:∀s',Inv X pins σ H s'->Q (.bool o.isSome) s') :
  wpAny (model X.prog X.w) A (compareOp .In u (.ref a)) Q E s:=by
 rcases g with ⟨kvs,k,e,ey,l⟩ |⟨kvs,k,b,e,ey,eb,l⟩
 ·subst ey;obtain⟨z,hd,vs,rel,dd⟩:=UO I.hok e;refine wpAny_in_of (UK ry) hd dd.mapOf ?_;rw[<- (rel.val k).isSome_eq,<- l];exact h _ (I.tok _)
 ·subst ey;cases(show u=Value.ref b from ry);obtain⟨z,hd,xs,rel,dd⟩:=JZ I.hok e;refine wpAny_in_heap (tupleKind_room_in1 hu) (Vz I.hok eb) hd dd ?_;have q:=(rel.val k).isSome_eq;rw[Option.isSome_map] at q;rw[<- q,<- l];exact h _ (I.tok _)
def zH9{Q:Value->Shared->Prop}(hu:A.units+1<cLine)(I:Inv X pins σ H s)(g:DGet H a y o)(ry:RelV y u)(h:∀s',Inv X pins σ H s'->Q (.bool (!o.isSome)) s') :
  wpAny (model X.prog X.w) A (compareOp .NotIn u (.ref a)) Q E s:=by
 rcases g with ⟨kvs,k,e,ey,l⟩ |⟨kvs,k,b,e,ey,eb,l⟩
 ·subst ey;obtain⟨z,hd,vs,rel,dd⟩:=UO I.hok e;refine wpAny_notIn_of (UK ry) hd dd.mapOf ?_;rw[<- (rel.val k).isSome_eq,<- l];exact h _ (I.tok _)
 ·subst ey;cases(show u=Value.ref b from ry);obtain⟨z,hd,xs,rel,dd⟩:=JZ I.hok e;refine wpAny_notIn_heap (tupleKind_room_in1 hu) (Vz I.hok eb) hd dd ?_;have q:=(rel.val k).isSome_eq;rw[Option.isSome_map] at q;rw[<- q,<- l];exact h _ (I.tok _)
def UQ{h':Heap}{t':Nat}{ob:HO}(I:Inv X pins σ H s)(mu:Mut (H a))(hs:Heap.SameBut a s.heap h')(he:∃q,h'.get? a=some q)(new:ObjOk X.prog X.w (upd H a ob) h' a ob) :
  Inv X pins σ (upd H a ob) { s with heap:=h',toks:=t' }:=
 I.write (x:=a) (e:=a) mu (.inl rfl) (λb q hb z=>(hs.2 b hb).trans z) he new
def zw9{P:Program}{w:World}{H':Hp}{h':Heap}{kvs:List (Key × V)}{vs:List (Key × Value)}(z:kvs.length<=sizeLine)(hd:(a == sysModules)=false)(rel:KV kvs vs)(dd:h'.DictOf (yT P w) a vs) :
  ObjOk P w H' h' a (.dK kvs):=⟨z,hd,vs,rel,dd⟩
def zg7{H':Hp}{Q:Unit->Shared->Prop}(hu:A.units+1<cLine)(I:Inv X pins σ H s)(g:DPut H a y v H')(ry:RelV y u)(rv:RelV v r)(h:∀s',Inv X pins σ H' s'->Q () s') :
  wpAny (model X.prog X.w) A (setItem (.ref a) u r) Q E s:=by
 rcases g with ⟨kvs,k,e,ey,l,eH⟩ |⟨kvs,k,b,e,ey,eb,l,eH⟩
 ·subst ey eH;obtain⟨z,hd,vs,rel,dd⟩:=zs8 I.hok e
  have hz:vs.length<=sizeLine:=by rw[<- rel.length];exact z
  have hl:(Wx kvs k v).length<=sizeLine:=by have:=YF kvs k v;lia
  refine wpAny_setItem_pairs (hsz:=hz) (UK ry) dd λh' dd' hs=>h _ ?_
  have he:∃q,h'.get? a=some q:=let ⟨q,_,_,hq,_⟩:=dd';⟨q,hq⟩
  exact UQ I (by rw[e];exact True.intro) hs he (zw9 hl hd (rel.put k rv) dd')
 ·subst ey eH;cases(show u=Value.ref b from ry);obtain⟨z,hd,xs,rel,dd⟩:=xh8 I.hok e
  have hz:xs.length<=sizeLine:=by rw[<- Paired.length rel];exact z
  have hl:(Wx kvs k v).length<=sizeLine:=by have:=YF kvs k v;lia
  refine wpAny_setItem_heap (hsz:=hz) (tupleKind_room_in1 hu) (Vz I.hok eb) dd λh' dd' hs=>h _ ?_;obtain⟨q,es,ep,hq,h2,h3,h4,_,h5⟩:=dd'
  refine UQ I (by rw[e];exact True.intro) hs ⟨q,hq⟩ ⟨hl,hd,_,(rel.put k eb rv).keeps λc ys ec=>?_,q,es,ep,hq,h2,h3,h4,h5⟩
  rw[xS (xh3 ec e (λz=>nomatch z))]
  exact ec
end
section
variable {X:Cx}{pins:List (Addr × Obj)}{σ:St}{H:Hp}{s:Shared}{a:Addr}{kvs:List (Key × V)}{k:Key}{u:Value}{A:Around}{E:Value->Shared->Prop}
def xh9{v:V}{more:List Value}{Q:Value->Shared->Prop}(I:Inv X pins σ H s)(e:H a=some (.dK kvs))(ry:RelV (kV k) u)(l:Xa kvs k=some v)(hm:more=[]\/∃x,more=[x])
  (h:∀w' s',Inv X pins σ (upd H a (.dK (Zu kvs k))) s'->RelV v w'->Q w' s'):wpAny (model X.prog X.w) A (call (.builtin "dict.pop") (.ref a::u::more)) Q E s:=by
 obtain⟨z,hd,vs,rel,dd⟩:=zs8 I.hok e
 obtain⟨w',hw,rw'⟩:=RelO.some_of (v:=v) (o:=valueAt vs k) (by rw[<- l];exact rel.val k)
 have hp:(keyPart u).isSome=true:=by
  cases k with
  |inl i=>obtain⟨t,q⟩:=(show ∃t,u=Value.int i t from ry);subst q;rfl
  |inr x=>obtain⟨t,q⟩:=(show ∃t,u=Value.str x t from ry);subst q;rfl
 have ha:argsOk "dict.pop" ⟨.ref a::u::more,[]⟩:=by
  rcases hm with q |⟨x,q⟩
  ·subst q;exact PySem.F.args_dict_pop_2 _ _
  ·subst q;exact PySem.F.args_dict_pop_3 _ _ _
 refine call_meetsIn PySem.F.slot_dict_pop dd.typeIs PySem.F.entry_dict_pop ha (meets_dict_pop_there (yT X.prog X.w) a (UK ry) more hm hp)
  ⟨vs,w',dd,by rw[<- rel.length];exact z,hw,λh' dd' hs=>h w' _ ?_ rw'⟩
 have he:∃q,h'.get? a=some q:=let ⟨q,_,_,hq,_⟩:=dd';⟨q,hq⟩
 exact UQ I (by rw[e];exact True.intro) hs he (zw9 (zF (zs7 kvs k) z) hd (rel.drop k) dd')
def xi0{Q:Value->Shared->Prop}(I:Inv X pins σ H s)(e:Rd H a (.dK kvs))(h:∀t s',Inv X pins σ H s'->Q (.int kvs.length t) s'):wpAny (model X.prog X.w) A (call (.builtin "len") [.ref a]) Q E s:=by
 obtain⟨z,hd,vs,rel,dd⟩:=UO I.hok e
 refine call_len_dict hd dd (by rw[<- rel.length];rw[sizeLine_eq] at z;lia) ?_
 rw[<- rel.length];exact h _ _ (I.tok _)
end
def zY2(i:Expr):Prop:=∀ov iv,subscripted i false ov iv=operate [ov,iv] (getItem ov iv)
def zz1{prog:Program}{w:World}{A:Around}{E:Value->Shared->Prop}{s:Shared}{env:Env}{value slice:Expr}{pos:Pos}{T id:String}{Q:Value->Shared->Prop}
  (hl:typeLookup (.type T) "__getitem__" = pure (some (.builtin id))) (hs:zY2 slice)
  (h:wpAny (model prog w) A (eval value env) (λo s₁=>wpAny (model prog w) A (eval slice env) (λi s₂=>s₂.TypeIs o T/\wpAny (model prog w) A (getItem o i) Q E s₂) E s₁) E s) :
  wpAny (model prog w) A (eval (.Subscript value slice pos) env) Q E s:=by
 refine Subscript_ (xT h (λo s₁ h₁=>xT h₁ (λi s₂ h₂=>?_) λ_ _ x=>x) λ_ _ x=>x);obtain⟨hT,h₂⟩:=h₂;unfold subscriptTail;refine zb ?_;rw[getitemInPython_of_ne hT.not_modules];refine zb (wpAny_specialOf hT hl ?_)
 have fin:wpAny (model prog w) A (subscripted slice false o i) (λr s₃=>wpAny (model prog w) A (letTemporaryGo value o r >>= λ_=>pure r) Q E s₃) E s₂:=by
  rw[hs o i];exact wpAny_operating (xT h₂ (λr s₃ h₃=>zb (wpAny_letTemporaryGo (zg h₃))) λ_ _ x=>x)
 first
  |exact zg (zb fin)
  |exact zb (zg (zb fin))
  |exact zb fin
def UP{X:Cx}{pins:List (Addr × Obj)}{σ:St}{H:Hp}{s:Shared}{a:Addr}{y:V}{o:Option V}(I:Inv X pins σ H s)(g:DGet H a y o):s.TypeIs (.ref a) "dict" := by
 rcases g with ⟨kvs,k,e,_,_⟩ |⟨kvs,k,b,e,_,_,_⟩
 ·obtain⟨_,_,vs,_,dd⟩:=UO I.hok e;exact dd.typeIs
 ·obtain⟨_,_,xs,_,dd⟩:=JZ I.hok e;exact dd.typeIs
def zZ2(td ty:TE):TE:=λσ H Q=>td σ H λx H1=>ty σ H1 λy H2=>∃a v,x=.ref a/\DGet H2 a y (some v)/\Q v H2
def zZ9(td ty tv:TE):TS:=λD σ H=>tv σ H λv H1=>td σ H1 λx H2=>ty σ H2 λy H3=>∃a H4,x=.ref a/\DPut H3 a y v H4/\D.nx σ H4
section
variable {X:Cx}{o i e value:Expr}{pos pos' tpos:Pos}{td ty tv:TE}
def zb0(hu:X.A.units+1<cLine)(ho:PE X o td)(hi:PE X i ty)(hs:zY2 i):PE X (.Subscript o i pos) (zZ2 td ty):=by
 intro pins s σ H Q I h;refine zz1 PySem.F.slot_dict_getitem.lookup hs (thn (ho pins s σ H _ I h) λu s1 ⟨x,H1,I1,rx,q1⟩=>thn (hi pins s1 σ H1 _ I1 q1) λiv s2 ⟨y,H2,I2,ry,a,v,ex,g,q2⟩=>?_);subst ex;obtain rfl:u=Value.ref a:=rx;exact⟨UP I2 g,zg8 hu I2 g ry λw' s3 I3 rw'=>⟨v,H2,I3,rw',q2⟩⟩
def zC0(hu:X.A.units+1<cLine)(ho:PE X o td)(hi:PE X i ty)(hv:PE X value tv)(hs:swapsWith value (some (.Subscript o i pos')) pos.line X.env=pure false) :
  PS X (.Assign [.Subscript o i pos'] value pos) (zZ9 td ty tv):=by
 intro pins s σ H D I h;refine wpAny_Assign_Subscript (thn (hv pins s σ H _ I h) λr s1 ⟨v,H1,I1,rv,q1⟩=>thn (ho pins s1 σ H1 _ I1 q1) λu s2 ⟨x,H2,I2,rx,q2⟩=>thn (hi pins s2 σ H2 _ I2 q2) λiv s3 ⟨y,H3,I3,ry,a,H4,ex,g,q3⟩=>?_) hs;subst ex;obtain rfl:u=Value.ref a:=rx;exact zg7 hu I3 g ry rv λs4 I4=>⟨σ,H4,I4,q3⟩
end
def Jh{P:Program}{w:World}{H:Hp}(h:Heap)(hb:sysModules<h.objs.size):ObjOk P w H (h.push { cls:=.type "dict",data:=.dict #[] }) h.objs.size (.dK []):=
 ⟨wT _,beq_eq_false_iff_ne.mpr (Ne.symm (zU hb)),[],.nil,Heap.DictOf.new h⟩
def zL6:TE:=λ_ H Q=>∀p,H p=none->Q (.ref p) (upd H p (.dK []))
section
variable {X:Cx}{pos:Pos}
def zo2:PE X (.Dict [] [] pos) zL6:=λpins s σ H Q I h=>
 wpAny_Dict_empty ⟨.ref s.heap.objs.size,_,I.laid (a:=s.heap.objs.size) (o:=.dK []) (t':=s.toks) (λ_ _ q=>zh _ q) (zj _) (Jh s.heap I.big),rfl,h _ (I.hok.fresh (zj _))⟩
end
structure M1(X:Cx)(o:Expr)(m:Str)(apos:Pos)(e:Expr)(cpos:Pos):Prop where
 base:attributeBase o m X.env (eval o X.env)=eval o X.env
 few:((backTo cpos (starEach [e] X.env)).all (λx=>!x.1)&&(backToKw cpos (keywordEach [] X.env)).all (λx=>x.1.isSome)
  && decide (([e]:List Expr).length+([]:List Keyword).length+(if ([]:List Keyword).isEmpty then 0 else 1)<30))=true
 line:(apos.endLine == cpos.line)=true
 trees:backTo cpos (starEach [e] X.env)=[(false,eval e X.env)]
def IsD(H:Hp)(a:Addr):Prop:=(∃kvs,Rd H a (.dK kvs))\/∃kvs,Rd H a (.dT kvs)
def zT6{X:Cx}{pins:List (Addr × Obj)}{σ:St}{H:Hp}{s:Shared}{a:Addr}(I:Inv X pins σ H s)(d:IsD H a) :
  s.TypeIs (.ref a) "dict" /\ (∀b,Value.ref a=.ref b->∃ob,s.heap.get? b=some ob/\ob.dict=none)/\(a == sysModules)=false:=by
 rcases d with ⟨kvs,e⟩ |⟨kvs,e⟩
 ·obtain⟨_,hd,vs,_,dd⟩:=UO I.hok e;refine⟨dd.typeIs,λb q=>?_,hd⟩;cases q;obtain⟨ob,_,_,h1,h2,_⟩:=dd;exact⟨ob,h1,h2.2.1⟩
 ·obtain⟨_,hd,xs,_,dd⟩:=JZ I.hok e;refine⟨dd.typeIs,λb q=>?_,hd⟩;cases q;obtain⟨ob,_,_,h1,h2,_⟩:=dd;exact⟨ob,h1,h2.2.1⟩
section
variable {X:Cx}{pins:List (Addr × Obj)}{σ:St}{H:Hp}{s:Shared}{a:Addr}{y d:V}{u r:Value}{o:Option V}{A:Around}{E:Value->Shared->Prop}
end
def zL5(td ty:TE):TE:=λσ H Q=>td σ H λx H1=>∃a,x=.ref a/\IsD H1 a/\ty σ H1 λy H2=>∃kvs k v,H2 a=some (.dK kvs)/\y=kV k/\Xa kvs k=some v/\Q v (upd H2 a (.dK (Zu kvs k)))
section
variable {X:Cx}{o e f:Expr}{apos cpos:Pos}{td ty tx:TE}
def zo1(ho:PE X o td)(he:PE X e ty)(m:M1 X o "pop" apos e cpos):PE X (.Call (.Attribute o "pop" apos) [e] [] cpos) (zL5 td ty):=by
 intro pins s σ H Q I h;refine wpAny_Call_method m.base m.few m.line PySem.F.plainAttrs_dict PySem.F.slot_dict_pop PySem.F.type_dict_pop (thn (ho pins s σ H _ I h) λu s1 ⟨x,H1,I1,rx,a,ex,d,q1⟩=>?_);subst ex;obtain rfl:u=Value.ref a:=rx;obtain⟨t1,t2,_⟩:=zT6 I1 d;refine⟨t1,t2,?_⟩;rw[m.trees];refine Calls.callWith_builtin rfl (Calls.evalArgs_plain (Calls.spliced_cons (thn (he pins s1 σ H1 _ I1 q1) λiv s2 ⟨y,H2,I2,ry,kvs,k,v,ea,ey,l,q2⟩=>Calls.spliced_nil ?_)));subst ey;exact xh9 I2 ea ry l (.inl rfl) λw' s3 I3 rw'=>⟨v,_,I3,rw',q2⟩
end
section
variable {X:Cx}{pins:List (Addr × Obj)}{σ:St}{H:Hp}{s:Shared}{a:Addr}{kvs:List (Key × V)}{A:Around}{E:Value->Shared->Prop}
end
section
variable {X:Cx}{pins:List (Addr × Obj)}{σ:St}{H:Hp}{s:Shared}{a:Addr}{y:V}{u:Value}{A:Around}{E:Value->Shared->Prop}
end
end L2
namespace Att
open PySem PySem.W PySem.Calls PyProof.Rows
section
variable {prog:Program}{w:World}{A:Around}{E:Value->Shared->Prop}{s:Shared}{K:Frag}
end
end Att
namespace L2
section
variable {P:Program}{w:World}{K:W.Frag}{mg:Str->Option Value}{base:Heap}
end
section
variable {X:Cx}
def zj0:qd X (.builtin "len") (λxs H Q=>∃a kvs,xs=[V.ref a]/\H a=some (.dK kvs)/\Q (.int kvs.length) H):=by
 intro pins s σ H xs us Q I r h;obtain⟨a,kvs,rfl,ha,q⟩:=h;obtain⟨u,rfl,ru⟩:=jG r;cases ru;exact xi0 I (.inl ha) λt s' I'=>⟨.int kvs.length,H,I',⟨t,rfl⟩,q⟩
end
section
variable {κ:Type} [DecidableEq κ]
theorem zf9{p:κ × V}{r:List (κ × V)}{k:κ}(e:p.1=k):Zu (p::r) k=Zu r k:=by
 unfold Zu
 rw[filter_cons,if_neg (by simp[e])]
theorem zg0{p:κ × V}{r:List (κ × V)}{k:κ}(e:¬ p.1=k):Zu (p::r) k=p::Zu r k:=by
 unfold Zu
 rw[filter_cons,if_pos (by simp[e])]
end
section
variable {prog:Program}{w:World}{A:Around}{R:Result->Shared->Prop}{s:Shared}
def Qa{kx vx target iter:Expr}{ifs:List Expr}{scope:Scope}{pos:Pos}{it:Value}{D:Addr}{env:Env}(J:Nat->Shared->Prop)
  (turn : ∀ n s, J n s -> wpAny (model prog w) A (pyNext it) (λr s1 => match r with
   |none=>R (.ok .next) s1
   | some v => wpAny (model prog w) A (letOwnedTupleGo target it v) (λ_ s2 => wpAny (model prog w) A (assign target env v) (λ_ s3 => wpAny (model prog w) A (ZF ifs env) (λok s4 =>
     if ok=true then wpAny (model prog w) A (eval kx env) (λkv s5=>wpAny (model prog w) A (eval vx env) (λvv s6=>wpAny (model prog w) A (dictSet D kv vv) (λ_ s7=>∃m,m<n/\J m s7) (λ_ _=>False) s6) (λ_ _=>False) s5) (λ_ _=>False) s4
     else ∃m,m<n/\J m s4) (λ_ _=>False) s3) (λ_ _=>False) s2) (λ_ _=>False) s1) (λ_ _=>False) s)
  (n:Nat) (h:J n s):codeAny (model prog w) A (.compLoop (.DictComp kx vx [⟨target,iter,ifs,0⟩] scope pos) 0 it (.ref D) env) R s:=by
 refine codeAny_loop rfl J (λn s hJ=>?_) n h
 show wpAny _ A ((compTurn (.DictComp kx vx [⟨target,iter,ifs,0⟩] scope pos) 0 it (.ref D) env).onRaise (λx=>do noteFrame x env;theTreesLotGoes x)) _ _ s
 refine wpAny_noted ?_;rw[compTurn_dict]
 have up:∀{α:Type}{t:Sem α}{Q Q':α->Shared->Prop}{E:Value->Shared->Prop}{s:Shared},wpAny (model prog w) A t Q (λ_ _=>False) s->(∀a s,Q a s->Q' a s)->wpAny (model prog w) A t Q' E s:=
  λh f=>xT h f λ_ _ z=>False.elim z
 refine zb (wl (zb (up (turn n s hJ) λr s1 h1=>?_)))
 cases r with
 |none=>exact zg h1
 |some v=>
  refine zb (up h1 λ_ s2 h2=>?_);refine zb (up h2 λ_ s3 h3=>?_);refine zb (up h3 λok s4 h4=>?_)
  cases ok with
  |false=>exact zg ⟨rfl,h4⟩
  |true=>exact zb (zb (up h4 λkv s5 h5=>zb (wm (up h5 λvv s6 h6=>zb (wl (wm (up h6 λ_ s7 h7=>zg ⟨rfl,h7⟩)))))))
end
section
variable {X:Cx}{scope:Scope}{own M:List Str}{pins:List (Addr × Obj)}{σ:St}{H2:Hp}{s2:Shared}{fp:List Addr}
end
section
variable {X:Cx}{scope:Scope}{own M:List Str}{pins:List (Addr × Obj)}{σ:St}{H2:Hp}{s2:Shared}{tg iter kx vx:Expr}{ifs:List Expr}{pos:Pos}{g:TG}{tt:TT}{tk tv:TE}
def JY(kx vx:Expr)(gens:List Comprehension)(scope:Scope)(pos:Pos)(env:Env):eval (.DictComp kx vx gens scope pos) env=comprehension (.DictComp kx vx gens scope pos) scope env (firstIterPos gens pos) newDict (firstAsync gens) (firstIter gens env):=by
 first |rfl |(unfold eval;rfl) |(rw[eval];rfl) |rw[eval]
def zt9(wi:TI)(own:Nat)(g:TG)(tt:TT)(tk tv:TE):TE:=λσ H Q=>wi σ H λJ H1=>∃W:Nat->Nat->List (Key × V)->Hp->Prop,(∃m,W 0 m [] H1)/\∀i m acc H,W i m acc H ->
 (J.stop i H/\acc.length<=sizeLine/\∀D,H D=none->Q (.ref D) (upd H D (.dK acc))) \/
 (J.go i H /\ acc.length < sizeLine /\ ∀ x H', J.yld i H x H' -> g x (List.replicate own none ++ σ) H' λσ2 H2 => σ2.drop own = σ /\ tt σ2 H2 λc H3 =>
  if c=true then tk σ2 H3 λy H4=>tv σ2 H4 λv H5=>∃k m',y=kV k/\m'<m/\W (i+1) m' (Wx acc k v) H5 else ∃m',m'<m/\W (i+1) m' acc H3)
section
variable {X:Cx}{scope:Scope}{own M:List Str}{pins:List (Addr × Obj)}{σ:St}{H2:Hp}{s2:Shared}{tg iter kx vx:Expr}{ifs:List Expr}{pos:Pos}{g:TG}{tt:TT}{tk tv:TE}
abbrev DkO(P:Program)(w:World)(acc:List (Key × V))(ob:Obj):Prop:=∃vs,ob.IsDictOf (yT P w) vs/\KV acc vs
def zH8{X':Cx}{pf:List (Addr × Obj)}{D:Addr}{ob:Obj}{acc:List (Key × V)}{σ:St}{H:Hp}{s:Shared}{v:V}{y ky:Value}{k:Key}{post:Shared->Prop}(I:Inv X' ((D,ob)::pf) σ H s)(f:∀{H:Hp},H D=none->FpOk X' pf H D)(d:DkO X'.prog X'.w acc ob)(gz:acc.length<sizeLine)(rk:RelV (kV k) ky)(r:RelV v y)
  (c:∀{ob' s'},DkO X'.prog X'.w (Wx acc k v) ob'->Inv X' ((D,ob')::pf) σ H s'->post s'):wpAny (model X'.prog X'.w) X'.A (dictSet D ky y) (λ_=>post) (λ_ _=>False) s:=by
 obtain⟨vs,⟨es,ep,q⟩,rv⟩:=d;have hl:=rv.length;have p4:=I.pinAt (.head _)
 refine wpAny_dictSet_pairs (hsz:=by lia) (UK rk) ⟨ob,es,ep,p4.1,q⟩ λh' dd hs=>?_
 obtain⟨ob',es',ep',ho',isD'⟩:=dd
 exact c ⟨_,⟨es',ep',isD'⟩,rv.put k r⟩ (I.bump (t:=s.toks+1) (f p4.2) hs ho' λv z=>by rw[isD'.2.1] at z;cases z)
def zo3{wi:TI}(ok:CompOk X scope M)(hc:X.calm=true)(hi:PI X tg iter wi)(hg:∀C s2 H2 fp,PG (wO X scope own M C s2 H2 fp) tg g)(ht:∀C s2 H2 fp,PTs (wO X scope own M C s2 H2 fp) ifs tt)
  (hek:∀C s2 H2 fp,PE (wO X scope own M C s2 H2 fp) kx tk) (he:∀C s2 H2 fp,PE (wO X scope own M C s2 H2 fp) vx tv) (hs:∀x,foldedSetIterable iter X.env x=pure x:=by intro _;rfl) :
  PE X (.DictComp kx vx [⟨tg,iter,ifs,0⟩] scope pos) (zt9 wi own.length g tt tk tv):=by
 intro pins s σ H Q I h;rw[JY]
 refine wY (use:=none) rfl hs (ZY (ok.cells I)) ok.kind (λx hx hl=>by rw[ok.uniq x hx,hl]) ?_
 refine thn (hi pins s σ H _ I h) λv s1 h1=>thn h1 λitv s2 ⟨it,fp,tn,J,H2,e,I2,T,st2,f2,W,w0,turn⟩=>?_;subst e;refine wa (jt ?_);obtain⟨_,dsys,vs,rv0,o,es,ep,e,q0⟩:=Jh (P:=X.prog) (w:=X.w) (H:=H2) s2.heap I2.big
 rw[zQ _ (by rfl)] at e
 cases e;dsimp only;rw[wE]
 exact UX (ho:=λ_=>.dK) (DO:=DkO X.prog X.w) (λ_ _ ⟨_,⟨_,_,_,e,_⟩,_⟩ v z=>by rw[e] at z;cases z) ⟨vs,⟨es,ep,q0⟩,rv0⟩ rfl ok hc (hg _ _ _ _) (ht _ _ _ _) (λ_=>kh) I2 T st2 f2 w0 turn (λ_ _ _ _ ob _ _ hz ⟨vs,⟨es,ep,r⟩,rv⟩ _ ho=>⟨hz,dsys,vs,rv,ob,es,ep,ho,r⟩)
  (λR L turn n s h=>Qa (kx:=kx) (vx:=vx) (iter:=iter) (scope:=scope) (pos:=pos) L turn n h) (λ_ _ h k=>codeAny_compStart_dict h (k _))
  (λpf σ6 H7 s7 i n acc ob I7 d gz fD kd q7 post fin=>thn (hek _ _ _ _ _ s7 σ6 H7 _ I7 q7) λy s8 ⟨v,H8,I8,r8,q8⟩=>thn (he _ _ _ _ _ s8 σ6 H8 _ I8 q8) λy2 s9 ⟨v2,H9,I9,r9,kk,m',ek,hm,w8⟩=>zH8 I9 fD d gz (ek ▸ r8) r9 λd' I'=>fin hm w8 d' (kh kd) I') (λH' s' m IY q hm hCn c2 c1 c3 c4=>⟨m,hm,λh' hs'=>⟨.ref s2.heap.objs.size,H',IY.turned (t':=s'.toks) (λb o hb e=>hs'.extBut b o hb e) hCn c2 (.inr c1) c3 c4,rfl,q⟩⟩) rfl
end
end
inductive D where
 |non |bl (b:Bool) |int (i:Int) |str (x:Str) |ty (n:String) |tup (ds:List D) |lst (ds:List D)
 /-- a list that is known and stays -/
 |fz (ds:List D)
 /-- the list that the drawing keeps -/
 |st
 /-- a list of the frame's own (in a slot alone) -/
 |own (ds:List D)
 /-- a dict, whatever it holds -/
 |dic
 /-- an exception that was caught, of the class at C -/
 |exc (C:Addr)
 /-- a dict, known, that stays -/
 |dct (ks:List Key) (ds:List D)
 /-- a cell: a thing that changes and is shared -/
 |rf (a:Addr)
def YJ(ks:List Key)(xs:List V):List (Key × V):=List.zipWith (λk x=>(k,x)) ks xs
abbrev zG9:Hp:=λ_=>none
def SqZ(K:W.Frag)(Z:Addr->Prop)(H:Hp)(b:Bool)(a:Addr)(xs:List V):Prop:=
 match b with
 |true=>¬ Z a/\H a=some (.lst xs)
 |false=>(¬ Z a/\Rd H a (.tup xs))\/SqT K zG9 a xs
def SqF(K:W.Frag)(Z:Addr->Prop)(H:Hp)(a:Addr)(xs:List V):Prop:=(¬ Z a/\∃o,H a=some (.frz o (.lst xs)))\/SqL K zG9 a xs
mutual
def Rep(K:W.Frag)(G:Option Addr)(Z:Addr->Prop)(H:Hp):D->V->Prop
 |.non,v=>v=.non
 |.bl b,v=>v=.bl b
 |.int i,v=>v=.int i
 |.str x,v=>v=.str x
 |.ty n,v=>v=.ty n
 |.tup ds,v=>∃a xs,v=.ref a/\SqZ K Z H false a xs/\Reps K G Z H ds xs
 |.lst ds,v=>∃a xs,v=.ref a/\SqZ K Z H true a xs/\Reps K G Z H ds xs
 |.fz ds,v=>∃a xs,v=.ref a/\SqF K Z H a xs/\Reps K G Z H ds xs
 |.st,v=>∃a,G=some a/\v=.ref a
 |.own _,_=>False
 |.dic,v=>∃a kvs,v=.ref a/\¬ Z a/\H a=some (.dK kvs)
 |.exc C,v=>∃a,v=.ref a/\¬ Z a/\H a=some (.exc a C)
 |.dct ks ds,v=>∃a xs,v=.ref a/\(¬ Z a/\H a=some (.dK (YJ ks xs)))/\Reps K G Z H ds xs
 |.rf a,v=>v=.ref a
def Reps(K:W.Frag)(G:Option Addr)(Z:Addr->Prop)(H:Hp):List D->List V->Prop
 |[],vs=>vs=[]
 |d::ds,vs=>∃v r,vs=v::r/\Rep K G Z H d v/\Reps K G Z H ds r
end
section
variable {K:W.Frag}{G:Option Addr}{Z Z':Addr->Prop}{H H':Hp}
def SqT.anyH{a:Addr}{xs:List V}(h:SqT K zG9 a xs):SqT K H a xs:=by
 rcases h with (h |⟨o,h⟩) |h
 ·cases h
 ·cases h
 ·exact .inr h
def SqZ.sq{b:Bool}{a:Addr}{xs:List V}(h:SqZ K Z H b a xs):SqB K b H a xs:=by
 cases b with
 |true=>exact SqL.of h.2
 |false=>
  rcases h with ⟨_,h⟩ |h
  ·exact .inl h
  ·exact SqT.anyH h
def SqZ.mono{b:Bool}{a:Addr}{xs:List V}(h:SqZ K Z H b a xs)(hz:∀a,H a≠none->Z' a->Z a)(hf:∀a o,¬ Z a->H a=some o->H' a=some o):SqZ K Z' H' b a xs:=by
 cases b with
 |true=>exact⟨λz=>h.1 (hz a (by rw[h.2];simp) z),hf a _ h.1 h.2⟩
 | false =>
  rcases h with ⟨n,h⟩ |h
  ·refine .inl ⟨λz => n (hz a ?_ z), ?_⟩
   ·rcases h with h |⟨o,h⟩<;>(rw[h];simp)
   ·rcases h with h | ⟨o, h⟩
    ·exact .inl (hf a _ n h)
    ·exact .inr ⟨o,hf a _ n h⟩
  ·exact .inr h
mutual
theorem Rep.mono(hz:∀a,H a≠none->Z' a->Z a)(hf:∀a o,¬ Z a->H a=some o->H' a=some o):∀(d:D) (v:V),Rep K G Z H d v->Rep K G Z' H' d v
 |.non,v,h=>by unfold Rep at h ⊢;exact h
 |.bl b,v,h=>by unfold Rep at h ⊢;exact h
 |.int b,v,h=>by unfold Rep at h ⊢;exact h
 |.str b,v,h=>by unfold Rep at h ⊢;exact h
 |.ty b,v,h=>by unfold Rep at h ⊢;exact h
 |.st,v,h=>by unfold Rep at h ⊢;exact h
 |.own _,v,h=>by unfold Rep at h;exact h.elim
 |.dic,v,h=>by
  unfold Rep at h ⊢;obtain⟨a,kvs,e,n,q⟩:=h
  exact⟨a,kvs,e,λz=>n (hz a (by rw[q];simp) z),hf a _ n q⟩
 |.exc C,v,h=>by
  unfold Rep at h ⊢;obtain⟨a,e,n,q⟩:=h
  exact⟨a,e,λz=>n (hz a (by rw[q];simp) z),hf a _ n q⟩
 |.dct ks ds,v,h=>by
  unfold Rep at h ⊢;obtain⟨a,xs,e,⟨n,q⟩,r⟩:=h
  exact⟨a,xs,e,⟨λz=>n (hz a (by rw[q];simp) z),hf a _ n q⟩,Reps.mono hz hf ds xs r⟩
 |.rf b,v,h=>by unfold Rep at h ⊢;exact h
 |.tup ds,v,h=>by
  unfold Rep at h ⊢;obtain⟨a,xs,e,q,r⟩:=h;exact⟨a,xs,e,q.mono hz hf,Reps.mono hz hf ds xs r⟩
 |.lst ds,v,h=>by
  unfold Rep at h ⊢;obtain⟨a,xs,e,q,r⟩:=h;exact⟨a,xs,e,q.mono hz hf,Reps.mono hz hf ds xs r⟩
 |.fz ds,v,h=>by
  unfold Rep at h ⊢;obtain⟨a,xs,e,q,r⟩:=h;refine⟨a,xs,e,?_,Reps.mono hz hf ds xs r⟩
  rcases q with ⟨n,o,q⟩ |q
  ·exact .inl ⟨λz=>n (hz a (by rw[q];simp) z),o,hf a _ n q⟩
  ·exact .inr q
theorem Reps.mono(hz:∀a,H a≠none->Z' a->Z a)(hf:∀a o,¬ Z a->H a=some o->H' a=some o):∀(ds:List D) (vs:List V),Reps K G Z H ds vs->Reps K G Z' H' ds vs
 |[],vs,h=>by unfold Reps at h ⊢;exact h
 |d::ds,vs,h=>by
  unfold Reps at h ⊢;obtain⟨v,r,e,q,t⟩:=h;exact⟨v,r,e,Rep.mono hz hf d v q,Reps.mono hz hf ds r t⟩
end
def Reps.nil:Reps K G Z H [] []:=by unfold Reps;rfl
def Reps.cons{d:D}{ds:List D}{v:V}{vs:List V}(h:Rep K G Z H d v)(t:Reps K G Z H ds vs):Reps K G Z H (d::ds) (v::vs):=by unfold Reps;exact⟨v,vs,rfl,h,t⟩
def Reps.inv{d:D}{ds:List D}{v:V}{vs:List V}(h:Reps K G Z H (d::ds) (v::vs)):Rep K G Z H d v/\Reps K G Z H ds vs:=by
 unfold Reps at h;obtain⟨v',r,e,q,t⟩:=h;cases e;exact⟨q,t⟩
def Reps.split{d:D}{ds:List D}{vs:List V}(h:Reps K G Z H (d::ds) vs):∃v r,vs=v::r/\Rep K G Z H d v/\Reps K G Z H ds r:=by unfold Reps at h;exact h
def Reps.nil_inv{vs:List V}(h:Reps K G Z H [] vs):vs=[]:=by unfold Reps at h;exact h
theorem Reps.length:∀{ds:List D}{vs:List V},Reps K G Z H ds vs->vs.length=ds.length
 |[],vs,h=>by rw[h.nil_inv];rfl
 |d::ds,vs,h=>by
  obtain⟨v,r,rfl,_,t⟩:=h.split;rw[zt,zt,Reps.length t]
theorem Reps.get:∀{ds:List D}{vs:List V}{i:Nat}{d:D},Reps K G Z H ds vs->ds[i]?=some d->∃v,vs[i]?=some v/\Rep K G Z H d v
 |[],vs,i,d,_,e=>by simp at e
 |c::ds,vs,0,d,h,e=>by
  obtain⟨v,r,rfl,q,t⟩:=h.split;simp at e;subst e;exact⟨v,rfl,q⟩
 |c::ds,vs,i+1,d,h,e=>by
  obtain⟨v,r,rfl,q,t⟩:=h.split
  obtain⟨u,e1,e2⟩:=Reps.get (i:=i) t (by simpa using e)
  exact⟨u,by simpa using e1,e2⟩
theorem Reps.append:∀{ds es:List D}{vs ws:List V},Reps K G Z H ds vs->Reps K G Z H es ws->Reps K G Z H (ds++es) (vs++ws)
 |[],es,vs,ws,h,h'=>by rw[h.nil_inv];exact h'
 |d::ds,es,vs,ws,h,h'=>by
  obtain⟨v,r,rfl,q,t⟩:=h.split;exact .cons q (Reps.append t h')
theorem Reps.drop:∀{ds:List D}{vs:List V} (n:Nat),Reps K G Z H ds vs->Reps K G Z H (ds.drop n) (vs.drop n)
 |ds,vs,0,h=>h
 |[],vs,n+1,h=>by rw[h.nil_inv];exact .nil
 |d::ds,vs,n+1,h=>by
  obtain⟨v,r,rfl,q,t⟩:=h.split;exact Reps.drop n t
theorem Reps.take:∀{ds:List D}{vs:List V} (n:Nat),Reps K G Z H ds vs->Reps K G Z H (ds.take n) (vs.take n)
 |ds,vs,0,h=>.nil
 |[],vs,n+1,h=>by rw[h.nil_inv];exact .nil
 |d::ds,vs,n+1,h=>by
  obtain⟨v,r,rfl,q,t⟩:=h.split;exact .cons q (Reps.take n t)
end
def kI:D->Bool
 |.non=>true |.bl _=>true |.int _=>true |.str _=>true |.ty _=>true |_=>false
def ofS:D->V
 |.bl b=>.bl b |.int i=>.int i |.str x=>.str x |.ty n=>.ty n |_=>.non
theorem Rep.ofS{K:W.Frag}{G:Option Addr}{Z:Addr->Prop}{H:Hp}:∀{d:D},kI d=true->Rep K G Z H d (ofS d)
 |.non,_=>by unfold Rep;rfl
 |.bl b,_=>by unfold Rep;rfl
 |.int b,_=>by unfold Rep;rfl
 |.str b,_=>by unfold Rep;rfl
 |.ty b,_=>by unfold Rep;rfl
 |.tup ds,h=>by simp[kI] at h
 |.lst ds,h=>by simp[kI] at h
 |.st,h=>by simp[kI] at h
 |.fz ds,h=>by simp[kI] at h
 |.own ds,h=>by simp[kI] at h
theorem Rep.toS{K:W.Frag}{G:Option Addr}{Z:Addr->Prop}{H:Hp}{v:V}:∀{d:D},kI d=true->Rep K G Z H d v->v=L2.ofS d
 |.non,_,h=>by unfold Rep at h;exact h
 |.bl b,_,h=>by unfold Rep at h;exact h
 |.int b,_,h=>by unfold Rep at h;exact h
 |.str b,_,h=>by unfold Rep at h;exact h
 |.ty b,_,h=>by unfold Rep at h;exact h
 |.tup ds,h,_=>by simp[kI] at h
 |.lst ds,h,_=>by simp[kI] at h
 |.st,h,_=>by simp[kI] at h
 |.fz ds,h,_=>by simp[kI] at h
 |.own ds,h,_=>by simp[kI] at h
def Rep.int_inv{K:W.Frag}{G:Option Addr}{Z:Addr->Prop}{H:Hp}{v:V}{i:Int}(h:Rep K G Z H (.int i) v):v=.int i:=by unfold Rep at h;exact h
def Rep.bl_inv{K:W.Frag}{G:Option Addr}{Z:Addr->Prop}{H:Hp}{v:V}{i:Bool}(h:Rep K G Z H (.bl i) v):v=.bl i:=by unfold Rep at h;exact h
def Rep.tup_inv{K:W.Frag}{G:Option Addr}{Z:Addr->Prop}{H:Hp}{v:V}{ds:List D}(h:Rep K G Z H (.tup ds) v):∃a xs,v=.ref a/\SqZ K Z H false a xs/\Reps K G Z H ds xs:=by unfold Rep at h;exact h
def Rep.lst_inv{K:W.Frag}{G:Option Addr}{Z:Addr->Prop}{H:Hp}{v:V}{ds:List D}(h:Rep K G Z H (.lst ds) v):∃a xs,v=.ref a/\SqZ K Z H true a xs/\Reps K G Z H ds xs:=by unfold Rep at h;exact h
def Rep.fz_inv{K:W.Frag}{G:Option Addr}{Z:Addr->Prop}{H:Hp}{v:V}{ds:List D}(h:Rep K G Z H (.fz ds) v):∃a xs,v=.ref a/\SqL K H a xs/\Reps K G Z H ds xs:=by
 unfold Rep at h;obtain⟨a,xs,e,q,r⟩:=h;refine⟨a,xs,e,?_,r⟩
 rcases q with ⟨_,o,q⟩ |q
 ·exact .inl (.inr ⟨o,q⟩)
 ·rcases q with (q | ⟨o, q⟩) | q
  ·cases q
  ·cases q
  ·exact .inr q
def Rep.tup_mk{K:W.Frag}{G:Option Addr}{Z:Addr->Prop}{H:Hp}{a:Addr}{xs:List V}{ds:List D}(q:SqZ K Z H false a xs)(r:Reps K G Z H ds xs):Rep K G Z H (.tup ds) (.ref a):=by unfold Rep;exact⟨a,xs,rfl,q,r⟩
def Rep.lst_mk{K:W.Frag}{G:Option Addr}{Z:Addr->Prop}{H:Hp}{a:Addr}{xs:List V}{ds:List D}(q:SqZ K Z H true a xs)(r:Reps K G Z H ds xs):Rep K G Z H (.lst ds) (.ref a):=by unfold Rep;exact⟨a,xs,rfl,q,r⟩
def Zt:List Nat->Nat
 |[]=>0
 |x::xs=>2^x*(2*Zt xs+1)
theorem Qw:∀{a b x y:Nat},2^a*(2*x+1)=2^b*(2*y+1)->a=b/\x=y
 |0,0,x,y,h=>by simp at h;exact⟨rfl,q5⟩
 |0,b+1,x,y,h=>by
  rw[wZ,Nat.mul_comm (2^b) 2,Nat.mul_assoc] at h;generalize 2^b*(2*y+1)=c at h;lia
 |a+1,0,x,y,h=>by
  rw[wZ,Nat.mul_comm (2^a) 2,Nat.mul_assoc] at h;generalize 2^a*(2*x+1)=c at h;lia
 |a+1,b+1,x,y,h=>by
  rw[wZ,Nat.mul_comm (2^a) 2,Nat.mul_assoc,wZ,Nat.mul_comm (2^b) 2,Nat.mul_assoc] at h
  obtain⟨e1,e2⟩:=Qw (a:=a) (b:=b) (x:=x) (y:=y) q5
  exact⟨q5,e2⟩
def Jd{x:Nat}{xs:List Nat}:Zt (x::xs)≠0:=Nat.mul_ne_zero (Nat.ne_of_gt (Nat.pow_pos q5)) q5
theorem yU:∀{a b:List Nat},Zt a=Zt b->a=b
 |[],[],_=>rfl
 |[],y::ys,h=>absurd h.symm Jd
 |x::xs,[],h=>absurd h Jd
 |x::xs,y::ys,h=>by
  obtain⟨e1,e2⟩:=Qw (show 2^x*(2*Zt xs+1)=2^y*(2*Zt ys+1) from h);rw[e1,yU e2]
def zU7(i:Int):Nat:=if i<0 then 2*i.natAbs+1 else 2*i.natAbs
def Je{i j:Int}(h:zU7 i=zU7 j):i=j:=by unfold zU7 at h;split at h<;>split at h<;>lia
theorem ZU{α β:Type}{f:α->β}(hf:∀{x y},f x=f y->x=y):∀{a b:List α},a.map f=b.map f->a=b
 |[],[],_=>rfl
 |[],y::ys,h=>by simp at h
 |x::xs,[],h=>by simp at h
 |x::xs,y::ys,h=>by
  rw[zu,zu] at h;obtain⟨h1,h2⟩:=List.cons.inj h;rw[hf h1,ZU hf h2]
mutual
def plD:D->Bool
 |.non=>true
 |.bl _=>true
 |.int _=>true
 |.rf _=>true
 |.tup ds=>jO ds
 |.lst ds=>jO ds
 |_=>false
def jO:List D->Bool
 |[]=>true
 |d::ds=>plD d&&jO ds
end
mutual
def zs4:D->List Nat
 |.bl b=>[1,if b then 1 else 0]
 |.int i=>[2,zU7 i]
 |.rf a=>[3,a]
 |.tup ds=>[4,Zt (YS ds)]
 |.lst ds=>[5,Zt (YS ds)]
 |_=>[0]
def YS:List D->List Nat
 |[]=>[]
 |d::ds=>Zt (zs4 d)::YS ds
end
mutual
theorem zs3:∀(d e:D),plD d=true->plD e=true->zs4 d=zs4 e->d=e
 |.non,e,_,h,q=>by cases e<;>simp[plD,zs4] at h q ⊢
 |.bl b,e,_,h,q=>by
  cases e<;>simp[plD,zs4] at h q ⊢
  rename_i c
  cases b<;>cases c<;>simp at q ⊢
 |.int i,e,_,h,q=>by
  cases e<;>simp[plD,zs4] at h q ⊢
  exact Je q
 |.rf a,e,_,h,q=>by
  cases e<;>simp[plD,zs4] at h q ⊢
  exact q
 |.tup ds,e,h',h,q=>by
  cases e<;>simp[plD,zs4] at h' h q ⊢
  exact kX _ _ h' h (yU q)
 |.lst ds,e,h',h,q=>by
  cases e<;>simp[plD,zs4] at h' h q ⊢
  exact kX _ _ h' h (yU q)
 |.str _,_,h,_,_=>by simp[plD] at h
 |.ty _,_,h,_,_=>by simp[plD] at h
 |.fz _,_,h,_,_=>by simp[plD] at h
 |.st,_,h,_,_=>by simp[plD] at h
 |.own _,_,h,_,_=>by simp[plD] at h
 |.dic,_,h,_,_=>by simp[plD] at h
 |.dct _ _,_,h,_,_=>by simp[plD] at h
 |.exc _,_,h,_,_=>by simp[plD] at h
theorem kX:∀(ds es:List D),jO ds=true->jO es=true->YS ds=YS es->ds=es
 |[],[],_,_,_=>rfl
 |[],e::es,_,_,q=>by simp[YS] at q
 |d::ds,[],_,_,q=>by simp[YS] at q
 |d::ds,e::es,h',h,q=>by
  simp[YS,jO] at h' h q;rw[zs3 d e h'.1 h.1 (yU q.1),kX ds es h'.2 h.2 q.2]
end
inductive Cell where
 /-- a dict with whole numbers as keys -/
 |dic (kv:List (Int × D))
 /-- an instance of the class at C: its attributes -/
 |ins (C:Addr) (fs:List (Str × D))
 /-- a dict with texts as keys -/
 |dis (fs:List (Str × D))
def plC:Cell->Bool
 |.dic kv=>jO (kv.map (·.2))
 |.ins _ fs=>jO (fs.map (·.2))
 |.dis fs=>jO (fs.map (·.2))
def Jf:Cell->List Nat
 |.dic kv=>[0,Zt ((kv.map (·.1)).map zU7),Zt (YS (kv.map (·.2)))]
 |.ins C fs=>[1,C,Zt ((fs.map (·.1)).map λs=>Zt s.cps.toList),Zt (YS (fs.map (·.2)))]
 |.dis fs=>[2,Zt ((fs.map (·.1)).map λs=>Zt s.cps.toList),Zt (YS (fs.map (·.2)))]
def Jc{x y:Str}(h:Zt x.cps.toList=Zt y.cps.toList):x=y:=by
 obtain⟨x⟩:=x;obtain⟨y⟩:=y;have:=yU h;simp only[Str.mk.injEq];exact Array.toList_inj.mp this
theorem ZS{α β:Type}:∀{l r:List (α × β)},l.map (·.1)=r.map (·.1)->l.map (·.2)=r.map (·.2)->l=r
 |[],[],_,_=>rfl
 |[],_::_,h,_=>by simp at h
 |_::_,[],h,_=>by simp at h
 |p::l,q::r,h,g=>by
  simp only[zu,List.cons.injEq] at h g;rw[ZS h.2 g.2,Prod.ext h.1 g.1]
theorem zs5:∀{c e:Cell},plC c=true->plC e=true->Jf c=Jf e->c=e
 |.dic kv,.dic kv',h,h',q=>by
  simp only[Jf,List.cons.injEq,true_and,and_true] at q;rw[ZS (ZU (λh=>Je h) (yU q.1)) (kX _ _ h h' (yU q.2))]
 |.dic _,.ins _ _,_,_,q=>by simp[Jf] at q
 |.ins _ _,.dic _,_,_,q=>by simp[Jf] at q
 |.dic _,.dis _,_,_,q=>by simp[Jf] at q
 |.dis _,.dic _,_,_,q=>by simp[Jf] at q
 |.dis _,.ins _ _,_,_,q=>by simp[Jf] at q
 |.ins _ _,.dis _,_,_,q=>by simp[Jf] at q
 |.dis fs,.dis fs',h,h',q=>by
  simp only[Jf,List.cons.injEq,true_and,and_true] at q;rw[ZS (ZU (λh=>Jc h) (yU q.1)) (kX _ _ h h' (yU q.2))]
 |.ins C fs,.ins C' fs',h,h',q=>by
  simp only[Jf,List.cons.injEq,true_and,and_true] at q;rw[q.1,ZS (ZU (λh=>Jc h) (yU q.2.1)) (kX _ _ h h' (yU q.2.2))]
abbrev Wd:=Nat × List (Addr × Cell)
def plW(w:Wd):Prop:=∀p∈w.2,plC p.2=true
@[irreducible] def zk4(w:Wd):Nat:=64+Zt [w.1,Zt (w.2.map λp=>Zt [p.1,Zt (Jf p.2)])]
def zH7(w:Wd):64<=zk4 w:=by unfold zk4;lia
def zs2:∀{v w:Wd},plW v->plW w->zk4 v=zk4 w->v=w:=λ{v w} hv hw h=>by
 unfold zk4 at h;obtain⟨k,l⟩:=v;obtain⟨k',l'⟩:=w;have h1:=yU (Nat.add_left_cancel h);simp only[List.cons.injEq,and_true] at h1
 have key:∀{l l':List (Addr × Cell)},(∀p∈l,plC p.2=true)->(∀p∈l',plC p.2=true)->(l.map λp=>Zt [p.1,Zt (Jf p.2)])=l'.map (λp=>Zt [p.1,Zt (Jf p.2)])->l=l':=by
  intro l
  induction l with
  |nil=>intro l' _ _ h;cases l'<;>simp at h ⊢
  | cons p l ih =>
   intro l' h1 h2 h
   cases l' with
   |nil=>simp at h
   |cons p' l'=>
    simp only[zu,List.cons.injEq] at h;have e:=yU h.1;simp only[List.cons.injEq,and_true] at e;have e2:=zs5 (h1 p zo) (h2 p' zo) (yU e.2);rw[ih (λq hq=>h1 q (zc _ hq)) (λq hq=>h2 q (zc _ hq)) h.2,Prod.ext e.1 e2]
 exact Prod.ext h1.1 (key hv hw (yU h1.2))
open Classical in
noncomputable def Qo(n:Nat):Wd:=if h:∃w,plW w/\zk4 w=n then Classical.choose h else(n,[])
def zs9{w:Wd}(h:plW w):Qo (zk4 w)=w:=by
 have g:∃v,plW v/\zk4 v=zk4 w:=⟨w,h,rfl⟩;unfold Qo;rw[dif_pos g];exact zs2 (Classical.choose_spec g).1 h (Classical.choose_spec g).2
def zg4(n:Nat):plW (Qo n):=by
 unfold Qo
 split
 ·rename_i g;exact(Classical.choose_spec g).1
 ·intro p hp;simp at hp
def zg5{n:Nat}(h:n<64):Qo n=(n,[]):=by
 unfold Qo;rw[dif_neg];rintro⟨w,_,rfl⟩;have:=zH7 w;lia
noncomputable def kOf(n:Nat):Nat:=(Qo n).1
noncomputable def xb(n:Nat)(a:Addr):Option Cell:=(Qo n).2.lookup a
noncomputable def UW(n:Nat):List Addr:=(Qo n).2.map (·.1)
noncomputable def vA(n:Nat)(a:Addr)(c:Cell):Nat:=zk4 (kOf n,(a,c)::(Qo n).2)
def ze1{n:Nat}(h:n<64):kOf n=n:=by unfold kOf;rw[zg5 h]
@[simp] theorem zS7:kOf 2=2:=ze1 q9
@[simp] theorem xs8:kOf 3=3:=ze1 q9
def kY{n:Nat}{a:Addr}(h:n<64):xb n a=none:=by unfold xb;rw[zg5 h];rfl
def Ji{n:Nat}{a:Addr}{c:Cell}(h:plC c=true):Qo (vA n a c)=(kOf n,(a,c)::(Qo n).2):=zs9 λp hp=>by
 rcases zd.mp hp with rfl |hp
 ·exact h
 ·exact zg4 n p hp
def vQ{n:Nat}{a:Addr}{c:Cell}(h:plC c=true):kOf (vA n a c)=kOf n:=by unfold kOf;rw[Ji h];rfl
def vG{n:Nat}{a b:Addr}{c:Cell}(h:plC c=true):xb (vA n a c) b=if b=a then some c else xb n b:=by
 unfold xb;rw[Ji h]
 by_cases e:b=a
 ·subst e;simp
 ·rw[if_neg e];simp[List.lookup,beq_eq_false_iff_ne.mpr e]
def UV{n:Nat}{a:Addr}(h:xb n a≠none):a∈UW n:=by
 unfold xb at h;unfold UW
 have key:∀l:List (Addr × Cell),l.lookup a≠none->a∈l.map (·.1):=by
  intro l
  induction l with
  |nil=>intro h;exact absurd rfl h
  |cons p l ih=>
   intro h;rw[zu]
   by_cases e:a=p.1
   ·rw[e];exact zo
   ·exact zc _ (ih (by simpa [List.lookup,beq_eq_false_iff_ne.mpr e] using h))
 exact key _ h
def KvR(K:W.Frag)(Z:Addr->Prop)(H:Hp):List (Int × D)->List (Key × V)->Prop
 |[],[]=>True
 |p::l,q::r=>q.1=.inl p.1/\Rep K none Z H p.2 q.2/\KvR K Z H l r
 |_,_=>False
def FsR(K:W.Frag)(Z:Addr->Prop)(H:Hp):List (Str × D)->List (Str × V)->Prop
 |[],[]=>True
 |p::l,q::r=>q.1=p.1/\Rep K none Z H p.2 q.2/\FsR K Z H l r
 |_,_=>False
def KsR(K:W.Frag)(Z:Addr->Prop)(H:Hp):List (Str × D)->List (Key × V)->Prop
 |[],[]=>True
 |p::l,q::r=>q.1=.inr p.1/\Rep K none Z H p.2 q.2/\KsR K Z H l r
 |_,_=>False
theorem KsR.mono{K:W.Frag}{Z Z':Addr->Prop}{H H':Hp}(hz:∀a,H a≠none->Z' a->Z a)(hf:∀a o,¬ Z a->H a=some o->H' a=some o):∀{l:List (Str × D)}{r:List (Key × V)},KsR K Z H l r->KsR K Z' H' l r
 |[],[],_=>trivial
 |_::_,_::_,h=>⟨h.1,Rep.mono hz hf _ _ h.2.1,KsR.mono hz hf h.2.2⟩
theorem KvR.mono{K:W.Frag}{Z Z':Addr->Prop}{H H':Hp}(hz:∀a,H a≠none->Z' a->Z a)(hf:∀a o,¬ Z a->H a=some o->H' a=some o):∀{l:List (Int × D)}{r:List (Key × V)},KvR K Z H l r->KvR K Z' H' l r
 |[],[],_=>trivial
 |_::_,_::_,h=>⟨h.1,Rep.mono hz hf _ _ h.2.1,KvR.mono hz hf h.2.2⟩
theorem FsR.mono{K:W.Frag}{Z Z':Addr->Prop}{H H':Hp}(hz:∀a,H a≠none->Z' a->Z a)(hf:∀a o,¬ Z a->H a=some o->H' a=some o):∀{l:List (Str × D)}{r:List (Str × V)},FsR K Z H l r->FsR K Z' H' l r
 |[],[],_=>trivial
 |_::_,_::_,h=>⟨h.1,Rep.mono hz hf _ _ h.2.1,FsR.mono hz hf h.2.2⟩
def CellR(K:W.Frag)(Z:Addr->Prop)(H:Hp)(a:Addr):Cell->Prop
 |.dic kv=>∃kvs,H a=some (.dK kvs)/\KvR K Z H kv kvs
 |.ins C fs=>∃dx gs,H a=some (.ins C dx gs)/\FsR K Z H fs gs
 |.dis fs=>∃kvs,H a=some (.dK kvs)/\KsR K Z H fs kvs
def CellR.ne{K:W.Frag}{Z:Addr->Prop}{H:Hp}{a:Addr}{c:Cell}(h:CellR K Z H a c):H a≠none:=by
 cases c with
 |dic kv=>obtain⟨xs,h,_⟩:=h;rw[h];simp
 |ins C fs=>obtain⟨dx,xs,h,_⟩:=h;rw[h];simp
 |dis fs=>obtain⟨xs,h,_⟩:=h;rw[h];simp
def CellR.mono{K:W.Frag}{Z Z':Addr->Prop}{H H':Hp}{a:Addr}{c:Cell}(h:CellR K Z H a c)(hz:∀a,H a≠none->Z' a->Z a)(hf:∀a o,¬ Z a->H a=some o->H' a=some o)(hc:∀o,H a=some o->H' a=some o):CellR K Z' H' a c:=by
 cases c with
 |dic kv=>obtain⟨xs,h,r⟩:=h;exact⟨xs,hc _ h,r.mono hz hf⟩
 |ins C fs=>obtain⟨dx,xs,h,r⟩:=h;exact⟨dx,xs,hc _ h,r.mono hz hf⟩
 |dis fs=>obtain⟨xs,h,r⟩:=h;exact⟨xs,hc _ h,r.mono hz hf⟩
def StOk(K:W.Frag)(Z C:Addr->Prop)(G:Option Addr)(n:Nat)(H:Hp):Prop:=
 (∀a,G=some a->∃(zs:List Int) (_ _:Nat),H a=some (.lst (zs.map V.int))/\zs.length=kOf n/\(∀x∈zs,0<=x)/\∀x,zs[1]?=some x->x<2147483647) /\
 ∀a c,xb n a=some c->C a/\G≠some a/\CellR K Z H a c
def StOk.monoC{K:W.Frag}{Z Z' C C':Addr->Prop}{G:Option Addr}{n:Nat}{H H':Hp}(h:StOk K Z C G n H)(hz:∀a,H a≠none->Z' a->Z a)(hf:∀a o,¬ Z a->H a=some o->H' a=some o)(hg:∀a o,G=some a->H a=some o->H' a=some o)
  (hC:∀a,xb n a≠none->C a->C' a) (hc:∀a o,xb n a≠none->H a=some o->H' a=some o):StOk K Z' C' G n H':=
 ⟨λa e=>by
  obtain⟨zs,u,v,q,r⟩:=h.1 a e
  exact⟨zs,u,v,hg a _ e q,r⟩,λa c e=>by
  obtain⟨q1,q2,q3⟩:=h.2 a c e
  have ne:xb n a≠none:=by rw[e];simp
  exact⟨hC a ne q1,q2,q3.mono hz hf λo=>hc a o ne⟩⟩
def StOk.mono{K:W.Frag}{Z Z' C C':Addr->Prop}{G:Option Addr}{n:Nat}{H H':Hp}(h:StOk K Z C G n H)(hz:∀a,H a≠none->Z' a->Z a)(hf:∀a o,¬ Z a->H a=some o->H' a=some o)(hg:∀a o,G=some a->H a=some o->H' a=some o)
  (hC:∀a,xb n a≠none->C a->C' a) (hc:∀a o,C a->H a=some o->H' a=some o):StOk K Z' C' G n H':=
 h.monoC hz hf hg hC λa o ne e=>by
  cases q:xb n a with
  |none=>exact absurd q ne
  |some c=>exact hc a o (h.2 a c q).1 e
def StOk.noCot{K:W.Frag}{Z C:Addr->Prop}{G:Option Addr}{n:Nat}{H:Hp}{P:Addr}{q:Str}(st:StOk K Z C G n H)(h:H P=some (.cot q)):xb n P=none:=by
 cases e:xb n P with
 |none=>rfl
 |some c=>
  have r:=(st.2 P c e).2.2
  cases c with
  |dic kv=>obtain⟨_,z,_⟩:=r;rw[h] at z;cases z
  |ins C fs=>obtain⟨_,_,z,_⟩:=r;rw[h] at z;cases z
  |dis fs=>obtain⟨_,z,_⟩:=r;rw[h] at z;cases z
structure AC where
 K:W.Frag
 G:Option Addr
 Z0:Addr->Prop
 H0:Hp
abbrev Rho:=List (Option D)
def Zof(A:AC)(os:List (Nat × Addr)):Addr->Prop:=λa=>A.Z0 a\/∃p∈os,p.2=a
def SlotR(A:AC)(os:List (Nat × Addr))(H:Hp)(i:Nat):D->V->Prop
 |.own ds,v=>∃a xs,v=.ref a/\(i,a)∈os/\H a=some (.lst xs)/\Reps A.K A.G (Zof A os) H ds xs
 |d,v=>Rep A.K A.G (Zof A os) H d v
def kO:List Str:=["_law_turn_right"]
def vZ(K:W.Frag)(P:Addr)(q:Str):Prop:=∃x∈kO,∃c,W.tabIn K x=some (c,P)/\q=(x ++ ".<locals>.") ++ "<lambda>"
def ZOk(K:W.Frag)(G:Option Addr)(Z:Addr->Prop)(H:Hp):Prop:=(∀a,Z a->H a≠none)/\∀P q,vZ K P q->H P=some (.cot q)/\G≠some P
def Cof(A:AC)(os:List (Nat × Addr))(m:Nat):Addr->Prop:=λa=>(A.Z0 a/\A.H0 a=none)\/∃p∈os,p.2=a/\m<=p.1
structure AmO(A:AC)(os:List (Nat × Addr))(n:Nat)(rho:Rho)(sg:St)(H:Hp)(ds:List D)(vs:List V):Prop where
 len:rho.length=sg.length
 slot:∀i d,rho[i]?=some (some d)->∃v,sg[i]?=some (some v)/\SlotR A os H i d v
 pend:Reps A.K A.G (Zof A os) H ds vs
 nd:os.Pairwise λp q=>p.1≠q.1/\p.2≠q.2
 fresh:∀p∈os,A.H0 p.2=none/\¬ A.Z0 p.2/\H p.2≠none
 st:StOk A.K (Zof A os) (Cof A os rho.length) A.G n H
 gz:∀a,A.G=some a->A.Z0 a
 fr:∀a o,A.G≠some a->A.H0 a=some o->H a=some o
 z0:(∀a,A.Z0 a->A.H0 a≠none\/xb n a≠none)/\∀P q,vZ A.K P q->A.H0 P=some (.cot q)/\A.G≠some P
def Am(A:AC)(n:Nat)(rho:Rho)(sg:St)(H:Hp)(ds:List D)(vs:List V):Prop:=∃os,AmO A os n rho sg H ds vs
section
variable {A:AC}{os:List (Nat × Addr)}{n:Nat}{rho:Rho}{sg:St}{H:Hp}{ds:List D}{vs:List V}{d:D}{v:V}
def AmO.zH(I:AmO A os n rho sg H ds vs):∀a,Zof A os a->H a≠none:=λa h=>by
 rcases h with h |⟨p,hp,rfl⟩
 ·by_cases e : A.G = some a
  ·obtain⟨x,y,z,q,_⟩:=I.st.1 a e;rw[q];simp
  ·rcases I.z0.1 a h with z | z
   ·cases q : A.H0 a with
    |none=>exact absurd q z
    |some o=>rw[I.fr a o e q];simp
   ·cases q : xb n a with
    |none=>exact absurd q z
    |some c=>exact(I.st.2 a c q).2.2.ne
 ·exact(I.fresh p hp).2.2
def AmO.zO(I:AmO A os n rho sg H ds vs):ZOk A.K A.G (Zof A os) H:=⟨I.zH,λP q t=>⟨I.fr P _ (I.z0.2 P q t).2 (I.z0.2 P q t).1,(I.z0.2 P q t).2⟩⟩
def AmO.noOwn(I:AmO A os n rho sg H ds vs){i:Nat}{a:Addr}(hi:i<rho.length)(hm:(i,a)∈os):xb n a=none:=by
 cases q:xb n a with
 |none=>rfl
 | some c =>
  exfalso
  rcases(I.st.2 a c q).1 with ⟨z,_⟩ |⟨p,hp,e,hl⟩
  ·exact(I.fresh _ hm).2.1 z
  ·have key : ∀ (l : List (Nat × Addr)), l.Pairwise (λp q => p.1 ≠ q.1 /\ p.2 ≠ q.2) -> (i, a) ∈ l -> ∀ q ∈ l, q.2 = a -> q.1 = i := by
    intro l
    induction l with
    |nil=>intro _ h;simp at h
    |cons c l ih=>
     intro hp h1 q hq hqa;obtain⟨p1,p2⟩:=wS.mp hp
     rcases zd.mp h1 with e1 |h1<;>rcases zd.mp hq with e2 |h2
     ·rw[e2,<- e1]
     ·exact absurd (by rw[<- e1,hqa]) (p1 _ h2).2
     ·exact absurd (by rw[<- e2,hqa]) (p1 _ h1).2
     ·exact ih p2 h1 q h2 hqa
   have:=key os I.nd hm p hp e;lia
def SlotR.mono{os':List (Nat × Addr)}{H':Hp}{i:Nat}(hz:∀a,H a≠none->Zof A os' a->Zof A os a)(hf:∀a o,¬ Zof A os a->H a=some o->H' a=some o)
  (ho:∀a xs,(i,a)∈os->H a=some (.lst xs)->(i,a)∈os'/\H' a=some (.lst xs)):∀(d:D) (v:V),SlotR A os H i d v->SlotR A os' H' i d v
 |.own ds,v,h=>by
  obtain⟨a,xs,e,m,q,r⟩:=h;obtain⟨m',q'⟩:=ho a xs m q;exact⟨a,xs,e,m',q',Reps.mono hz hf ds xs r⟩
 |.non,v,h=>Rep.mono hz hf _ _ h
 |.bl _,v,h=>Rep.mono hz hf _ _ h
 |.int _,v,h=>Rep.mono hz hf _ _ h
 |.str _,v,h=>Rep.mono hz hf _ _ h
 |.ty _,v,h=>Rep.mono hz hf _ _ h
 |.tup _,v,h=>Rep.mono hz hf _ _ h
 |.lst _,v,h=>Rep.mono hz hf _ _ h
 |.st,v,h=>Rep.mono hz hf _ _ h
 |.fz _,v,h=>Rep.mono hz hf _ _ h
 |.dic,v,h=>Rep.mono hz hf _ _ h
 |.exc _,v,h=>Rep.mono hz hf _ _ h
 |.dct _ _,v,h=>Rep.mono hz hf _ _ h
 |.rf _,v,h=>Rep.mono hz hf _ _ h
def yr:D->Bool
 |.own _=>false
 |_=>true
theorem SlotR.rep{i:Nat}:∀{d:D}{v:V},yr d=true->SlotR A os H i d v->Rep A.K A.G (Zof A os) H d v
 |.own _,_,h,_=>by simp[yr] at h
 |.non,_,_,h=>h
 |.bl _,_,_,h=>h
 |.int _,_,_,h=>h
 |.str _,_,_,h=>h
 |.ty _,_,_,h=>h
 |.tup _,_,_,h=>h
 |.lst _,_,_,h=>h
 |.st,_,_,h=>h
 |.fz _,_,_,h=>h
 |.dic,_,_,h=>h
 |.exc _,_,_,h=>h
 |.dct _ _,_,_,h=>h
 |.rf _,_,_,h=>h
theorem SlotR.of{i:Nat}:∀{d:D}{v:V},Rep A.K A.G (Zof A os) H d v->SlotR A os H i d v
 |.own _,_,h=>by unfold Rep at h;exact h.elim
 |.non,_,h=>h
 |.bl _,_,h=>h
 |.int _,_,h=>h
 |.str _,_,h=>h
 |.ty _,_,h=>h
 |.tup _,_,h=>h
 |.lst _,_,h=>h
 |.st,_,h=>h
 |.fz _,_,h=>h
 |.dic,_,h=>h
 |.exc _,_,h=>h
 |.dct _ _,_,h=>h
 |.rf _,_,h=>h
def AmO.push(I:AmO A os n rho sg H ds vs)(h:Rep A.K A.G (Zof A os) H d v):AmO A os n rho sg H (d::ds) (v::vs):=
 ⟨I.len,I.slot,.cons h I.pend,I.nd,I.fresh,I.st,I.gz,I.fr,I.z0⟩
def AmO.pends{es:List D}{ws:List V}(I:AmO A os n rho sg H ds vs)(h:Reps A.K A.G (Zof A os) H es ws):AmO A os n rho sg H es ws:=
 ⟨I.len,I.slot,h,I.nd,I.fresh,I.st,I.gz,I.fr,I.z0⟩
def AmO.pop(I:AmO A os n rho sg H (d::ds) (v::vs)):AmO A os n rho sg H ds vs/\Rep A.K A.G (Zof A os) H d v:=⟨I.pends I.pend.inv.2,I.pend.inv.1⟩
def AmO.grow{p:Addr}{o:HO}(I:AmO A os n rho sg H ds vs)(hp:H p=none):AmO A os n rho sg (upd H p o) ds vs:=by
 have hf:∀a u,H a=some u->upd H p o a=some u:=λa u e=>by rw[xS (wJ e hp)];exact e
 refine⟨I.len,λi d e=>?_,Reps.mono (λ_ _ z=>z) (λa u _ e=>hf a u e) _ _ I.pend,I.nd,λq hq=>?_,I.st.mono (λ_ _ z=>z) (λa u _ e=>hf a u e) (λa u _ e=>hf a u e) (λ_ _ z=>z) (λa u _ e=>hf a u e),I.gz,λa u h e=>hf a u (I.fr a u h e),I.z0⟩
 ·obtain⟨v,e1,e2⟩:=I.slot i d e;exact⟨v,e1,SlotR.mono (λ_ _ z=>z) (λa u _ e=>hf a u e) (λa xs m q=>⟨m,hf a _ q⟩) _ _ e2⟩
 ·obtain ⟨f1, f2, f3⟩ := I.fresh q hq;refine⟨f1,f2,?_⟩
  cases e:H q.2 with
  |none=>exact absurd e f3
  |some u=>rw[hf _ _ e];simp
def AmO.newTup{p:Addr}{es:List D}{xs:List V}(I:AmO A os n rho sg H ds vs)(r:Reps A.K A.G (Zof A os) H es xs)(hp:H p=none):AmO A os n rho sg (upd H p (.tup xs)) (.tup es::ds) (.ref p::vs):=by
 have g:=I.grow (o:=.tup xs) hp;refine g.push (.tup_mk (.inl ⟨λz=>I.zH p z hp,.inl yd⟩) ?_)
 exact Reps.mono (λ_ _ z=>z) (λa u _ e=>by rw[xS (wJ e hp)];exact e) _ _ r
def AmO.newLst{p:Addr}{es:List D}{xs:List V}(I:AmO A os n rho sg H ds vs)(r:Reps A.K A.G (Zof A os) H es xs)(hp:H p=none):AmO A os n rho sg (upd H p (.lst xs)) (.lst es::ds) (.ref p::vs):=by
 have g:=I.grow (o:=.lst xs) hp;refine g.push (.lst_mk ⟨λz=>I.zH p z hp,yd⟩ ?_)
 exact Reps.mono (λ_ _ z=>z) (λa u _ e=>by rw[xS (wJ e hp)];exact e) _ _ r
def Cof.filter{i:Nat}{a:Addr}{x:Option D}(hi:i<rho.length)(z:Cof A os rho.length a):Cof A (os.filter λp=>decide (p.1≠i)) (rho.set i x).length a:=by
 rw[length_set]
 rcases z with z |⟨p,hp,e,hl⟩
 ·exact .inl z
 ·exact .inr ⟨p,xh.mpr ⟨hp,by simp;lia⟩,e,hl⟩
def AmO.set{i:Nat}(I:AmO A os n rho sg H (d::ds) (v::vs))(hi:i<rho.length):AmO A (os.filter λp=>decide (p.1≠i)) n (rho.set i (some d)) (sg.set i (some v)) H ds vs:=by
 obtain⟨J,hr⟩:=I.pop
 have sub:∀a,H a≠none->Zof A (os.filter λp=>decide (p.1≠i)) a->Zof A os a:=λa _ z=>by
  rcases z with z |⟨p,hp,e⟩
  ·exact .inl z
  ·exact .inr ⟨p,(xh.mp hp).1,e⟩
 refine⟨by simp[I.len],λj c e=>?_,Reps.mono sub (λ_ _ _ e=>e) _ _ J.pend,I.nd.filter _,λp hp=>I.fresh p (xh.mp hp).1,I.st.mono sub (λ_ _ _ e=>e) (λ_ _ _ e=>e) (λa _ z=>Cof.filter hi z) (λ_ _ _ e=>e),I.gz,I.fr,I.z0⟩
 by_cases hj:j=i
 ·subst hj;rw[xt hi] at e;cases e
  exact⟨v,xt (by rw[<- I.len];exact hi),SlotR.of (Rep.mono sub (λ_ _ _ e=>e) _ _ hr)⟩
 ·rw [xI (Ne.symm hj)] at e;obtain⟨u,e1,e2⟩:=I.slot j c e
  exact⟨u,by rw[xI (Ne.symm hj)];exact e1,SlotR.mono sub (λ_ _ _ e=>e) (λa xs m q=>⟨xh.mpr ⟨m,by simpa using hj⟩,q⟩) _ _ e2⟩
end
abbrev TD:=Rho->Nat->(D->Nat->Prop)->Prop
abbrev TBD:=Rho->Nat->(Bool->Nat->Prop)->Prop
abbrev TAD:=Rho->Nat->(List D->Nat->Prop)->Prop
def tOf(A:AC)(t:TD):TE:=λsg H Q=>∃rho n P ds vs,Am A n rho sg H ds vs/\t rho n P/\∀v H' n' d,Am A n' rho sg H' (d::ds) (v::vs)->P d n'->Q v H'
def Ua(A:AC)(t:TBD):TT:=λsg H Q=>∃rho n P ds vs,Am A n rho sg H ds vs/\t rho n P/\∀b H' n',Am A n' rho sg H' ds vs->P b n'->Q b H'
def zY5(A:AC)(t:TAD):TA:=λsg H Q=>∃rho n P ds vs,Am A n rho sg H ds vs/\t rho n P/\∀ws H' n' es,Am A n' rho sg H' (es++ds) (ws++vs)->ws.length=es.length->P es n'->Q ws H'
@[irreducible] def PD(A:AC)(X:Cx)(e:Expr)(t:TD):Prop:=PE X e (tOf A t)
@[irreducible] def PTD(A:AC)(X:Cx)(e:Expr)(t:TBD):Prop:=PT X e (Ua A t)
@[irreducible] def PWD(A:AC)(X:Cx)(e:Expr)(t:TBD):Prop:=PW X e (Ua A t)
@[irreducible] def PAD(A:AC)(X:Cx)(es:List Expr)(t:TAD):Prop:=PA X es (zY5 A t)
def PE.imp{X:Cx}{e:Expr}{t t':TE}(h:PE X e t)(hi:∀sg H Q,t' sg H Q->t sg H Q):PE X e t':=λpins s sg H Q I q=>h pins s sg H Q I (hi _ _ _ q)
def PT.imp{X:Cx}{e:Expr}{t t':TT}(h:PT X e t)(hi:∀sg H Q,t' sg H Q->t sg H Q):PT X e t':=λpins s sg H Q I q=>h pins s sg H Q I (hi _ _ _ q)
def PW.imp{X:Cx}{e:Expr}{t t':TT}(h:PW X e t)(hi:∀sg H Q,t' sg H Q->t sg H Q):PW X e t':=λwh pins s sg H Q I q=>h wh pins s sg H Q I (hi _ _ _ q)
def PA.imp{X:Cx}{e:List Expr}{t t':TA}(h:PA X e t)(hi:∀sg H Q,t' sg H Q->t sg H Q):PA X e t':=λps pins s sg H Q I q=>h ps pins s sg H Q I (hi _ _ _ q)
def PS.imp{X:Cx}{e:Stmt}{t t':TS}(h:PS X e t)(hi:∀E sg H,t' E sg H->t E sg H):PS X e t':=λpins s sg H Q I q=>h pins s sg H Q I (hi _ _ _ q)
def PSs.imp{X:Cx}{e:List Stmt}{t t':TS}(h:PSs X e t)(hi:∀E sg H,t' E sg H->t E sg H):PSs X e t':=λpins s sg H Q I q=>h pins s sg H Q I (hi _ _ _ q)
section
variable {A:AC}{X:Cx}{a b c e:Expr}{es:List Expr}{ta tb tc:TD}{pos:Pos}
def atD(d:D)(k:D->Prop):Prop:=match d with
 |.own _=>False
 |.non=>k .non
 |.bl b=>k (.bl b)
 |.int b=>k (.int b)
 |.str b=>k (.str b)
 |.ty b=>k (.ty b)
 |.tup b=>k (.tup b)
 |.lst b=>k (.lst b)
 |.fz b=>k (.fz b)
 |.st=>k .st
 |.dic=>k .dic
 |.exc a=>k (.exc a)
 |.dct a b=>k (.dct a b)
 |.rf a=>k (.rf a)
def zj8{d:D}{k:D->Prop}(h:atD d k):yr d=true/\k d:=by
 cases d<;>first |exact⟨rfl,h⟩ |exact h.elim
def zy1{d:D}{k:D->Prop}(h:yr d=true)(q:k d):atD d k:=by
 cases d<;>first |exact q |(simp[yr] at h;done)
def atV(o:Option (Option D))(k:D->Prop):Prop:=match o with |some (some d)=>atD d k |_=>False
def zJ3{o:Option (Option D)}{k:D->Prop}(h:atV o k):∃d,o=some (some d)/\yr d=true/\k d:=by
 match o,h with
 |some (some d),h=>exact⟨d,rfl,zj8 h⟩
def zK5(i:Nat):TD:=λrho n P=>atV rho[i]? λd=>P d n
def dC(d:D):TD:=λ_ n P=>P d n
def zn(i:Nat){x:Str}(hN:X.N[i]?=some x:=by rfl)(hv:Vis X.env.scope x:=by first |exact Or.inl rfl |exact Or.inr (Or.inl rfl) |exact Or.inr (Or.inr rfl))(hd:(x == ("__debug__" : Str))=false:=by decide)
  (hcd:(x == ("__classdict__" : Str))=false:=by decide):PD A X (.Name x pos) (zK5 i):=by
 exists (Vd hN hv hd hcd).imp λsg H Q h=>by
   obtain⟨rho,n,P,ds,vs,⟨os,I⟩,hh,hQ⟩:=h;obtain⟨d,e,hd,q⟩:=zJ3 hh;obtain⟨v,e1,e2⟩:=I.slot i d e;exact⟨v,e1,hQ v H n d ⟨os,I.push (e2.rep hd)⟩ q⟩
def zt1{d:D}(hs:kI d=true){t:TE}(ht:∀sg H Q,Q (ofS d) H->t sg H Q)(h:PE X e t):PD A X e (dC d):=by
 exists h.imp λsg H Q q=>by
   obtain⟨rho,n,P,ds,vs,⟨os,I⟩,q,hQ⟩:=q;exact ht _ _ _ (hQ _ H n d ⟨os,I.push (Rep.ofS hs)⟩ q)
def xC{i:Int}{j:Nat}:PD A X (.Constant (.int i) j pos) (dC (.int i)):=by exists zt1 rfl (λ_ _ _ q=>q) zP5
def zp0{i:Bool}{j:Nat}:PD A X (.Constant (.bool i) j pos) (dC (.bl i)):=by exists zt1 rfl (λ_ _ _ q=>q) zD3
def Vi{j:Nat}:PD A X (.Constant .none j pos) (dC .non):=by exists zt1 rfl (λ_ _ _ q=>q) zP2
def qx{x:Str}{j:Nat}:PD A X (.Constant (.str x) j pos) (dC (.str x)):=by exists zt1 rfl (λ_ _ _ q=>q) zv3
abbrev RD2:=D->D->(D->Prop)->Prop
def qb(A:AC)(r:R2)(rd:RD2):Prop:=
 ∀os n rho sg H ds vs d1 d2 v1 v2 (k:D->Prop) (Q:VK),AmO A os n rho sg H (d2::d1::ds) (v2::v1::vs)->rd d1 d2 k->(∀v H' d,Am A n rho sg H' (d::ds) (v::vs)->k d->Q v H')->r v1 v2 H Q
def dOp(rd:RD2)(ta tb:TD):TD:=λrho n P=>ta rho n λd1 n1=>tb rho n1 λd2 n2=>rd d1 d2 λd=>P d n2
def Qb(t:TD):TBD:=λrho n P=>t rho n λd n'=>∃b,d=.bl b/\P b n'
def WE{r:R2}{rd:RD2}(hr:qb A r rd){sg:St}{H:Hp}{Q:VK}(h:tOf A (dOp rd ta tb) sg H Q):tOp r (tOf A ta) (tOf A tb) sg H Q:=by
 obtain⟨rho,n,P,ds,vs,I,ht,hQ⟩:=h;exact⟨rho,n,_,ds,vs,I,ht,λv1 H1 n1 d1 I1 h1=>⟨rho,n1,_,d1::ds,v1::vs,I1,h1,λv2 H2 n2 d2 ⟨os2,I2⟩ h2=>hr _ _ _ _ _ _ _ _ _ _ _ _ Q I2 h2 λv H' d J k=>hQ v H' n2 d J k⟩⟩
def ZK{t:TE}{td:TD}(h:∀sg H Q,tOf A td sg H Q->t sg H Q){sg:St}{H:Hp}{Q:Bool->Hp->Prop}(q:Ua A (Qb td) sg H Q):zL4 t sg H Q:=by
 obtain⟨rho,n,P,ds,vs,I,ht,hQ⟩:=q;refine h _ _ _ ⟨rho,n,_,ds,vs,I,ht,λv H' n' d ⟨os,J⟩ k=>?_⟩;obtain⟨b,rfl,k⟩:=k;obtain⟨J1,r⟩:=J.pop;exact⟨b,r.bl_inv,hQ b H' n' ⟨os,J1⟩ k⟩
def Yr{op:Operator}{r:R2}{rd:RD2}(ho:OpR X (binaryOp op) r)(hr:qb A r rd)(ha:PD A X a ta)(hb:PD A X b tb):PD A X (.BinOp a op b pos) (dOp rd ta tb):=by exists (xg5 ho ha hb).imp λ_ _ _=>WE hr
def Yv{op:CmpOp}{r:R2}{rd:RD2}(ho:OpR X (compareOp op) r)(hr:qb A r rd)(ha:PD A X a ta)(hb:PD A X b tb)(hm:behindInMarks op b=false):PD A X (.Compare a [op] [b] pos) (dOp rd ta tb):=by exists (zb1 ho ha hb hm).imp λ_ _ _=>WE hr
def qk{op:CmpOp}{r:R2}{rd:RD2}(ho:OpR X (compareOp op) r)(hr:qb A r rd)(ha:PD A X a ta)(hb:PD A X b tb)(hm:behindInMarks op b=false):PTD A X (.Compare a [op] [b] pos) (Qb (dOp rd ta tb)):=by
 exists 
   (Us ho ha hb hm).imp λ_ _ _=>ZK λ_ _ _=>WE hr
def Zk{r:R2}{rd:RD2}(hi:IxR X r)(hr:qb A r rd)(ha:PD A X a ta)(hb:PD A X b tb)(hs:Kd b):PD A X (.Subscript a b pos) (dOp rd ta tb):=by exists (zP4 hi ha hb hs).imp λ_ _ _=>WE hr
def Uq(ha:PD A X a ta)(he:∀whole,isTrue a X.env whole=(do let v <- whole;standAt a.pos;holding [v] (truthy v)):=by intro _;rfl):PTD A X a (Qb ta):=by exists (zO1 ha he).imp λ_ _ _=>ZK λ_ _ _ q=>q
def rdI(C:Int->Int->Prop)(g:Int->Int->D):RD2:=λd1 d2 k=>match d1,d2 with |.int i,.int j=>C i j/\k (g i j) |_,_=>False
def zA3{C:Int->Int->Prop}{g:Int->Int->D}{d1 d2:D}{k:D->Prop}(h:rdI C g d1 d2 k):∃i j,d1=.int i/\d2=.int j/\C i j/\k (g i j):=by
 unfold rdI at h
 split at h
 ·exact⟨_,_,rfl,rfl,h⟩
 ·exact h.elim
def zm5(g:Int->Int->D):RD2:=λd1 d2 k=>match d1,d2 with |.int i,.int j=>k (g i j) |_,_=>False
def zm4{g:Int->Int->D}{d1 d2:D}{k:D->Prop}(h:zm5 g d1 d2 k):∃i j,d1=.int i/\d2=.int j/\k (g i j):=by
 unfold zm5 at h
 split at h
 ·exact⟨_,_,rfl,rfl,h⟩
 ·exact h.elim
def zm3{C:Int->Int->Prop}{g:Int->Int->V}{gd:Int->Int->D}(hs:∀i j,kI (gd i j)=true)(hg:∀i j,ofS (gd i j)=g i j):qb A (rI C g) (rdI C gd):=by
 rintro os n rho sg H ds vs d1 d2 v1 v2 k Q I hh hQ;obtain⟨i,j,rfl,rfl,hc,q⟩:=zA3 hh;obtain⟨I1,r2⟩:=I.pop;obtain⟨I2,r1⟩:=I1.pop
 exact⟨i,j,r1.int_inv,r2.int_inv,hc,hQ _ H _ ⟨os,I2.push (by rw[<- hg];exact Rep.ofS (hs i j))⟩ q⟩
def WU{g:Int->Int->V}{gd:Int->Int->D}(hs:∀i j,kI (gd i j)=true)(hg:∀i j,ofS (gd i j)=g i j):qb A (rI0 g) (zm5 gd):=by
 rintro os n rho sg H ds vs d1 d2 v1 v2 k Q I hh hQ;obtain⟨i,j,rfl,rfl,q⟩:=zm4 hh;obtain⟨I1,r2⟩:=I.pop;obtain⟨I2,r1⟩:=I1.pop
 exact⟨i,j,r1.int_inv,r2.int_inv,hQ _ H _ ⟨os,I2.push (by rw[<- hg];exact Rep.ofS (hs i j))⟩ q⟩
abbrev xu0:TD->TD->TD:=dOp (zm5 λi j=>.int (i+j))
abbrev xt5:TD->TD->TD:=dOp (zm5 λi j=>.int (i-j))
abbrev xt7:TD->TD->TD:=dOp (rdI CMul λi j=>.int (i*j))
abbrev xt8:TD->TD->TD:=dOp (rdI (λ_ j=>0<j) λi j=>.int (i%j))
abbrev xt9:TD->TD->TD:=dOp (rdI xn9 λi j=>.int (i/j))
abbrev xt6:TD->TD->TD:=dOp (rdI xn8 λi j=>.int (i^j.toNat))
def Yw(ha:PD A X a ta)(hb:PD A X b tb):PD A X (.BinOp a .Add b pos) (xu0 ta tb):=by exists Yr zQ8 (WU (λ_ _=>rfl) λ_ _=>rfl) ha hb
def Vf(ha:PD A X a ta)(hb:PD A X b tb):PD A X (.BinOp a .Sub b pos) (xt5 ta tb):=by exists Yr zQ3 (WU (λ_ _=>rfl) λ_ _=>rfl) ha hb
def Ys(ha:PD A X a ta)(hb:PD A X b tb):PD A X (.BinOp a .Mult b pos) (xt7 ta tb):=by exists Yr zQ5 (zm3 (λ_ _=>rfl) λ_ _=>rfl) ha hb
def jS(ha:PD A X a ta)(hb:PD A X b tb):PD A X (.BinOp a .Mod b pos) (xt8 ta tb):=by exists Yr zQ6 (zm3 (λ_ _=>rfl) λ_ _=>rfl) ha hb
def zv5(ha:PD A X a ta)(hb:PD A X b tb):PD A X (.BinOp a .FloorDiv b pos) (xt9 ta tb):=by exists Yr zE0 (zm3 (λ_ _=>rfl) λ_ _=>rfl) ha hb
def Vg(ha:PD A X a ta)(hb:PD A X b tb):PD A X (.BinOp a .Pow b pos) (xt6 ta tb):=by exists Yr zQ4 (zm3 (λ_ _=>rfl) λ_ _=>rfl) ha hb
abbrev xp3:RD2:=zm5 λi j=>.bl (decide (i<j))
abbrev xp4:RD2:=zm5 λi j=>.bl (decide (j<i))
abbrev xp5:RD2:=zm5 λi j=>.bl (decide (j<=i))
def xa2:qb A (rI0 λi j=>.bl (decide (i<j))) xp3:=WU (g:=λi j=>.bl (decide (i<j))) (λ_ _=>rfl) λ_ _=>rfl
def zz9:qb A (rI0 λi j=>.bl (decide (j<i))) xp4:=WU (g:=λi j=>.bl (decide (j<i))) (λ_ _=>rfl) λ_ _=>rfl
def xa3:qb A (rI0 λi j=>.bl (decide (j<=i))) xp5:=WU (g:=λi j=>.bl (decide (j<=i))) (λ_ _=>rfl) λ_ _=>rfl
def zA4:RD2:=λd1 d2 k=>kI d1=true/\kI d2=true/\zW0 (ofS d1) (ofS d2)=true/\k (.bl (decide (ofS d1=ofS d2)))
def zM8:RD2:=λd1 d2 k=>kI d1=true/\kI d2=true/\zW0 (ofS d1) (ofS d2)=true/\k (.bl (!decide (ofS d1=ofS d2)))
def zA0:qb A rEq zA4:=by
 rintro os n rho sg H ds vs d1 d2 v1 v2 k Q I ⟨h1,h2,h3,q⟩ hQ;obtain⟨I1,r2⟩:=I.pop;obtain⟨I2,r1⟩:=I1.pop;rw[r1.toS h1,r2.toS h2];exact⟨h3,hQ _ H _ ⟨os,I2.push (Rep.ofS rfl)⟩ q⟩
def xa1:qb A rNe zM8:=by
 rintro os n rho sg H ds vs d1 d2 v1 v2 k Q I ⟨h1,h2,h3,q⟩ hQ;obtain⟨I1,r2⟩:=I.pop;obtain⟨I2,r1⟩:=I1.pop;rw[r1.toS h1,r2.toS h2];exact⟨h3,hQ _ H _ ⟨os,I2.push (Rep.ofS rfl)⟩ q⟩
def Xj:D->Bool
 |.non=>true
 |_=>false
theorem Rep.non_iff{K:W.Frag}{G:Option Addr}{Z:Addr->Prop}{H:Hp}{v:V}:∀{d:D},Rep K G Z H d v->decide (v=.non)=Xj d
 |.non,h=>by unfold Rep at h;rw[h];rfl
 |.bl b,h=>by unfold Rep at h;rw[h];rfl
 |.int b,h=>by unfold Rep at h;rw[h];rfl
 |.str b,h=>by unfold Rep at h;rw[h];rfl
 |.ty b,h=>by unfold Rep at h;rw[h];rfl
 |.st,h=>by unfold Rep at h;obtain⟨a,_,h⟩:=h;rw[h];rfl
 |.tup ds,h=>by obtain⟨a,xs,h,_⟩:=h.tup_inv;rw[h];rfl
 |.lst ds,h=>by obtain⟨a,xs,h,_⟩:=h.lst_inv;rw[h];rfl
 |.own ds,h=>by unfold Rep at h;exact h.elim
 |.fz ds,h=>by obtain⟨a,xs,h,_⟩:=h.fz_inv;rw[h];rfl
 |.dic,h=>by unfold Rep at h;obtain⟨a,kvs,h,_⟩:=h;rw[h];rfl
 |.exc _,h=>by unfold Rep at h;obtain⟨a,h,_⟩:=h;rw[h];rfl
 |.dct _ _,h=>by unfold Rep at h;obtain⟨a,xs,h,_⟩:=h;rw[h];rfl
 |.rf _,h=>by unfold Rep at h;rw[h];rfl
def zM9:RD2:=λd1 d2 k=>d2=.non/\k (.bl (Xj d1))
def zM6:qb A (λx y H Q=>y=.non/\Q (.bl (decide (x=.non))) H) zM9:=by
 rintro os n rho sg H ds vs d1 d2 v1 v2 k Q I ⟨rfl,q⟩ hQ;obtain⟨I1,r2⟩:=I.pop;obtain⟨I2,r1⟩:=I1.pop;have e:v2=.non:=r2.toS rfl
 exact⟨e,by rw[r1.non_iff];exact hQ _ H _ ⟨os,I2.push (Rep.ofS (d:=.bl (Xj d1)) rfl)⟩ q⟩
def zK0:RD2:=λd1 d2 k=>∃es i d,(d1=.lst es\/d1=.tup es\/d1=.fz es)/\d2=.int i/\atI es i=some d/\k d
def Kb{K:W.Frag}{G:Option Addr}{Z:Addr->Prop}{H:Hp}{es:List D}{xs:List V}{i:Int}{d:D}(h:Reps K G Z H es xs)(e:atI es i=some d):∃v,atI xs i=some v/\Rep K G Z H d v:=by
 unfold atI at e ⊢;rw[h.length]
 cases q:ixN es.length i with
 |none=>rw[q] at e;cases e
 |some j=>
  rw[q] at e;exact h.get (i:=j) e
def Zg:qb A (rIx A.K) zK0:=by
 rintro os n rho sg H ds vs d1 d2 v1 v2 k Q I ⟨es,i,d,h1,rfl,h2,q⟩ hQ;obtain⟨I1,r2⟩:=I.pop;obtain⟨I2,r1⟩:=I1.pop
 rcases h1 with rfl |rfl |rfl
 ·obtain⟨a,xs,e,sq,rs⟩:=r1.lst_inv;obtain⟨v,e1,rv⟩:=Kb rs h2;exact .inl ⟨a,xs,i,v,e,r2.int_inv,sq.sq,e1,hQ v H d ⟨os,I2.push rv⟩ q⟩
 ·obtain⟨a,xs,e,sq,rs⟩:=r1.tup_inv;obtain⟨v,e1,rv⟩:=Kb rs h2;exact .inr (.inl ⟨a,xs,i,v,e,r2.int_inv,sq.sq,e1,hQ v H d ⟨os,I2.push rv⟩ q⟩)
 ·obtain⟨a,xs,e,sq,rs⟩:=r1.fz_inv;obtain⟨v,e1,rv⟩:=Kb rs h2;exact .inl ⟨a,xs,i,v,e,r2.int_inv,sq,e1,hQ v H d ⟨os,I2.push rv⟩ q⟩
def zN1:RD2:=λd1 d2 k=>∃es fs,d1=.lst es/\d2=.lst fs/\es.length+fs.length<=sizeLine/\k (.lst (es++fs))
def zu6:qb A xj5 zN1:=by
 rintro os n rho sg H ds vs d1 d2 v1 v2 k Q I ⟨es,fs,rfl,rfl,hz,q⟩ hQ;obtain⟨I1,r2⟩:=I.pop;obtain⟨I2,r1⟩:=I1.pop;obtain⟨a,xs,e,sq,rs⟩:=r1.lst_inv;obtain⟨b,ys,e',sq',rs'⟩:=r2.lst_inv
 exact⟨a,b,xs,ys,e,e',sq.2,sq'.2,by rw[rs.length,rs'.length];exact hz,λp hp=>hQ _ _ _ ⟨os,I2.newLst (rs.append rs') hp⟩ q⟩
variable {t u:TBD}{rest:List Expr}
def bOr(t u:TBD):TBD:=λrho n P=>t rho n λc n1=>if c=true then P true n1 else u rho n1 P
def xn5(t:TBD):TBD:=λrho n P=>t rho n λc n1=>P (!c) n1
def zB1(ha:PTD A X a t):PWD A X (.BoolOp .Or [a] pos) t:=by exists zN9 ha
def zN8(ha:PTD A X a t)(hb:PWD A X (.BoolOp .Or (b::rest) pos) u):PWD A X (.BoolOp .Or (a::b::rest) pos) (bOr t u):=by
 exists (xg2 ha hb).imp λsg H Q h=>by
   obtain⟨rho,n,P,ds,vs,I,ht,hQ⟩:=h;refine⟨rho,n,_,ds,vs,I,ht,λc H' n' J k=>?_⟩
   cases c with
   |false=>exact⟨rho,n',P,ds,vs,J,k,hQ⟩
   |true=>exact hQ _ _ _ J k
def PWD.pt(h:PWD A X e t):PTD A X e t:=by exists PW.pt h
def za1(ha:PTD A X a t):PTD A X (.UnaryOp .Not a pos) (xn5 t):=by
 exists (zO2 ha).imp λsg H Q h=>by
   obtain⟨rho,n,P,ds,vs,I,ht,hQ⟩:=h;exact⟨rho,n,_,ds,vs,I,ht,λc H' n' J k=>hQ _ _ _ J k⟩
def xn4(ta tb:TD):TD:=λrho n P=>ta rho n λd n1=>∃c,d=.bl c/\if c=true then tb rho n1 P else P (.bl false) n1
def zb3{op:BoolOp}(h:PD A X a ta):PD A X (.BoolOp op [a] pos) ta:=by exists zP1 h
def zb6(ha:PD A X a ta)(hb:PD A X (.BoolOp .And (b::rest) pos) tb):PD A X (.BoolOp .And (a::b::rest) pos) (xn4 ta tb):=by
 exists (zP9 ha hb).imp λsg H Q h=>by
   obtain⟨rho,n,P,ds,vs,I,ht,hQ⟩:=h;refine⟨rho,n,_,ds,vs,I,ht,λv H' n' d ⟨os,J⟩ k=>?_⟩;obtain⟨c,rfl,k⟩:=k;obtain⟨J1,r⟩:=J.pop;refine⟨c,r.bl_inv,?_⟩
   cases c with
   |true=>exact⟨rho,n',P,ds,vs,⟨os,J1⟩,k,hQ⟩
   |false=>exact hQ _ _ _ _ ⟨os,J1.push (Rep.ofS (d:=.bl false) rfl)⟩ k
variable {t1:TAD}
def zY0:TAD:=λ_ n P=>P [] n
def zJ5(t:TD)(r:TAD):TAD:=λrho n P=>t rho n λd n1=>r rho n1 λds n2=>P (d::ds) n2
def zL:PAD A X [] zY0:=by
 exists Yx.imp λsg H Q h=>by
   obtain⟨rho,n,P,ds,vs,I,ht,hQ⟩:=h;exact hQ [] H n [] I rfl ht
def zm0{K:W.Frag}{G:Option Addr}{Z:Addr->Prop}{H:Hp}{es ds:List D}{ws vs:List V}{d:D}{v:V}(h:Reps K G Z H (es++d::ds) (ws++v::vs))(hl:ws.length=es.length):Reps K G Z H (d::es++ds) (v::ws++vs):=by
 have h1:=h.take es.length;have h2:=h.drop es.length;rw[take_left' rfl,take_left' hl] at h1;rw[yb rfl,yb hl] at h2;obtain⟨r,t⟩:=h2.inv;exact .cons r (h1.append t)
def qg:Expr->Bool
 |.Starred ..=>true
 |_=>false
def sE{e:Expr}{es:List Expr}{env:Env}(h:qg e=false):starEach (e::es) env=(false,eval e env)::starEach es env:=by
 cases e<;>first |(simp[starEach];done) |(simp[qg] at h;done)
def ze(ha:PD A X a ta)(hr:PAD A X es t1)(hs:qg a=false:=by rfl):PAD A X (a::es) (zJ5 ta t1):=by
 exists (ql ha hr (sE hs)).imp λsg H Q h=>by
   obtain⟨rho,n,P,ds,vs,I,ht,hQ⟩:=h;refine⟨rho,n,_,ds,vs,I,ht,λv H' n' d J k=>⟨rho,n',_,d::ds,v::vs,J,k,λws H2 n2 es' ⟨os,J2⟩ hl k2=>?_⟩⟩
   exact hQ (v::ws) H2 n2 (d::es') ⟨os,J2.pends (zm0 J2.pend hl)⟩ (by rw[zt,zt,hl]) k2
def ZL{K:W.Frag}{G:Option Addr}{Z:Addr->Prop}{H:Hp}{es ds:List D}{ws vs:List V}(h:Reps K G Z H (es++ds) (ws++vs))(hl:ws.length=es.length):Reps K G Z H es ws/\Reps K G Z H ds vs:=by
 have h1:=h.take es.length;have h2:=h.drop es.length;rw[take_left' rfl,take_left' hl] at h1;rw[yb rfl,yb hl] at h2;exact⟨h1,h2⟩
def xn1(t:TAD):TD:=λrho n P=>t rho n λds n1=>ds.length<=sizeLine/\P (.tup ds) n1
def xn3(t:TAD):TD:=λrho n P=>t rho n λds n1=>ds.length<=sizeLine/\P (.lst ds) n1
def qX{x1}(h:PAD A X es t1):PD A X (.Tuple es x1 pos) (xn1 t1):=by
 exists (zP0 h).imp λsg H Q h=>by
   obtain⟨rho,n,P,ds,vs,I,ht,hQ⟩:=h
   refine⟨rho,n,_,ds,vs,I,ht,λws H' n' es' ⟨os,J⟩ hl k=>⟨by rw[hl];exact k.1,λp hp=>?_⟩⟩
   obtain⟨q1,q2⟩:=ZL J.pend hl;exact hQ _ _ n' _ ⟨os,(J.pends q2).newTup q1 hp⟩ k.2
def ZE(h:PAD A X es t1):PD A X (.List es pos) (xn3 t1):=by
 exists (zP3 h).imp λsg H Q h=>by
   obtain⟨rho,n,P,ds,vs,I,ht,hQ⟩:=h
   refine⟨rho,n,_,ds,vs,I,ht,λws H' n' es' ⟨os,J⟩ hl k=>⟨by rw[hl];exact k.1,λp hp=>?_⟩⟩
   obtain⟨q1,q2⟩:=ZL J.pend hl;exact hQ _ _ n' _ ⟨os,(J.pends q2).newLst q1 hp⟩ k.2
def vf(A:AC)(r:List V->Hp->VK->Prop)(rd:List D->(D->Prop)->Prop):Prop:=
 ∀os n rho sg H ds vs es ws (k:D->Prop) (Q:VK),AmO A os n rho sg H ds vs->Reps A.K A.G (Zof A os) H es ws->rd es k->(∀v H' d,Am A n rho sg H' (d::ds) (v::vs)->k d->Q v H')->r ws H Q
def zh4(rd:List D->(D->Prop)->Prop)(t:TAD):TD:=λrho n P=>t rho n λes n1=>rd es λd=>P d n1
def QM{r:List V->Hp->VK->Prop}{rd:List D->(D->Prop)->Prop}(hr:vf A r rd){sg:St}{H:Hp}{Q:VK}(h:tOf A (zh4 rd t1) sg H Q):tCB r (zY5 A t1) sg H Q:=by
 obtain⟨rho,n,P,ds,vs,I,ht,hQ⟩:=h;refine⟨rho,n,_,ds,vs,I,ht,λws H' n' es' ⟨os,J⟩ hl k=>?_⟩;obtain⟨q1,q2⟩:=ZL J.pend hl;exact hr _ _ _ _ _ _ _ _ _ _ Q (J.pends q2) q1 k λv H2 d J2 k2=>hQ v H2 n' d J2 k2
def wU{x:Str}{p:Pos}{id:String}{r:List V->Hp->VK->Prop}{rd:List D->(D->Prop)->Prop}(hc:qd X (.builtin id) r)(hr:vf A r rd)(hm:X.mg x=none)(hv:bootBuiltins x=some (.builtin id))(ha:PAD A X (e::es) t1)(hg:Gl X x:=by rfl)(hn:x ≠ "__name__" := by decide)(hdb:(x == ("__debug__" : Str))=false:=by decide)
  (he:starEach (e::es) X.env=(false,eval e X.env)::starEach es X.env:=by rfl) (hpl:(backTo pos (starEach es X.env)).any (·.1)=false:=by rfl):PD A X (.Call (.Name x p) (e::es) [] pos) (zh4 rd t1):=by
 exists 
   (jR hc hg hm hv ha hn hdb he hpl).imp λ_ _ _=>QM hr
def yS{x:Str}{p:Pos}{T:String}{r:List V->Hp->VK->Prop}{rd:List D->(D->Prop)->Prop}(hc:qd X (.type T) r)(hr:vf A r rd)(hm:X.mg x=none)(hv:bootBuiltins x=some (.type T))(ha:PAD A X (e::es) t1)(hg:Gl X x:=by rfl)(hn:x ≠ "__name__" := by decide)(hdb:(x == ("__debug__" : Str))=false:=by decide)
  (he:starEach (e::es) X.env=(false,eval e X.env)::starEach es X.env:=by rfl) (hpl:(backTo pos (starEach es X.env)).any (·.1)=false:=by rfl):PD A X (.Call (.Name x p) (e::es) [] pos) (zh4 rd t1):=by
 exists 
   (Ve hc hg hm hv ha hn hdb he hpl).imp λ_ _ _=>QM hr
def kK{K:W.Frag}{G:Option Addr}{Z:Addr->Prop}{H:Hp}{d:D}{ws:List V}(h:Reps K G Z H [d] ws):∃v,ws=[v]/\Rep K G Z H d v:=by
 obtain⟨v,r,rfl,q,t⟩:=h.split;rw[t.nil_inv];exact⟨v,rfl,q⟩
def zm2{K:W.Frag}{G:Option Addr}{Z:Addr->Prop}{H:Hp}{d d':D}{ws:List V}(h:Reps K G Z H [d,d'] ws):∃v v',ws=[v,v']/\Rep K G Z H d v/\Rep K G Z H d' v':=by
 obtain⟨v,r,rfl,q,t⟩:=h.split;obtain⟨v',rfl,q'⟩:=kK t;exact⟨v,v',rfl,q,q'⟩
def zG4:List D->(D->Prop)->Prop:=λes k=>∃fs,(es=[.lst fs]\/es=[.tup fs]\/es=[.fz fs])/\k (.int fs.length)
def xn0:List D->(D->Prop)->Prop:=λes k=>∃i,es=[.int i]/\k (.int (if i<0 then -i else i))
def zT2:List D->(D->Prop)->Prop:=λes k=>∃c,es=[.bl c]/\k (.int (if c then 1 else 0))
def KO:List D->(D->Prop)->Prop:=λes k=>∃fs,(es=[.lst fs]\/es=[.tup fs])/\k (.tup fs)
def qy:vf A (λxs H Q=>∃p ys,xs=[.ref p]/\(SqL A.K H p ys\/SqT A.K H p ys)/\Q (.int ys.length) H) zG4:=by
 rintro os n rho sg H ds vs es ws k Q I rs ⟨fs,h,q⟩ hQ
 rcases h with rfl |rfl |rfl
 ·obtain ⟨v, rfl, r⟩ := kK rs;obtain⟨a,xs,rfl,sq,rr⟩:=r.lst_inv
  exact⟨a,xs,rfl,.inl sq.sq,by rw[rr.length];exact hQ _ H _ ⟨os,I.push (Rep.ofS rfl)⟩ q⟩
 ·obtain ⟨v, rfl, r⟩ := kK rs;obtain⟨a,xs,rfl,sq,rr⟩:=r.tup_inv
  exact⟨a,xs,rfl,.inr sq.sq,by rw[rr.length];exact hQ _ H _ ⟨os,I.push (Rep.ofS rfl)⟩ q⟩
 ·obtain ⟨v, rfl, r⟩ := kK rs;obtain⟨a,xs,rfl,sq,rr⟩:=r.fz_inv
  exact⟨a,xs,rfl,.inl sq,by rw[rr.length];exact hQ _ H _ ⟨os,I.push (Rep.ofS rfl)⟩ q⟩
def zx5:vf A (λxs H Q=>∃i,xs=[.int i]/\Q (.int (if i<0 then -i else i)) H) xn0:=by
 rintro os n rho sg H ds vs es ws k Q I rs ⟨i,rfl,q⟩ hQ;obtain⟨v,rfl,r⟩:=kK rs
 exact⟨i,by rw[r.int_inv],hQ _ H _ ⟨os,I.push (Rep.ofS rfl)⟩ q⟩
def zI6:vf A (λxs H Q=>(∃i,xs=[.int i]/\Q (.int i) H)\/∃k,xs=[.bl k]/\Q (.int (if k then 1 else 0)) H) zT2:=by
 rintro os n rho sg H ds vs es ws k Q I rs ⟨i,rfl,q⟩ hQ;obtain⟨v,rfl,r⟩:=kK rs
 exact .inr ⟨i,by rw[r.bl_inv],hQ _ H _ ⟨os,I.push (Rep.ofS rfl)⟩ q⟩
def vw:vf A (λxs H Q=>∃p ys,xs=[.ref p]/\((SqL A.K H p ys/\∀l,H l=none->Q (.ref l) (upd H l (.tup ys)))\/(SqT A.K H p ys/\Q (.ref p) H))) KO:=by
 rintro os n rho sg H ds vs es ws k Q I rs ⟨fs,h,q⟩ hQ
 rcases h with rfl |rfl
 ·obtain⟨v,rfl,r⟩:=kK rs;obtain⟨a,xs,rfl,sq,rr⟩:=r.lst_inv;exact⟨a,xs,rfl,.inl ⟨sq.sq,λl hl=>hQ _ _ _ ⟨os,I.newTup rr hl⟩ q⟩⟩
 ·obtain⟨v,rfl,r⟩:=kK rs;have r':=r;obtain⟨a,xs,rfl,sq,rr⟩:=r.tup_inv;exact⟨a,xs,rfl,.inr ⟨sq.sq,hQ _ _ _ ⟨os,I.push r'⟩ q⟩⟩
end
section
variable {A:AC}{os:List (Nat × Addr)}{n:Nat}{rho:Rho}{sg:St}{H:Hp}{ds es:List D}{vs ws:List V}{d:D}{v:V}
def AmO.split(I:AmO A os n rho sg H (es++ds) (ws++vs))(hl:ws.length=es.length):AmO A os n rho sg H ds vs/\Reps A.K A.G (Zof A os) H es ws:=
 let ⟨q1,q2⟩:=ZL I.pend hl
 ⟨I.pends q2,q1⟩
def AmO.join(I:AmO A os n rho sg H ds vs)(h:Reps A.K A.G (Zof A os) H es ws):AmO A os n rho sg H (es++ds) (ws++vs):=I.pends (h.append I.pend)
def AmO.under(I:AmO A os n rho sg H (d::(es++ds)) (v::(ws++vs)))(hl:ws.length=es.length):AmO A os n rho sg H (d::ds) (v::vs):=by
 obtain⟨J,r⟩:=I.pop;exact(J.split hl).1.push r
def AmO.front(m:Nat)(I:AmO A os n rho sg H ds vs):AmO A (os.map λp=>(p.1+m,p.2)) n (replicate m none++rho) (replicate m none++sg) H ds vs:=by
 have zz:∀a,Zof A (os.map λp=>(p.1+m,p.2)) a->Zof A os a:=λa z=>by
  rcases z with z |⟨p,hp,e⟩
  ·exact .inl z
  ·obtain⟨q,hq,rfl⟩:=zD.mp hp;exact .inr ⟨q,hq,e⟩
 refine⟨by simp[I.len],λi c e=>?_,Reps.mono (λa _ z=>zz a z) (λ_ _ _ e=>e) _ _ I.pend,?_,λp hp=>?_,I.st.mono (λa _ z=>zz a z) (λ_ _ _ e=>e) (λ_ _ _ e=>e) (λa _ z=>?_) (λ_ _ _ e=>e),I.gz,I.fr,I.z0⟩
 ·have hi : m <= i := by
   apply Nat.le_of_not_lt;intro hlt
   rw[xE (by simpa using hlt),we,if_pos hlt] at e
   cases e
  rw[xm (by simpa using hi),wc] at e
  obtain⟨u,e1,e2⟩:=I.slot _ c e
  refine⟨u,by rw[xm (by simpa using hi),wc];exact e1,?_⟩
  have key:∀j,j+m=i->SlotR A os H j c u->SlotR A (os.map λp=>(p.1+m,p.2)) H i c u:=λj hj h=>by
   subst hj
   cases c with
   |own fs=>
    obtain⟨a,xs,q1,q2,q3,q4⟩:=h;exact⟨a,xs,q1,zD.mpr ⟨_,q2,rfl⟩,q3,Reps.mono (λa _ z=>zz a z) (λ_ _ _ e=>e) _ _ q4⟩
   |non=>exact Rep.mono (λa _ z=>zz a z) (λ_ _ _ e=>e) _ _ h
   |bl _=>exact Rep.mono (λa _ z=>zz a z) (λ_ _ _ e=>e) _ _ h
   |int _=>exact Rep.mono (λa _ z=>zz a z) (λ_ _ _ e=>e) _ _ h
   |str _=>exact Rep.mono (λa _ z=>zz a z) (λ_ _ _ e=>e) _ _ h
   |ty _=>exact Rep.mono (λa _ z=>zz a z) (λ_ _ _ e=>e) _ _ h
   |tup _=>exact Rep.mono (λa _ z=>zz a z) (λ_ _ _ e=>e) _ _ h
   |lst _=>exact Rep.mono (λa _ z=>zz a z) (λ_ _ _ e=>e) _ _ h
   |st=>exact Rep.mono (λa _ z=>zz a z) (λ_ _ _ e=>e) _ _ h
   |fz _=>exact Rep.mono (λa _ z=>zz a z) (λ_ _ _ e=>e) _ _ h
   |dic=>exact Rep.mono (λa _ z=>zz a z) (λ_ _ _ e=>e) _ _ h
   |exc _=>exact Rep.mono (λa _ z=>zz a z) (λ_ _ _ e=>e) _ _ h
   |dct _ _=>exact Rep.mono (λa _ z=>zz a z) (λ_ _ _ e=>e) _ _ h
   |rf _=>exact Rep.mono (λa _ z=>zz a z) (λ_ _ _ e=>e) _ _ h
  exact key (i-m) q5 e2
 ·rw [xQ]
  exact I.nd.imp λ{p q} h=>⟨λz=>h.1 (by simpa using z),h.2⟩
 ·obtain⟨q,hq,rfl⟩:=zD.mp hp;exact I.fresh q hq
 ·rcases z with z | ⟨p, hp, e, hl⟩
  ·exact .inl z
  ·exact .inr ⟨_,zG hp,e,by simp;lia⟩
def AmO.backX{m:Nat}{rho':Rho}{sg':St}(I:AmO A os n rho' sg' H ds vs)(h1:rho'.drop m=rho)(h2:sg'.drop m=sg)(hm:m<=rho'.length):∃os',AmO A os' n rho sg H ds vs:=by
 refine⟨(os.filter λp=>decide (m<=p.1)).map λp=>(p.1-m,p.2),?_⟩
 have zz:∀a,Zof A ((os.filter λp=>decide (m<=p.1)).map λp=>(p.1-m,p.2)) a->Zof A os a:=λa z=>by
  rcases z with z |⟨p,hp,e⟩
  ·exact .inl z
  ·obtain⟨q,hq,rfl⟩:=zD.mp hp;exact .inr ⟨q,(xh.mp hq).1,e⟩
 subst h1 h2
 refine⟨by simp[I.len],λi c e=>?_,Reps.mono (λa _ z=>zz a z) (λ_ _ _ e=>e) _ _ I.pend,?_,λp hp=>?_,I.st.mono (λa _ z=>zz a z) (λ_ _ _ e=>e) (λ_ _ _ e=>e) (λa _ z=>?_) (λ_ _ _ e=>e),I.gz,I.fr,I.z0⟩
 ·rw [xV] at e;obtain⟨u,e1,e2⟩:=I.slot _ c e
  refine⟨u,by rw[xV];exact e1,?_⟩
  cases c with
  |own fs=>
   obtain⟨a,xs,q1,q2,q3,q4⟩:=e2
   exact⟨a,xs,q1,zD.mpr ⟨_,xh.mpr ⟨q2,by simp⟩,by simp⟩,q3,Reps.mono (λa _ z=>zz a z) (λ_ _ _ e=>e) _ _ q4⟩
  |non=>exact Rep.mono (λa _ z=>zz a z) (λ_ _ _ e=>e) _ _ e2
  |bl _=>exact Rep.mono (λa _ z=>zz a z) (λ_ _ _ e=>e) _ _ e2
  |int _=>exact Rep.mono (λa _ z=>zz a z) (λ_ _ _ e=>e) _ _ e2
  |str _=>exact Rep.mono (λa _ z=>zz a z) (λ_ _ _ e=>e) _ _ e2
  |ty _=>exact Rep.mono (λa _ z=>zz a z) (λ_ _ _ e=>e) _ _ e2
  |tup _=>exact Rep.mono (λa _ z=>zz a z) (λ_ _ _ e=>e) _ _ e2
  |lst _=>exact Rep.mono (λa _ z=>zz a z) (λ_ _ _ e=>e) _ _ e2
  |st=>exact Rep.mono (λa _ z=>zz a z) (λ_ _ _ e=>e) _ _ e2
  |fz _=>exact Rep.mono (λa _ z=>zz a z) (λ_ _ _ e=>e) _ _ e2
  |dic=>exact Rep.mono (λa _ z=>zz a z) (λ_ _ _ e=>e) _ _ e2
  |exc _=>exact Rep.mono (λa _ z=>zz a z) (λ_ _ _ e=>e) _ _ e2
  |dct _ _=>exact Rep.mono (λa _ z=>zz a z) (λ_ _ _ e=>e) _ _ e2
  |rf _=>exact Rep.mono (λa _ z=>zz a z) (λ_ _ _ e=>e) _ _ e2
 ·rw [xQ, List.pairwise_filter];refine I.nd.imp λ{p q} h hp hq=>⟨λz=>h.1 ?_,h.2⟩
  have a1:m<=p.1:=by simpa using hp
  have a2:m<=q.1:=by simpa using hq
  have z':p.1-m=q.1-m:=z;lia
 ·obtain⟨q,hq,rfl⟩:=zD.mp hp;exact I.fresh q (xh.mp hq).1
 ·rcases z with z | ⟨p, hp, e, hl⟩
  ·exact .inl z
  ·exact .inr ⟨_,zG (xh.mpr ⟨hp,by simpa using zF hm hl⟩),e,by simp;lia⟩
def AmO.back{m:Nat}{rho':Rho}{sg':St}(I:AmO A os n rho' sg' H ds vs)(h1:rho'.drop m=rho)(h2:sg'.drop m=sg):∃os',AmO A os' n rho sg H ds vs:=by
 by_cases hm:m<=rho'.length
 ·exact I.backX h1 h2 hm
 ·have e1 : rho = [] := by rw [<- h1]; exact List.drop_of_length_le q5
  have e2:sg=[]:=by rw[<- h2];exact List.drop_of_length_le (by have:=I.len;lia)
  subst e1 e2
  refine⟨os,rfl,λi c e=>by simp at e,I.pend,I.nd,I.fresh,I.st.mono (λ_ _ z=>z) (λ_ _ _ e=>e) (λ_ _ _ e=>e) (λa _ z=>?_) (λ_ _ _ e=>e),I.gz,I.fr,I.z0⟩
  rcases z with z |⟨p,hp,e,_⟩
  ·exact .inl z
  ·exact .inr ⟨p,hp,e,wT _⟩
end
abbrev TGD:=D->Rho->(Rho->Prop)->Prop
abbrev zy2:=List D->Rho->(Rho->Prop)->Prop
def gOf(A:AC)(m:Nat)(g:TGD):TG:=λv sg H Q=>∃rho n P d ds vs,Am A n rho sg H (d::ds) (v::vs)/\g d rho P/\∀rho' sg',Am A n rho' sg' H ds vs->sg'.drop m=sg.drop m->P rho'->Q sg' H
def xt0(A:AC)(m:Nat)(g:zy2):TGs:=λus sg H Q=>∃rho n P es ds vs,Am A n rho sg H (es++ds) (us++vs)/\us.length=es.length/\g es rho P/\∀rho' sg',Am A n rho' sg' H ds vs->sg'.drop m=sg.drop m->P rho'->Q sg' H
@[irreducible] def PGD(A:AC)(X:Cx)(m:Nat)(tg:Expr)(g:TGD):Prop:=PG X tg (gOf A m g)
@[irreducible] def zY1(A:AC)(X:Cx)(m:Nat)(tg:List Expr)(g:zy2):Prop:=PGs X tg (xt0 A m g)
def PG.imp{X:Cx}{tg:Expr}{g g':TG}(h:PG X tg g)(hi:∀v sg H Q,g' v sg H Q->g v sg H Q):PG X tg g':=λpins s sg H v u Q I r q=>h pins s sg H v u Q I r (hi _ _ _ _ q)
def PGs.imp{X:Cx}{tg:List Expr}{g g':TGs}(h:PGs X tg g)(hi:∀v sg H Q,g' v sg H Q->g v sg H Q):PGs X tg g':=λpins s sg H v u Q I r q=>h pins s sg H v u Q I r (hi _ _ _ _ q)
section
variable {A:AC}{X:Cx}{m:Nat}{pos:Pos}
def zf5(i:Nat):TGD:=λd rho P=>i<rho.length/\P (rho.set i (some d))
def wD{i:Nat}{x:Str}(hN:X.N.Nodup)(hi:X.N[i]?=some x)(hx:Loc X.env.scope x)(hm:i<m)(hf:X.fn x=true\/X.env.scope.names.lookup x=some .local:=by first |exact .inl rfl |exact .inr rfl |assumption):PGD A X m (.Name x pos) (zf5 i):=by
 exists 
   (zC9 hN hi hx hf).imp λv sg H Q h => by
    obtain⟨rho,n,P,d,ds,vs,⟨os,I⟩,⟨hl,k⟩,hQ⟩:=h;refine hQ (rho.set i (some d)) (sg.set i (some v)) ⟨_,I.set hl⟩ ?_ k;rw[List.drop_set_of_lt hm]
def zU2:zy2:=λes rho P=>es=[]/\P rho
def zw5(g:TGD)(gs:zy2):zy2:=λes rho P=>∃d r,es=d::r/\g d rho λrho'=>gs r rho' P
def ZQ:zY1 A X m [] zU2:=by
 exists zC8.imp λus sg H Q h=>by
   obtain⟨rho,n,P,es,ds,vs,I,hl,⟨rfl,k⟩,hQ⟩:=h;have e:us=[]:=wF.mp hl;subst e;exact⟨rfl,hQ rho sg I rfl k⟩
def vg{e:Expr}{es:List Expr}{g:TGD}{gs:zy2}(h1:PGD A X m e g)(h2:zY1 A X m es gs)(hs:(assignEach (e::es) X.env).map (·.2)=assign e X.env::(assignEach es X.env).map (·.2):=by rfl):zY1 A X m (e::es) (zw5 g gs):=by
 exists 
   (zn8 h1 h2 hs).imp λus sg H Q h => by
    obtain⟨rho,n,P,es',ds,vs,I,hl,⟨d,r,rfl,k⟩,hQ⟩:=h
    cases us with
    |nil=>simp at hl
    |cons u us=>
     refine⟨u,us,rfl,⟨rho,n,_,d,r++ds,us++vs,I,k,λrho' sg' I' e1 k'=>⟨rho',n,P,r,ds,vs,I',by simpa using hl,k',λrho2 sg2 I2 e2 k2=>hQ rho2 sg2 I2 (e2.trans e1) k2⟩⟩⟩
def zU1(k:Nat)(gs:zy2):TGD:=λd rho P=>∃es,d=.tup es/\es.length=k/\gs es rho P
def XV{es:List Expr}{k:Nat}{gs:zy2}{kt:Nat}(hK:X.K=A.K)(hc:X.calm=true)(h:zY1 A X m es gs)(hn:(assignEach es X.env).length=k:=by rfl)(hst:(assignEach es X.env).findIdx? (·.1)=none:=by rfl):PGD A X m (.Tuple es kt pos) (zU1 k gs):=by
 exists 
   (zO8 (n := k) hc h hn hst).imp λv sg H Q h => by
    obtain⟨rho,n,P,d,ds,vs,⟨os,I⟩,⟨fs,rfl,hl,q⟩,hQ⟩:=h;obtain⟨J,r⟩:=I.pop;obtain⟨a,xs,rfl,sq,rs⟩:=r.tup_inv;have hx:=rs.length;rw[hK]
    exact⟨a,xs,rfl,sq.sq,by rw[hx];exact hl,rho,n,P,fs,ds,vs,⟨os,J.join rs⟩,hx,q,hQ⟩
end
abbrev TID:=Rho->Nat->(List D->Nat->Prop)->Prop
def JIs(A:AC)(J:It)(es:List D)(ws:List V)(items:List D):Prop:=∀n rho sg H ds vs i,Am A n rho sg H (es++ds) (ws++vs) ->
 (∀d,items[i]?=some d->J.go i H/\∀x H',J.yld i H x H'->Am A n rho sg H' (d::(es++ds)) (x::(ws++vs)))/\(items.length<=i->J.stop i H)
def iOf(A:AC)(it:TID):TI:=λsg H R=>∃rho n P ds vs,Am A n rho sg H ds vs/\it rho n P/\∀J H' n' items es ws,Am A n' rho sg H' (es++ds) (ws++vs)->ws.length=es.length->JIs A J es ws items->P items n'->R J H'
@[irreducible] def PID(A:AC)(X:Cx)(tg iter:Expr)(it:TID):Prop:=PI X tg iter (iOf A it)
def PI.imp{X:Cx}{tg e:Expr}{t t':TI}(h:PI X tg e t)(hi:∀sg H Q,t' sg H Q->t sg H Q):PI X tg e t':=λpins s sg H Q I q=>h pins s sg H Q I (hi _ _ _ q)
section
variable {A:AC}{X:Cx}{tg a b:Expr}{ta tb:TD}{pos p:Pos}{t1:TAD}
def Qn(lo:Int)(k:Nat):List D:=(List.range k).map fun(i:Nat)=>D.int (lo+(i:Int))
def zU0(t:TAD):TID:=λrho n P=>t rho n λes n1=>∃j:Int,es=[.int j]/\-(2^62)<=j/\j<2^62/\P (Qn 0 j.toNat) n1
def zG5{lo:Int}{k:Nat}:JIs A (Itr lo k) [] [] (Qn lo k):=λn2 rho2 sg2 H2 ds2 vs2 i ⟨os2,I2⟩=>by
 refine⟨λd e=>?_,λhi=>?_⟩
 ·unfold Qn at e;rw[zE] at e
  cases q:(List.range k)[i]? with
  |none=>rw[q] at e;cases e
  |some j=>
   rw[q] at e;cases e;have hj:=zN.mp q;obtain⟨hlt,ej⟩:=hj;rw[List.getElem_range] at ej;subst ej
   refine⟨(show i<k by simpa using hlt),λx H3 y=>?_⟩
   obtain⟨e3,e4⟩:=y;subst e3 e4;exact⟨os2,I2.push (Rep.ofS (d:=.int (lo+i)) rfl)⟩
 ·unfold Qn at hi
  exact(show k<=i by simpa using hi)
def XU(hm:X.mg "range" = none)(ha:PAD A X [a] t1)(hg:Gl X "range" := by rfl)(hs:starEach [a] X.env=[(false,eval a X.env)]:=by rfl):PID A X tg (.Call (.Name "range" p) [a] [] pos) (zU0 t1):=by
 exists 
   (za8 hg hm ha hs).imp λsg H R h => by
    obtain⟨rho,n,P,ds,vs,I,ht,hQ⟩:=h;refine⟨rho,n,_,ds,vs,I,ht,λws H' n' es' ⟨os,J⟩ hl k=>?_⟩;obtain⟨j,rfl,h1,h2,k⟩:=k;obtain⟨J1,rs⟩:=J.split hl;obtain⟨v,rfl,r⟩:=kK rs
    exact⟨j,by rw[r.int_inv],h1,h2,hQ _ H' n' _ [] [] ⟨os,J1⟩ rfl zG5 k⟩
end
section
variable {A:AC}{X:Cx}{tg iter elt:Expr}{ifs:List Expr}{scope:Scope}{own M:List Str}{pos:Pos}{it:TID}{g:TGD}{tt:TBD}{te:TD}
def Qc(it:TID)(own:Nat)(g:TGD)(tt:TBD)(te:TD):TD:=λrho n P=>it rho n λitems n1=>items.length<=sizeLine/\∃J:Nat->List D->Nat->Prop,J 0 [] n1 /\
 (∀i d acc n,items[i]?=some d->J i acc n->g d (replicate own none++rho) λrho'=>rho'.drop own=rho/\tt rho' n λc n2=>if c=true then te rho' n2 λe n3=>J (i+1) (acc++[e]) n3 else J (i+1) acc n2) /\
 ∀acc n,J items.length acc n->P (.lst acc) n
def zK7:TBD:=λ_ n P=>P true n
def PTs.imp{X:Cx}{e:List Expr}{t t':TT}(h:PTs X e t)(hi:∀sg H Q,t' sg H Q->t sg H Q):PTs X e t':=by exists λpins s sg H Q I q=>h pins s sg H Q I (hi _ _ _ q)
def yP{X:Cx}:PTs X [] (Ua A zK7):=by
 exists zB3.imp λsg H Q h=>by
   obtain⟨rho,n,P,ds,vs,I,ht,hQ⟩:=h;exact hQ true H n I ht
def QJ{sg:St}{H:Hp}{Q:VK}{m:Nat}{rho:Rho}{n:Nat}{P:D->Nat->Prop}{ds:List D}{vs:List V}(I:Am A n rho sg H ds vs)(ht:Qc it m g tt te rho n P)
  (hQ:∀os n' H' fs xs p,AmO A os n' rho sg H' ds vs->Reps A.K A.G (Zof A os) H' fs xs->H' p=none->P (.lst fs) n'->Q (.ref p) (upd H' p (.lst xs))):zl2 (iOf A it) m (gOf A m g) (Ua A tt) (tOf A te) sg H Q:=by
 refine⟨rho,n,_,ds,vs,I,ht,λJ H' n' items es ws I1 hl hJ k=>?_⟩;obtain⟨hsz,W,w0,turn,fin⟩:=k
 refine⟨λi mm acc H=>mm=items.length-i/\i<=items.length/\acc.length<=i/\∃accD n,acc.length=accD.length/\Am A n rho sg H (es++(accD++ds)) (ws++(acc++vs))/\W i accD n,
  ⟨items.length,rfl,wT _,zj _,[],n',rfl,I1,w0⟩,?_⟩
 rintro i mm acc H3 ⟨rfl,hi,hai,accD,n3,hal,⟨os,I3⟩,w3⟩;obtain⟨j1,j2⟩:=hJ n3 rho sg H3 (accD++ds) (acc++vs) i ⟨os,I3⟩
 by_cases hlt:i<items.length
 ·refine .inr ⟨(j1 items[i] (by simp [hlt])).1, by lia, λx H4 y => ?_⟩
  obtain⟨os4,I4⟩:=(j1 items[i] (by simp[hlt])).2 x H4 y
  refine⟨replicate m none++rho,n3,_,items[i],es++(accD++ds),ws++(acc++vs),⟨_,I4.front m⟩,turn i items[i] accD n3 (by simp[hlt]) w3,λrho' sg' ⟨os5,I5⟩ e5 k5=>?_⟩
  obtain⟨k5,k6⟩:=k5
  have e6:sg'.drop m=sg:=by rw[e5,yb (by simp)]
  refine⟨e6,rho',n3,_,es++(accD++ds),ws++(acc++vs),⟨os5,I5⟩,k6,λc H6 n6 ⟨os6,I6⟩ k7=>?_⟩
  cases c with
  |false=>
   obtain⟨os7,I7⟩:=I6.back k5 e6
   exact⟨items.length-(i+1),q5,rfl,hlt,q5,accD,n6,hal,⟨os7,I7⟩,k7⟩
  |true=>
   rw[if_pos rfl] at k7 ⊢;refine⟨rho',n6,_,es++(accD++ds),ws++(acc++vs),⟨os6,I6⟩,k7,λv H8 n8 d ⟨os8,I8⟩ k8=>?_⟩;obtain⟨os9,I9⟩:=I8.back k5 e6;obtain⟨I10,rv⟩:=I9.pop;obtain⟨I11,r1⟩:=I10.split hl;obtain⟨I12,r2⟩:=I11.split hal
   refine⟨items.length-(i+1),q5,rfl,hlt,by rw[zA,List.length_singleton];lia,accD++[d],n8,by simp[hal],⟨os9,(I12.join (r2.append (.cons rv .nil))).join r1⟩,k8⟩
 ·have e : i = items.length := by lia
  subst e;refine .inl ⟨j2 (zj _),zF hai hsz,λD hD=>?_⟩;obtain⟨I4,r1⟩:=I3.split hl;obtain⟨I5,r2⟩:=I4.split hal;exact hQ os n3 _ accD acc D I5 r2 hD (fin accD n3 w3)
def Kr{sg:St}{H:Hp}{Q:VK}{m:Nat}(h:tOf A (Qc it m g tt te) sg H Q):zl2 (iOf A it) m (gOf A m g) (Ua A tt) (tOf A te) sg H Q:=by
 obtain⟨rho,n,P,ds,vs,I,ht,hQ⟩:=h;exact QJ I ht λos n' H' fs xs p J r hp k=>hQ _ _ n' _ ⟨os,J.newLst r hp⟩ k
def vP(ok:CompOk X scope M)(hc:X.calm=true)(hi:PID A X tg iter it)(hg:∀C s2 H2 fp,PGD A (wO X scope own M C s2 H2 fp) own.length tg g)(ht:∀C s2 H2 fp,PTs (wO X scope own M C s2 H2 fp) ifs (Ua A tt))
  (he:∀C s2 H2 fp,PD A (wO X scope own M C s2 H2 fp) elt te) (hs:∀x,foldedSetIterable iter X.env x=pure x:=by intro _;rfl):PD A X (.ListComp elt [⟨tg,iter,ifs,0⟩] scope pos) (Qc it own.length g tt te):=by
 exists 
   (zD1 ok hc hi hg ht he hs).imp λ_ _ _=>Kr
end
structure EndsD where
 nx:Rho->Nat->Prop
 rt:D->Nat->Prop
 bk:Rho->Nat->Prop:=λ_ _=>False
 ct:Rho->Nat->Prop:=λ_ _=>False
abbrev TSD:=EndsD->Rho->Nat->Prop
structure EOk(A:AC)(E:Ends)(F:EndsD)(ds:List D)(vs:List V):Prop where
 nx:∀rho n sg H,Am A n rho sg H ds vs->F.nx rho n->E.nx sg H
 rt:∀d n v rho sg H,Am A n rho sg H (d::ds) (v::vs)->F.rt d n->E.rt v H
 bk:∀rho n sg H,Am A n rho sg H ds vs->F.bk rho n->E.bk sg H
 ct:∀rho n sg H,Am A n rho sg H ds vs->F.ct rho n->E.ct sg H
def sOf(A:AC)(t:TSD):TS:=λE sg H=>∃rho n F ds vs,Am A n rho sg H ds vs/\t F rho n/\EOk A E F ds vs
@[irreducible] def PSD(A:AC)(X:Cx)(s:Stmt)(t:TSD):Prop:=PS X s (sOf A t)
@[irreducible] def VZ(A:AC)(X:Cx)(s:List Stmt)(t:TSD):Prop:=PSs X s (sOf A t)
section
variable {A:AC}{X:Cx}{st:Stmt}{rest:List Stmt}{t u:TSD}{e a b:Expr}{te:TD}{tc:TBD}{pos:Pos}
def zM0:TSD:=λF rho n=>F.nx rho n
def xi8(t u:TSD):TSD:=λF rho n=>t { F with nx:=u F } rho n
def yY:VZ A X [] zM0:=by
 exists zB5.imp λE sg H h=>by
   obtain⟨rho,n,F,ds,vs,I,ht,ok⟩:=h;exact ok.nx _ _ _ _ I ht
def xa(h1:PSD A X st t)(h2:VZ A X rest u):VZ A X (st::rest) (xi8 t u):=by
 exists (KB h1 h2).imp λE sg H h=>by
   obtain⟨rho,n,F,ds,vs,I,ht,ok⟩:=h;exact⟨rho,n,{ F with nx:=u F },ds,vs,I,ht,⟨λrho' n' sg' H' I' k=>⟨rho',n',F,ds,vs,I',k,ok⟩,ok.rt,ok.bk,ok.ct⟩⟩
def xj(h1:PSD A X st t):VZ A X [st] t:=by exists zB4 h1
def xi9(te:TD):TSD:=λF rho n=>te rho n F.rt
def wu(he:PD A X e te):PSD A X (.Return (some e) pos) (xi9 te):=by
 exists (zO3 he).imp λE sg H h=>by
   obtain⟨rho,n,F,ds,vs,I,ht,ok⟩:=h;exact⟨rho,n,_,ds,vs,I,ht,λv H' n' d I' k=>ok.rt _ _ _ _ _ _ I' k⟩
def sIf(c:TBD)(t u:TSD):TSD:=λF rho n=>c rho n λb n1=>if b=true then t F rho n1 else u F rho n1
def kz{c:Expr}{sa sb:List Stmt}(hc:PTD A X c tc)(ha:VZ A X sa t)(hb:VZ A X sb u):PSD A X (.If c sa sb pos) (sIf tc t u):=by
 exists (xg4 hc ha hb).imp λE sg H h=>by
   obtain⟨rho,n,F,ds,vs,I,ht,ok⟩:=h;refine⟨rho,n,_,ds,vs,I,ht,λc H' n' J k=>?_⟩
   cases c with
   |true=>exact⟨rho,n',F,ds,vs,J,k,ok⟩
   |false=>exact⟨rho,n',F,ds,vs,J,k,ok⟩
def zZ7(i:Nat)(te:TD):TSD:=λF rho n=>i<rho.length/\te rho n λd n1=>F.nx (rho.set i (some d)) n1
def yw{i:Nat}{x:Str}{pos':Pos}(hN:X.N.Nodup)(hi:X.N[i]?=some x)(hx:Loc X.env.scope x)(he:PD A X e te)(hs:swapsWith e (some (.Name x pos')) pos.line X.env=pure false:=by rfl)(hf:X.fn x=true\/X.env.scope.names.lookup x=some .local:=by first |exact .inl rfl |exact .inr rfl |assumption) :
  PSD A X (.Assign [.Name x pos'] e pos) (zZ7 i te):=by
 exists (zv1 hN hi hx he hs hf).imp λE sg H h=>by
   obtain⟨rho,n,F,ds,vs,I,⟨hl,ht⟩,ok⟩:=h;exact⟨rho,n,_,ds,vs,I,ht,λv H' n' d ⟨os,J⟩ k=>ok.nx _ _ _ _ ⟨_,J.set hl⟩ k⟩
def Yo{i:Nat}{x:Str}{pos' spos:Pos}{tg iter elt:Expr}{ifs:List Expr}{scope:Scope}{own M:List Str}{it:TID}{g:TGD}{tt:TBD}(hN:X.N.Nodup)(hix:X.N[i]?=some x)(hx:Loc X.env.scope x)(ok:CompOk X scope M)(hc:X.calm=true)(hi:PID A X tg iter it)
  (hg:∀C s2 H2 fp,PGD A (wO X scope own M C s2 H2 fp) own.length tg g) (ht:∀C s2 H2 fp,PTs (wO X scope own M C s2 H2 fp) ifs (Ua A tt)) (he:∀C s2 H2 fp,PD A (wO X scope own M C s2 H2 fp) elt te)
  (hsw:swapsWith (.ListComp elt [⟨tg,iter,ifs,0⟩] scope pos) (some (.Name x pos')) spos.line X.env=pure true:=by rfl) (hf:X.fn x=true\/X.env.scope.names.lookup x=some .local:=by first |exact .inl rfl |exact .inr rfl |assumption)
  (hs:∀x,foldedSetIterable iter X.env x=pure x:=by intro _;rfl):PSD A X (.Assign [.Name x pos'] (.ListComp elt [⟨tg,iter,ifs,0⟩] scope pos) spos) (zZ7 i (Qc it own.length g tt te)):=by
 exists 
   (Jz hN hix hx ok hc hi hg ht he hsw hf hs).imp λE sg H h => by
    obtain⟨rho,n,F,ds,vs,I,⟨hl,ht⟩,ok⟩:=h;exact Kr (A:=A) ⟨rho,n,_,ds,vs,I,ht,λv H' n' d ⟨os,J⟩ k=>ok.nx _ _ _ _ ⟨_,J.set hl⟩ k⟩
def xi7(te:TD)(g:TGD):TSD:=λF rho n=>te rho n λd n1=>g d rho λrho'=>F.nx rho' n1
def zB6{tg:Expr}{g:TGD}{m:Nat}(he:PD A X e te)(hg:PGD A X m tg g)(hs:swapsWithSole [tg] e pos.line X.env=pure false:=by rfl)(hw:swappedStores [tg] e X.env=pure none:=by rfl)
  (h1:(assignEach [tg] X.env).map (·.2)=[assign tg X.env]:=by rfl):PSD A X (.Assign [tg] e pos) (xi7 te g):=by
 exists (zv2 he hg hs hw h1).imp λE sg H h=>by
   obtain⟨rho,n,F,ds,vs,I,ht,ok⟩:=h;exact⟨rho,n,_,ds,vs,I,ht,λv H' n' d J k=>⟨rho,n',_,d,ds,vs,J,k,λrho' sg' J' _ k'=>ok.nx _ _ _ _ J' k'⟩⟩
def zZ8(i j:Nat)(t:TAD):TSD:=λF rho n=>i<rho.length/\j<rho.length/\t rho n λes n1=>∃d d',es=[d,d']/\F.nx ((rho.set i (some d)).set j (some d')) n1
def zB7{i j:Nat}{x y:Str}{ta:TAD}{px py pt:Pos}{kt k2 pt2}(hc:X.calm=true)(hN:X.N.Nodup)(hi:X.N[i]?=some x)(hj:X.N[j]?=some y)(hij:i≠j)
  (hx:X.env.scope.names.lookup x=some .local) (hy:X.env.scope.names.lookup y=some .local) (ha:PAD A X [a,b] ta)
  (hw:swappedStores [.Tuple [.Name x px,.Name y py] kt pt] (.Tuple [a,b] k2 pt2) X.env=pure (some [x,y]):=by rfl)
  (hs:swapsWithSole [.Tuple [.Name x px,.Name y py] kt pt] (.Tuple [a,b] k2 pt2) pos.line X.env=pure false:=by rfl) :
  PSD A X (.Assign [.Tuple [.Name x px,.Name y py] kt pt] (.Tuple [a,b] k2 pt2) pos) (zZ8 i j ta):=by
 exists (zO4 hc hN hi hj hij hx hy ha hw hs).imp λE sg H h=>by
   obtain⟨rho,n,F,ds,vs,I,⟨hl,hl2,ht⟩,ok⟩:=h;refine⟨rho,n,_,ds,vs,I,ht,λws H' n' es ⟨os,J⟩ hlen k=>?_⟩;obtain⟨d,d',rfl,k⟩:=k;obtain⟨J1,rs⟩:=J.split hlen;obtain⟨v,v',rfl,r,r'⟩:=zm2 rs;refine⟨v,v',rfl,ok.nx _ _ _ _ ?_ k⟩;have J2:AmO A os n' rho sg H' (d::d'::ds) (v::v'::vs):=(J1.push r').push r
   exact⟨_,(J2.set hl).set (by simpa using hl2)⟩
def xj0(it:TID)(g:TGD)(tb:TSD):TSD:=λF rho n=>it rho n λitems n1=>∃J:Nat->Rho->Nat->Prop,J 0 rho n1 /\
 (∀i d rho n,items[i]?=some d->J i rho n->g d rho λrho'=>tb { F with nx:=J (i+1),ct:=J (i+1),bk:=F.nx } rho' n)/\∀rho n,J items.length rho n->F.nx rho n
def Ut{tg iter:Expr}{body:List Stmt}{it:TID}{g:TGD}{tb:TSD}{m:Nat}(hp:PassesOwn (model X.prog X.w) X.A X.env X.xe)(hc:X.calm=true)(hi:PID A X tg iter it)(hg:PGD A X m tg g)(hb:VZ A X body tb)
  (hs:∀x,foldedSetIterable iter X.env x=pure x:=by intro _;rfl):PSD A X (.For tg iter body [] pos) (xj0 it g tb):=by
 exists (zO5 hp hc hi hg hb hs).imp λE sg H h=>by
   obtain⟨rho,n,F,ds,vs,I,ht,ok⟩:=h;refine⟨rho,n,_,ds,vs,I,ht,λJ H' n' items es ws I1 hl hJ k=>?_⟩;obtain⟨W,w0,turn,fin⟩:=k;refine⟨λi mm sg H=>mm=items.length-i/\i<=items.length/\∃rho n,Am A n rho sg H (es++ds) (ws++vs)/\W i rho n,⟨items.length,rfl,wT _,rho,n',I1,w0⟩,?_⟩;rintro i mm sg3 H3 ⟨rfl,hi,rho3,n3,I3,w3⟩;obtain⟨j1,j2⟩:=hJ n3 rho3 sg3 H3 ds vs i I3
   by_cases hlt:i<items.length
   ·refine .inr ⟨(j1 items[i] (by simp [hlt])).1, λsg' H' => ∃ rho n, Am A n rho sg' H' (es ++ ds) (ws ++ vs) /\ W (i + 1) rho n, λsg' H' ⟨rho', n', I', w'⟩ => ⟨items.length - (i + 1), by lia, rfl, hlt, rho', n', I', w'⟩, λx H4 y => ?_⟩
    have I4:=(j1 items[i] (by simp[hlt])).2 x H4 y
    refine⟨rho3,n3,_,items[i],es++ds,ws++vs,I4,turn i items[i] rho3 n3 (by simp[hlt]) w3,λrho' sg' I5 _ k5=>⟨rho',n3,{ F with nx:=W (i+1),ct:=W (i+1),bk:=F.nx },es++ds,ws++vs,I5,k5,?_⟩⟩
    refine⟨λrho6 n6 sg6 H6 I6 k6=>⟨rho6,n6,I6,k6⟩,λd n6 v rho6 sg6 H6 ⟨os6,I6⟩ k6=>ok.rt _ _ _ _ _ _ ⟨os6,I6.under hl⟩ k6,λrho6 n6 sg6 H6 ⟨os6,I6⟩ k6=>ok.nx _ _ _ _ ⟨os6,(I6.split hl).1⟩ k6,λrho6 n6 sg6 H6 I6 k6=>⟨rho6,n6,I6,k6⟩⟩
   ·have e : i = items.length := by lia
    subst e;obtain⟨os,I3⟩:=I3;exact .inl ⟨j2 (zj _),ok.nx _ _ _ _ ⟨os,(I3.split hl).1⟩ (fin rho3 n3 w3)⟩
def zM4(te:TD):TSD:=λF rho n=>te rho n λ_ n1=>F.nx rho n1
def ZN(he:PD A X e te)(hs:swapsWith e none pos.line X.env=pure false:=by rfl):PSD A X (.Expr e pos) (zM4 te):=by
 exists (zB9 he hs).imp λE sg H h=>by
   obtain⟨rho,n,F,ds,vs,I,ht,ok⟩:=h;exact⟨rho,n,_,ds,vs,I,ht,λv H' n' d ⟨os,J⟩ k=>ok.nx _ _ _ _ ⟨os,J.pop.1⟩ k⟩
end
section
variable {A:AC}{X:Cx}{e a b:Expr}{es:List Expr}{te ta tb:TD}{t1:TAD}{pos:Pos}
def zU9(i:Nat)(tb:TD):TD:=λrho n P=>rho[i]?=some (some .st)/\tb rho n λd n1=>∃j:Int,d=.int j/\0<=j/\j<kOf n1/\∀z:Int,0<=z->(j=1->z<2147483647)->P (.int z) n1
def zw4{n:Nat}{i:Int}(h0:0<=i)(h1:i<n):ixN n i=some i.toNat:=by unfold ixN;rw[if_pos h0,if_pos h1]
def Zj{i:Nat}{x:Str}{px:Pos}(hb:PD A X b tb)(hpl:Kd b)(hN:X.N[i]?=some x:=by rfl)(hv:Vis X.env.scope x:=by first |exact Or.inl rfl |exact Or.inr (Or.inl rfl) |exact Or.inr (Or.inr rfl))(hd:(x == ("__debug__" : Str))=false:=by decide)
  (hcd:(x == ("__classdict__" : Str))=false:=by decide):PD A X (.Subscript (.Name x px) b pos) (zU9 i tb):=by
 exists 
   (zP4 ze3 (Vd hN hv hd hcd) hb hpl).imp λsg H Q h => by
    obtain⟨rho,n,P,ds,vs,⟨os,I⟩,⟨hi,ht⟩,hQ⟩:=h;obtain⟨v,e1,e2⟩:=I.slot i _ hi
    obtain⟨a,ha,rfl⟩:∃a,A.G=some a/\v=.ref a:=by
     have e3:=SlotR.rep (d:=.st) rfl e2;unfold Rep at e3;exact e3
    refine⟨.ref a,e1,rho,n,_,ds,vs,⟨os,I⟩,ht,λw H' n' d ⟨os',J⟩ k=>?_⟩;obtain⟨j,rfl,h0,h3,k⟩:=k;obtain⟨J1,r⟩:=J.pop;obtain⟨zs,_,_,hH,p1,p2,p3⟩:=J1.st.1 a ha;obtain⟨jn,rfl⟩:=wG h0
    have hjl:jn<zs.length:=q5
    have ej:zs[jn]?=some zs[jn]:=zk hjl
    refine⟨a,_,(jn:Int),.int zs[jn],rfl,r.int_inv,SqL.of hH,?_,hQ _ H' n' _ ⟨os',J1.push (Rep.ofS (d:=.int zs[jn]) rfl)⟩ (k zs[jn] (p2 _ (getElem_mem hjl)) λe=>p3 _ (by rw[<- ej];congr 1;lia))⟩
    unfold atI
    rw[zw4 q5 (by rw[zm];lia)]
    simp[hjl]
def zr2(zs:List Int)(j:Nat)(z:Int):(zs.map V.int).set j (.int z)=(zs.set j z).map V.int:=by rw[List.map_set]
def AmO.setSt{os:List (Nat × Addr)}{n:Nat}{rho:Rho}{sg:St}{H:Hp}{ds:List D}{vs:List V}{a:Addr}{zs:List Int}(I:AmO A os n rho sg H ds vs)(ha:A.G=some a)(h:zs.length=kOf n/\(∀x∈zs,0<=x)/\∀x,zs[1]?=some x->x<2147483647) :
  AmO A os n rho sg (upd H a (.lst (zs.map V.int))) ds vs:=by
 have za:Zof A os a:=.inl (I.gz a ha)
 have hf:∀b u,¬ Zof A os b->H b=some u->upd H a (.lst (zs.map V.int)) b=some u:=λb u nz e=>by
  rw[xS λw=>nz (by rw[w];exact za)];exact e
 have no:∀p∈os,p.2≠a:=λp hp e=>(I.fresh p hp).2.1 (by rw[e];exact I.gz a ha)
 refine⟨I.len,λj c e=>?_,Reps.mono (λ_ _ w=>w) hf _ _ I.pend,I.nd,λq hq=>?_,⟨λb e=>?_,λb c e=>?_⟩,I.gz,λb u h e=>?_,I.z0⟩
 ·obtain ⟨u, e1, e2⟩ := I.slot j c e
  exact⟨u,e1,SlotR.mono (λ_ _ w=>w) hf (λb ys m q=>⟨m,by rw[xS (no _ m)];exact q⟩) _ _ e2⟩
 ·obtain ⟨f1, f2, f3⟩ := I.fresh q hq
  exact⟨f1,f2,by rw[xS (no q hq)];exact f3⟩
 ·rw[ha] at e;cases e;exact⟨zs,0,0,yd,h⟩
 ·obtain ⟨q1, q2, q3⟩ := I.st.2 b c e
  exact⟨q1,q2,q3.mono (λ_ _ w=>w) hf λu e=>by rw[xS λw=>q2 (by rw[w];exact ha)];exact e⟩
 ·rw [xS λw => h (by rw [w]; exact ha)]
  exact I.fr b u h e
def zu3(i:Nat)(te tb:TD):TSD:=λF rho n=>rho[i]?=some (some .st)/\te rho n λd n1=>tb rho n1 λd2 n2=>∃j z:Int,d=.int z/\d2=.int j/\0<=j/\j<kOf n2/\0<=z/\(j=1->z<2147483647)/\F.nx rho n2
def WX{i:Nat}{x:Str}{px ps:Pos}(he:PD A X e te)(hb:PD A X b tb)(hN:X.N[i]?=some x:=by rfl)(hv:Vis X.env.scope x:=by first |exact Or.inl rfl |exact Or.inr (Or.inl rfl) |exact Or.inr (Or.inr rfl))(hd:(x == ("__debug__" : Str))=false:=by decide)
  (hcd : (x == ("__classdict__" : Str)) = false := by decide) (ha : ∀ v, assign (.Subscript (.Name x px) b ps) X.env v = (do
   let ov <- holding [v] (eval (.Name x px) X.env)
   let iv <- holding [v,ov] (eval b X.env)
   standAt ps
   holding [v,ov,iv] (setItem ov iv v)
   release [v,ov,iv] []):=by intro _;rfl) (hs:swapsWithSole [.Subscript (.Name x px) b ps] e pos.line X.env=pure false:=by rfl) (hw:swappedStores [.Subscript (.Name x px) b ps] e X.env=pure none:=by rfl)
  (h1:(assignEach [.Subscript (.Name x px) b ps] X.env).map (·.2)=[assign (.Subscript (.Name x px) b ps) X.env]:=by rfl) :
  PSD A X (.Assign [.Subscript (.Name x px) b ps] e pos) (zu3 i te tb):=by
 exists 
   (zv2 he (zO9 (Vd hN hv hd hcd) hb zl5 ha) hs hw h1).imp λE sg H h => by
    obtain⟨rho,n,F,ds,vs,⟨os,I⟩,⟨hi,ht⟩,ok⟩:=h;obtain⟨v,e1,e2⟩:=I.slot i _ hi
    obtain⟨a,hG,rfl⟩:∃a,A.G=some a/\v=.ref a:=by
     have e3:=SlotR.rep (d:=.st) rfl e2;unfold Rep at e3;exact e3
    refine⟨rho,n,_,ds,vs,⟨os,I⟩,ht,λv H' n' d J k=>⟨.ref a,e1,rho,n',_,d::ds,v::vs,J,k,λw H2 n2 d2 ⟨os2,J2⟩ k2=>?_⟩⟩;obtain⟨j,z,rfl,rfl,h0,h3,hz,h2,k2⟩:=k2;obtain⟨J3,r2⟩:=J2.pop;obtain⟨J4,r1⟩:=J3.pop;obtain⟨zs,_,_,hH,p1,p2,p3⟩:=J4.st.1 a hG;rw[r1.int_inv,r2.int_inv];obtain⟨jn,rfl⟩:=wG h0
    have hjl:jn<zs.length:=q5
    refine⟨a,_,(jn:Int),jn,rfl,rfl,hH,by rw[zw4 q5 (by rw[zm];lia)];simp,?_⟩
    rw[zr2]
    refine ok.nx _ _ _ _ ⟨os2,J4.setSt hG ⟨by rw[length_set];exact p1,λx hx=>?_,λx hx=>?_⟩⟩ k2
    ·rcases List.mem_or_eq_of_mem_set hx with hx | rfl
     ·exact p2 x hx
     ·exact hz
    ·by_cases e : jn = 1
     ·subst e;rw[xt hjl] at hx;cases hx;exact h2 rfl
     ·rw[xI e] at hx;exact p3 x hx
def Qp(es:List D)(lo hi:Option Int):List D:=(es.drop (HT.sIx es.length 0 lo)).take (HT.sIx es.length es.length hi-HT.sIx es.length 0 lo)
def zm1{K:W.Frag}{G:Option Addr}{Z:Addr->Prop}{H:Hp}{fs:List D}{xs:List V}(h:Reps K G Z H fs xs)(lo hi:Option Int):Reps K G Z H (Qp fs lo hi) (zI1 xs lo hi):=by
 unfold Qp zI1;rw[h.length];exact(h.drop _).take _
end
abbrev TF:=List D->Nat->(D->Nat->Prop)->Prop
noncomputable def ZW(n:Nat)(H:Hp):Hp:=λa=>match xb n a with |none=>H a |some _=>none
def jw{n:Nat}{H:Hp}{a:Addr}(h:xb n a=none):ZW n H a=H a:=by unfold ZW;rw[h]
def YO{n:Nat}{H:Hp}{a:Addr}(h:xb n a≠none):ZW n H a=none:=by
 unfold ZW
 cases q:xb n a with
 |none=>exact absurd q h
 |some c=>rfl
def zf0{n:Nat}{H:Hp}{a:Addr}{o:HO}(h:ZW n H a=some o):xb n a=none/\H a=some o:=by
 by_cases q:xb n a=none
 ·rw[jw q] at h;exact⟨q,h⟩
 ·rw[YO q] at h;cases h
abbrev jz(Z:Addr->Prop)(n:Nat):Addr->Prop:=λa=>Z a\/xb n a≠none
structure Grown(n n':Nat)(H:Hp):Prop where
 new:∀a,xb n' a≠none->xb n a≠none\/H a=none
 old:∀a,xb n a≠none->xb n' a≠none
def spD(K:W.Frag)(k:Nat)(t:TF):Sp:=λvs H Q _=>∃(G:Option Addr) (Z:Addr->Prop) (n:Nat) (P:D->Nat->Prop) (ds:List D),ds.length=k/\Reps K G Z H ds vs/\StOk K Z Z G n H/\(∀a,G=some a->Z a)/\ZOk K G Z H/\t ds n P /\
 ∀v H' n' d,(∀a o,G≠some a->xb n a=none->H a=some o->H' a=some o)->StOk K (jz Z n') (jz Z n') G n' H'->Grown n n' H->Rep K G (jz Z n') H' d v->P d n'->Q v H'
def wx(N:List Str)(ds:List D):Rho:=ds.map some++replicate (N.length-ds.length) none
def AmO.ended{K:W.Frag}{G:Option Addr}{Z:Addr->Prop}{H H':Hp}{os:List (Nat × Addr)}{n n':Nat}{rho':Rho}{sg':St}{ds:List D}{vs:List V}(I:AmO ⟨K,G,Z,ZW n H⟩ os n' rho' sg' H' ds vs)(st:StOk K Z Z G n H)(z0:ZOk K G Z H) :
  (∀a o,G≠some a->xb n a=none->H a=some o->H' a=some o)/\StOk K (jz Z n') (jz Z n') G n' H'/\Grown n n' H/\∀a,jz Z n' a->Zof ⟨K,G,Z,ZW n H⟩ os a:=by
 have r4:∀a,jz Z n' a->Zof ⟨K,G,Z,ZW n H⟩ os a:=λa z=>by
  rcases z with z |z
  ·exact .inl z
  ·cases q : xb n' a with
   |none=>exact absurd q z
   |some c=>
    rcases(I.st.2 a c q).1 with z |⟨p,hp,e,_⟩
    ·exact .inl z.1
    ·exact .inr ⟨p,hp,e⟩
 have cz:∀a,xb n a≠none->Z a:=λa z=>by
  cases q:xb n a with
  |none=>exact absurd q z
  |some c=>exact(st.2 a c q).1
 refine⟨λa o g c e=>I.fr a o g (by show ZW n H a=some o;rw[jw c];exact e),I.st.mono (λa _ z=>r4 a z) (λ_ _ _ e=>e) (λ_ _ _ e=>e) (λa c _=>.inr c) (λ_ _ _ e=>e),⟨λa z=>?_,λa z=>?_⟩,r4⟩
 ·cases q : xb n' a with
  |none=>exact absurd q z
  | some c =>
   rcases(I.st.2 a c q).1 with ⟨z,h⟩ |⟨p,hp,e,_⟩
   ·by_cases w : xb n a = none
    ·have h:ZW n H a=none:=h;rw[jw w] at h;exact .inr h
    ·exact .inl w
   ·have h : ZW n H p.2 = none := (I.fresh p hp).1;rw[e] at h
    by_cases w:xb n a=none
    ·rw[jw w] at h;exact .inr h
    ·exact .inl w
 ·rcases I.z0.1 a (cz a z) with h | h
  ·exact absurd (YO z) h
  ·exact h
def qa{K:W.Frag}{G:Option Addr}{Z:Addr->Prop}{H:Hp}{N:List Str}{ds:List D}{vs:List V}{n:Nat}(rs:Reps K G Z H ds vs)(st:StOk K Z Z G n H)(gz:∀a,G=some a->Z a)(z0:ZOk K G Z H) :
  AmO ⟨K,G,Z,ZW n H⟩ [] n (wx N ds) (start N vs) H [] []:=by
 have hl:=rs.length
 have zz:∀a,Zof ⟨K,G,Z,ZW n H⟩ [] a->Z a:=λa z=>by
  rcases z with z |⟨p,hp,_⟩
  ·exact z
  ·simp at hp
 have rs':Reps K G (Zof ⟨K,G,Z,ZW n H⟩ []) H ds vs:=Reps.mono (λa _ z=>zz a z) (λ_ _ _ e=>e) _ _ rs
 refine⟨by simp[wx,start,hl],λi d e=>?_,.nil,.nil,λp hp=>by simp at hp,st.mono (λa _ z=>zz a z) (λ_ _ _ e=>e) (λ_ _ _ e=>e) (λa c z=>.inl ⟨z,YO c⟩) (λ_ _ _ e=>e),gz,λa o _ e=>(zf0 e).2,⟨λa z=>?_,λP q t=>⟨?_,(z0.2 P q t).2⟩⟩⟩
 rotate_left
 ·by_cases q : xb n a = none
  ·exact .inl (by show ZW n H a≠none;rw[jw q];exact z0.1 a z)
  ·exact .inr q
 ·show ZW n H P=_;rw[jw (st.noCot (z0.2 P q t).1)];exact(z0.2 P q t).1
 unfold wx at e
 by_cases hi:i<ds.length
 ·rw [xE (by simpa using hi), zE] at e
  cases q:ds[i]? with
  |none=>rw[q] at e;cases e
  |some c=>
   rw[q] at e;cases e;obtain⟨v,e1,r⟩:=rs'.get q;refine⟨v,?_,SlotR.of r⟩;unfold start
   rw[xE (by rw[zm,hl];exact hi),zE,e1]
   rfl
 ·rw [xm (by simpa using hi), we] at e
  split at e<;>cases e
section
variable {P:Program}{w:World}{K:W.Frag}{mg:Str->Option Value}{base:Heap}
def Fun.okD{x qual:Str}{st:Stmt}{f:Addr}{fd:FuncData}{N ps:List Str}{k:Nat}{t:TF}{tb:TSD}(F:Fun K x qual st f fd)(S:FnScope N ps (zV st))
  (body : ∀ (cdv : Value) (A0 : Around) (outer : List Env) (s : Shared) (H : Hp) (E : XK) (G : Option Addr) (Z : Addr -> Prop) (n : Nat), Room k (A0.deeper (envOfC qual (zV st) s.heap.objs.size f cdv)) ->
   VZ ⟨K,G,Z,ZW n H⟩ (Wy CX0 P w K mg base N qual (zV st) f cdv A0 outer s H E).nox (yM st) tb)
  (spec:∀ds n Q,ds.length=ps.length->t ds n Q->tb { nx:=λ_ n=>Q .non n,rt:=Q } (wx N ds) n):FnOk P w K mg base CX0 (k+1) f fd ps (spD K ps.length t):=by
 exists (by
   refine F.ok S (λvs H Q E h=>?_) (λcdv A0 outer s H vs Q E hr h=>?_)
   ·obtain⟨G,Z,n,R,ds,hl,rs,_⟩:=h;rw[rs.length];exact hl
   ·obtain ⟨G, Z, n, R, ds, hl, rs, hst, gz, z0, ht, hQ⟩ := h;refine⟨_,body cdv A0 outer s H E G Z n hr,wx N ds,n,_,[],[],⟨[],qa rs hst gz z0⟩,spec ds n R hl ht,?_⟩;refine⟨λrho' n' sg' H' ⟨os,I⟩ q=>?_,λd n' v rho' sg' H' ⟨os,I⟩ q=>?_,λ_ _ _ _ _ q=>q.elim,λ_ _ _ _ _ q=>q.elim⟩
    ·obtain⟨r1,r2,r3,_⟩:=I.ended hst z0;exact hQ .non H' n' .non r1 r2 r3 (Rep.ofS rfl) q
    ·obtain ⟨r1, r2, r3, r4⟩ := I.ended hst z0
     exact hQ v H' n' d r1 r2 r3 (Rep.mono (λa _ z=>r4 a z) (λ_ _ _ e=>e) _ _ I.pop.2) q)
end
section
variable {A:AC}{X:Cx}{e:Expr}{es:List Expr}{t1:TAD}{pos p:Pos}
def dFn(k:Nat)(t:TF)(t1:TAD):TD:=λrho n P=>t1 rho n λes n1=>es.length=k/\t es n1 P
theorem zb7(New:Addr->Prop):∀(l:List Addr) (os:List (Nat × Addr)) (m:Nat),os.Pairwise (λp q=>p.1≠q.1/\p.2≠q.2)->∃ex:List (Nat × Addr),(ex++os).Pairwise (λp q=>p.1≠q.1/\p.2≠q.2)/\(∀p∈ex,m<=p.1/\p.2∈l/\New p.2)/\∀a∈l,New a->∃p∈ex++os,p.2=a
 |[],os,m,h=>⟨[],h,λp hp=>by simp at hp,λa ha=>by simp at ha⟩
 | a :: l, os, m, h => by
  obtain⟨ex,h1,h2,h3⟩:=zb7 New l os m h
  by_cases c:New a/\¬ ∃p∈ex++os,p.2=a
  ·have big : ∃ k, m <= k /\ ∀ p ∈ ex ++ os, p.1 < k := by
    have:∀l:List (Nat × Addr),∃k,m<=k/\∀p∈l,p.1<k:=by
     intro l
     induction l with
     |nil=>exact⟨m,zj _,λp hp=>by simp at hp⟩
     |cons p l ih=>
      obtain⟨k,k1,k2⟩:=ih
      refine⟨max k (p.1+1),q5,λq hq=>?_⟩
      rcases zd.mp hq with rfl |hq
      ·lia
      ·have:=k2 q hq;lia
    exact this _
   obtain⟨k,k1,k2⟩:=big;refine⟨(k,a)::ex,wS.mpr ⟨λp hp=>⟨Nat.ne_of_gt (k2 p hp),λz=>c.2 ⟨p,hp,z.symm⟩⟩,h1⟩,λp hp=>?_,λb hb hn=>?_⟩
   ·rcases zd.mp hp with rfl | hp
    ·exact⟨k1,zo,c.1⟩
    ·obtain⟨q1,q2,q3⟩:=h2 p hp;exact⟨q1,zc _ q2,q3⟩
   ·rcases zd.mp hb with rfl | hb
    ·exact⟨_,zo,rfl⟩
    ·obtain⟨p,hp,e⟩:=h3 b hb hn;exact⟨p,zc _ hp,e⟩
  ·refine ⟨ex, h1, λp hp => ?_, λb hb hn => ?_⟩
   ·obtain⟨q1,q2,q3⟩:=h2 p hp;exact⟨q1,zc _ q2,q3⟩
   ·rcases zd.mp hb with rfl | hb
    ·exact Classical.byContradiction λz=>c ⟨hn,z⟩
    ·exact h3 b hb hn
def AmO.stZ{os:List (Nat × Addr)}{n:Nat}{rho:Rho}{sg:St}{H:Hp}{ds:List D}{vs:List V}(I:AmO A os n rho sg H ds vs):StOk A.K (Zof A os) (Zof A os) A.G n H:=
 I.st.mono (λ_ _ z=>z) (λ_ _ _ e=>e) (λ_ _ _ e=>e) (λa _ z=>by
  rcases z with z |⟨p,hp,e,_⟩
  ·exact .inl z.1
  ·exact .inr ⟨p,hp,e⟩) (λ_ _ _ e=>e)
def AmO.calledX{os:List (Nat × Addr)}{n n':Nat}{rho:Rho}{sg:St}{H H':Hp}{ds:List D}{vs:List V}(I:AmO A os n rho sg H ds vs)(fr:∀a o,A.G≠some a->xb n a=none->H a=some o->H' a=some o)(st:StOk A.K (jz (Zof A os) n') (jz (Zof A os) n') A.G n' H')
  (gw:Grown n n' H):∃os',AmO A os' n' rho sg H' ds vs/\∀a,Zof A os' a->jz (Zof A os) n' a:=by
 obtain⟨ex,e1,e2,e3⟩:=zb7 (λa=>xb n' a≠none/\H a=none) (UW n') os rho.length I.nd
 have hz:∀a,Zof A (ex++os) a->jz (Zof A os) n' a:=λa z=>by
  rcases z with z |⟨p,hp,rfl⟩
  ·exact .inl (.inl z)
  ·rcases zI.mp hp with hp | hp
   ·exact .inr (e2 p hp).2.2.1
   ·exact .inl (.inr ⟨p,hp,rfl⟩)
 have hz2:∀a,H a≠none->Zof A (ex++os) a->Zof A os a:=λa h z=>by
  rcases z with z |⟨p,hp,rfl⟩
  ·exact .inl z
  ·rcases zI.mp hp with hp | hp
   ·exact absurd (e2 p hp).2.2.2 h
   ·exact .inr ⟨p,hp,rfl⟩
 have zi:∀a,Zof A os a->Zof A (ex++os) a:=λa z=>by
  rcases z with z |⟨p,hp,e⟩
  ·exact .inl z
  ·exact .inr ⟨p,zr _ hp,e⟩
 have cz:∀a,xb n a≠none->Zof A os a:=λa h=>by
  cases q:xb n a with
  |none=>exact absurd q h
  |some c=>
   rcases(I.st.2 a c q).1 with z |⟨p,hp,e,_⟩
   ·exact .inl z.1
   ·exact .inr ⟨p,hp,e⟩
 have hf:∀b u,¬ Zof A os b->H b=some u->H' b=some u:=λb u nz e=>fr b u (λz=>nz (.inl (I.gz b z))) (Classical.byContradiction λz=>nz (cz b z)) e;have no:∀p∈os,A.G≠some p.2:=λp hp e=>(I.fresh p hp).2.1 (I.gz _ e)
 have h0:∀a,H a=none->A.H0 a=none:=λa h=>by
  cases q:A.H0 a with
  |none=>rfl
  |some o=>
   by_cases e:A.G=some a
   ·obtain⟨x,y,z,w,_⟩:=I.st.1 a e;rw[w] at h;cases h
   ·rw[I.fr a o e q] at h;cases h
 have hne:∀a,Zof A os a->H' a≠none:=λa z=>by
  by_cases c:xb n a=none
  ·by_cases g : A.G = some a
   ·obtain⟨x,y,z,w,_⟩:=st.1 a g;rw[w];simp
   ·cases q : H a with
    |none=>exact absurd q (I.zH a z)
    |some u=>rw[fr a u g c q];simp
  ·have := gw.old a c
   cases q:xb n' a with
   |none=>exact absurd q this
   |some c=>exact(st.2 a c q).2.2.ne
 refine⟨ex++os,⟨I.len,λj c e=>?_,Reps.mono hz2 hf _ _ I.pend,e1,λq hq=>?_,?_,I.gz,λb u h e=>?_,⟨λa z=>?_,I.z0.2⟩⟩,hz⟩
 ·obtain⟨u,e1,e2⟩:=I.slot j c e;have hj:j<rho.length:=(zN.mp e).1;exact⟨u,e1,SlotR.mono hz2 hf (λb ys m q=>⟨zr _ m,fr _ _ (no _ m) (I.noOwn hj m) q⟩) _ _ e2⟩
 ·rcases zI.mp hq with hq | hq
  ·obtain ⟨_, _, q1, q2⟩ := e2 q hq;refine⟨h0 _ q2,λz=>I.zH _ (.inl z) q2,?_⟩
   cases q:xb n' q.2 with
   |none=>exact absurd q q1
   |some c=>exact(st.2 _ c q).2.2.ne
  ·obtain⟨f1,f2,f3⟩:=I.fresh q hq;exact⟨f1,f2,hne _ (.inr ⟨q,hq,rfl⟩)⟩
 ·refine st.mono (λa _ z => hz a z) (λ_ _ _ e => e) (λ_ _ _ e => e) (λa c z => ?_) (λ_ _ _ e => e)
  rcases gw.new a c with z |z
  ·cases q2 : xb n a with
   |none=>exact absurd q2 z
   |some c2=>
    rcases(I.st.2 a c2 q2).1 with y |⟨p,hp,e,hl⟩
    ·exact .inl y
    ·exact .inr ⟨p,zr _ hp,e,hl⟩
  ·obtain ⟨p, hp, e⟩ := e3 a (UV c) ⟨c, z⟩
   rcases zI.mp hp with hp' |hp'
   ·exact .inr ⟨p,hp,e,(e2 p hp').1⟩
   ·exact absurd (by rw[e];exact z) (I.fresh p hp').2.2
 ·by_cases c : xb n b = none
  ·exact fr b u h c (I.fr b u h e)
  ·exfalso
   cases q:xb n b with
   |none=>exact c q
   |some c2=>
    rcases(I.st.2 b c2 q).1 with y |⟨p,hp,e',_⟩
    ·rw[y.2] at e;cases e
    ·rw[<- e',(I.fresh p hp).1] at e;cases e
 ·exact(I.z0.1 a z).imp id (gw.old a)
def AmO.called{os:List (Nat × Addr)}{n n':Nat}{rho:Rho}{sg:St}{H H':Hp}{ds:List D}{vs:List V}{d:D}{v:V}(I:AmO A os n rho sg H ds vs)(fr:∀a o,A.G≠some a->xb n a=none->H a=some o->H' a=some o)(st:StOk A.K (jz (Zof A os) n') (jz (Zof A os) n') A.G n' H')(gw:Grown n n' H)
  (r:Rep A.K A.G (jz (Zof A os) n') H' d v):Am A n' rho sg H' (d::ds) (v::vs):=by
 obtain⟨os',J,hz⟩:=I.calledX fr st gw;exact⟨os',J.push (Rep.mono (λa _ z=>hz a z) (λ_ _ _ e=>e) _ _ r)⟩
def zD5{x:Str}{f:Addr}{fd:FuncData}{ps:List Str}{t:TF}{kk k:Nat}(F:FnOk X.prog X.w X.K X.mg X.base CX0 kk f fd ps (spD X.K k t))(hr:Room kk X.A)(hm:X.mg x=some (.ref f))(hk:W.keepIn X.K (.ref f)=true)(hb:Binds X.K fd ps [])(hK:X.K=A.K)
  (ha:PAD A X (e::es) t1) (hg:Gl X x:=by rfl) (hdb:(x == ("__debug__" : Str))=false:=by decide) (he:starEach (e::es) X.env=(false,eval e X.env)::starEach es X.env:=by rfl) (hpl:(backTo pos (starEach es X.env)).any (·.1)=false:=by rfl) :
  PD A X (.Call (.Name x p) (e::es) [] pos) (dFn k t t1):=by
 exists (zb2 F hr hg hm hk hb .nil JF ha hdb he hpl).imp λsg H Q h=>by
   obtain⟨rho,n,R,ds,vs,I,ht,hQ⟩:=h;refine⟨rho,n,_,ds,vs,I,ht,λws H' n' es' ⟨os,J⟩ hl k=>?_⟩;obtain⟨J1,rs⟩:=J.split hl;rw[xG,hK];refine⟨A.G,Zof A os,n',R,es',k.1,rs,J1.stZ,λa z=>.inl (J1.gz a z),J1.zO,k.2,λv H2 n2 d fr st nw r q=>hQ v H2 n2 d (J1.called fr st nw r) q⟩
end
section
variable {A:AC}{X:Cx}{tg a:Expr}{ta:TD}{pos p:Pos}
def xh5(K:W.Frag)(tl:TE):TI:=λsg H R=>tl sg H λx H1=>∃l,x=.ref l/\(((∃xs,SqL K H1 l xs)/\R (Itl K l) H1)\/((∃xs,SqT K H1 l xs)/\R (Itt K l) H1))
def zC7{l:Expr}{tl:TE}(hl:PE X l tl):PI X tg l (xh5 X.K tl):=by
 intro pins s sg H R I h;refine thn (hl pins s sg H _ I h) λv s1 ⟨x,H1,I1,r1,q1⟩=>?_;obtain⟨c,e,q1⟩:=q1;subst e;cases r1
 have new:∀b∈[s1.heap.objs.size],FpOk X pins H1 b:=λb hb=>by
  obtain rfl:b=s1.heap.objs.size:=by simpa using hb
  exact I1.fpOk (zj _) (I1.hok.fresh (zj _))
 rcases q1 with ⟨⟨xs,hq⟩,q⟩ |⟨⟨xs,hq⟩,q⟩
 ·obtain⟨its,rv,pl,hz⟩:=I1.list hq;exact wpAny_pyIter_list pl.isList ⟨s1.heap.objs.size,[s1.heap.objs.size],_,_,H1,rfl,I1.kept (t':=s1.toks) λb o e=>zh _ e,Qz c _,⟨_,zQ _ rfl,rfl,rfl⟩,new,q⟩
 ·obtain⟨its,rv,pl,hz⟩:=I1.tuple hq;exact wpAny_pyIter_tuple (show s1.heap.IsTuple c its.toArray from pl) ⟨s1.heap.objs.size,[s1.heap.objs.size],_,_,H1,rfl,I1.kept (t':=s1.toks) λb o e=>zh _ e,Ju c _,⟨_,zQ _ rfl,rfl,rfl⟩,new,q⟩
def zT9(ta:TD):TID:=λrho n P=>ta rho n λd n1=>∃es,(d=.lst es\/d=.tup es)/\P es n1
def va(hK:X.K=A.K)(ha:PD A X a ta):PID A X tg a (zT9 ta):=by
 exists (zC7 ha).imp λsg H R h=>by
   obtain⟨rho,n,P,ds,vs,I,ht,hQ⟩:=h;refine⟨rho,n,_,ds,vs,I,ht,λv H' n' d ⟨os,J⟩ k=>?_⟩;obtain⟨es,hd,k⟩:=k;have r:=J.pop.2;rw[hK]
   rcases hd with rfl |rfl
   ·obtain ⟨l, xs, rfl, sq, rs⟩ := r.lst_inv;refine⟨l,rfl,.inl ⟨⟨xs,sq.sq⟩,hQ _ H' n' es [.lst es] [.ref l] ⟨os,J⟩ rfl (λn2 rho2 sg2 H2 ds2 vs2 i ⟨os2,I2⟩=>?_) k⟩⟩;obtain⟨I3,r2⟩:=AmO.pop (d:=.lst es) (v:=.ref l) (ds:=ds2) (vs:=vs2) I2;obtain⟨l',xs2,e,sq2,rs2⟩:=r2.lst_inv;cases e
    refine⟨λd e=>?_,λhi=>⟨xs2,sq2.sq,by rw[rs2.length];exact hi⟩⟩
    obtain⟨v,e1,rv⟩:=rs2.get e;refine⟨⟨xs2,v,sq2.sq,e1⟩,λx H3 y=>?_⟩;obtain⟨e3,y⟩:=y;subst e3;have e4:=y xs2 sq2.sq;rw[e1] at e4;cases e4;exact⟨os2,I2.push rv⟩
   ·obtain ⟨l, xs, rfl, sq, rs⟩ := r.tup_inv;refine⟨l,rfl,.inr ⟨⟨xs,sq.sq⟩,hQ _ H' n' es [.tup es] [.ref l] ⟨os,J⟩ rfl (λn2 rho2 sg2 H2 ds2 vs2 i ⟨os2,I2⟩=>?_) k⟩⟩;obtain⟨I3,r2⟩:=AmO.pop (d:=.tup es) (v:=.ref l) (ds:=ds2) (vs:=vs2) I2;obtain⟨l',xs2,e,sq2,rs2⟩:=r2.tup_inv;cases e
    refine⟨λd e=>?_,λhi=>⟨xs2,sq2.sq,by rw[rs2.length];exact hi⟩⟩
    obtain⟨v,e1,rv⟩:=rs2.get e;refine⟨⟨xs2,v,sq2.sq,e1⟩,λx H3 y=>?_⟩;obtain⟨e3,y⟩:=y;subst e3;have e4:=y xs2 sq2.sq;rw[e1] at e4;cases e4;exact⟨os2,I2.push rv⟩
end
structure Fn(P:Program)(w:World)(K:W.Frag)(mg:Str->Option Value)(base:Heap)(x:Str)(kk k:Nat)(t:TF):Prop where
 ex:∃(f:Addr) (fd:FuncData) (ps:List Str),FnOk P w K mg base CX0 kk f fd ps (spD K k t)/\mg x=some (.ref f)/\W.keepIn K (.ref f)=true/\Binds K fd ps []
def vb{A:AC}{X:Cx}{e:Expr}{es:List Expr}{t1:TAD}{pos p:Pos}{x:Str}{t:TF}{kk k:Nat}(F:Fn X.prog X.w X.K X.mg X.base x kk k t)(hr:Room kk X.A)(hK:X.K=A.K)
  (ha:PAD A X (e::es) t1) (hg:Gl X x:=by rfl) (hdb:(x == ("__debug__" : Str))=false:=by decide) (he:starEach (e::es) X.env=(false,eval e X.env)::starEach es X.env:=by rfl) (hpl:(backTo pos (starEach es X.env)).any (·.1)=false:=by rfl) :
  PD A X (.Call (.Name x p) (e::es) [] pos) (dFn k t t1):=by
 exists (by
   obtain⟨f,fd,ps,h1,h2,h3,h4⟩:=F.ex
   exact zD5 h1 hr h2 h3 h4 hK ha hg hdb he hpl)
structure Blt(mg:Str->Option Value):Prop where
 len:mg "len" = none
 abs:mg "abs" = none
 all:mg "all" = none
 any:mg "any" = none
 isi:mg "isinstance" = none
 int:mg "int" = none
 bool:mg "bool" = none
 str:mg "str" = none
 tuple:mg "tuple" = none
 list:mg "list" = none
 range:mg "range" = none
 zip:mg "zip" = none
 enum:mg "enumerate" = none
 max:mg "max" = none
 min:mg "min" = none
 sorted:mg "sorted" = none
def qz:bootBuiltins "len" = some (.builtin "len"):=w5
def zx9:bootBuiltins "abs" = some (.builtin "abs"):=w5
def zx7:bootBuiltins "isinstance" = some (.builtin "isinstance"):=w5
def zx8:bootBuiltins "int" = some (.type "int"):=w5
def vz:bootBuiltins "tuple" = some (.type "tuple"):=w5
def zJ0:bootBuiltins "list" = some (.type "list"):=w5
def isB(d:D)(p:Bool->Prop):Prop:=∃c,d=.bl c/\p c
@[simp] theorem xq9{b:Bool}{p:Bool->Prop}:isB (.bl b) p↔p b:=⟨fun⟨_,e,h⟩=>by cases e;exact h,λh=>⟨_,rfl,h⟩⟩
@[simp] theorem xc0{F rho n}:zM0 F rho n=F.nx rho n:=rfl
@[simp] theorem xj8{t u F rho n}:xi8 t u F rho n=t { F with nx:=u F } rho n:=rfl
@[simp] theorem xj9{te F rho n}:xi9 te F rho n=te rho n F.rt:=rfl
@[simp] theorem xp8{c t u F rho n}:sIf c t u F rho n=c rho n λb n1=>if b=true then t F rho n1 else u F rho n1:=rfl
@[simp] theorem xj7{i te F rho n}:zZ7 i te F rho n=(i<rho.length/\te rho n λd n1=>F.nx (rho.set i (some d)) n1):=rfl
@[simp] theorem xj6{te g F rho n}:xi7 te g F rho n=te rho n λd n1=>g d rho λrho'=>F.nx rho' n1:=rfl
@[simp] theorem xc2{te F rho n}:zM4 te F rho n=te rho n λ_ n1=>F.nx rho n1:=rfl
@[simp] theorem zX0{i d rho P}:zf5 i d rho P=(i<rho.length/\P (rho.set i (some d))):=rfl
@[simp] theorem xk7{i rho n P}:zK5 i rho n P=atV rho[i]? λd=>P d n:=rfl
@[simp] theorem xr9{d k}:atV (some (some d)) k=atD d k:=rfl
@[simp] theorem xm4{k}:atD .non k=k .non:=rfl
@[simp] theorem xm3{k b}:atD (.bl b) k=k (.bl b):=rfl
@[simp] theorem xm2{k b}:atD (.int b) k=k (.int b):=rfl
@[simp] theorem xm1{k b}:atD (.str b) k=k (.str b):=rfl
@[simp] theorem xm0{k b}:atD (.tup b) k=k (.tup b):=rfl
@[simp] theorem xl9{k b}:atD (.lst b) k=k (.lst b):=rfl
@[simp] theorem xl8{k b}:atD (.fz b) k=k (.fz b):=rfl
@[simp] theorem xl7{k}:atD .st k=k .st:=rfl
@[simp] theorem xl6{k a b}:atD (.dct a b) k=k (.dct a b):=rfl
@[simp] theorem xs0{d k}(h:yr d=true):atD d k=k d:=propext ⟨λz=>(zj8 z).2,zy1 h⟩
@[simp] theorem xu5{d rho n P}:dC d rho n P=P d n:=rfl
@[simp] theorem xr6{rd ta tb rho n P}:dOp rd ta tb rho n P=ta rho n λd1 n1=>tb rho n1 λd2 n2=>rd d1 d2 λd=>P d n2:=rfl
@[simp] theorem xe8{t rho n P}:Qb t rho n P=t rho n λd n'=>isB d λb=>P b n':=rfl
@[simp] theorem xc7{d1 d2 k}:zM9 d1 d2 k=(d2=.non/\k (.bl (Xj d1))):=rfl
@[simp] theorem xr8{t u rho n P}:bOr t u rho n P=t rho n λc n1=>if c=true then P true n1 else u rho n1 P:=rfl
@[simp] theorem xl4{t rho n P}:xn5 t rho n P=t rho n λc n1=>P (!c) n1:=rfl
@[simp] theorem xl3{rho n P}:zK7 rho n P=P true n:=rfl
@[simp] theorem xl2{ta tb rho n P}:xn4 ta tb rho n P=ta rho n λd n1=>isB d λc=>if c=true then tb rho n1 P else P (.bl false) n1:=rfl
@[simp] theorem xm5{rho n P}:zY0 rho n P=P [] n:=rfl
@[simp] theorem xf9{t r rho n P}:zJ5 t r rho n P=t rho n λd n1=>r rho n1 λds n2=>P (d::ds) n2:=rfl
@[simp] theorem xk8{t rho n P}:xn1 t rho n P=t rho n λds n1=>ds.length<=sizeLine/\P (.tup ds) n1:=rfl
@[simp] theorem xl0{t rho n P}:xn3 t rho n P=t rho n λds n1=>ds.length<=sizeLine/\P (.lst ds) n1:=rfl
@[simp] theorem xf7{rd t rho n P}:zh4 rd t rho n P=t rho n λes n1=>rd es λd=>P d n1:=rfl
@[simp] theorem xr7{k t t1 rho n P}:dFn k t t1 rho n P=t1 rho n λes n1=>es.length=k/\t es n1 P:=rfl
@[simp] theorem xe4{ta rho n P}:zT9 ta rho n P=ta rho n λd n1=>∃es,(d=.lst es\/d=.tup es)/\P es n1:=rfl
@[simp] theorem xe5{t rho n P}:zU0 t rho n P=t rho n λes n1=>∃j:Int,es=[.int j]/\-(2^62)<=j/\j<2^62/\P (Qn 0 j.toNat) n1:=rfl
@[simp] theorem xe7{rho P}:zU2 [] rho P↔P rho:=⟨λh=>h.2,λh=>⟨rfl,h⟩⟩
@[simp] theorem zX1{g gs d r rho P}:zw5 g gs (d::r) rho P↔g d rho λrho'=>gs r rho' P:=⟨fun⟨_,_,e,h⟩=>by cases e;exact h,λh=>⟨_,_,rfl,h⟩⟩
@[simp] theorem xe6{k gs es rho P}:zU1 k gs (.tup es) rho P↔(es.length=k/\gs es rho P):=⟨fun⟨_,e,h⟩=>by cases e;exact h,λh=>⟨_,rfl,h⟩⟩
@[simp] theorem xp9{C g i j k}:rdI C g (.int i) (.int j) k=(C i j/\k (g i j)):=rfl
@[simp] theorem QX{g i j k}:zm5 g (.int i) (.int j) k=k (g i j):=rfl
@[simp] theorem zA9{es i k}:zK0 (.lst es) (.int i) k↔∃d,atI es i=some d/\k d:=⟨fun⟨_,_,d,e,e',h⟩=>by cases e' ;rcases e with e |e |e<;>cases e;exact⟨d,h⟩,fun⟨d,h⟩=>⟨_,_,d,.inl rfl,rfl,h⟩⟩
@[simp] theorem zA8{es i k}:zK0 (.tup es) (.int i) k↔∃d,atI es i=some d/\k d:=⟨fun⟨_,_,d,e,e',h⟩=>by cases e' ;rcases e with e |e |e<;>cases e;exact⟨d,h⟩,fun⟨d,h⟩=>⟨_,_,d,.inr (.inl rfl),rfl,h⟩⟩
@[simp] theorem xc6{es i k}:zK0 (.fz es) (.int i) k↔∃d,atI es i=some d/\k d:=⟨fun⟨_,_,d,e,e',h⟩=>by cases e' ;rcases e with e |e |e<;>cases e;exact⟨d,h⟩,fun⟨d,h⟩=>⟨_,_,d,.inr (.inr rfl),rfl,h⟩⟩
@[simp] theorem xd2{es fs k}:zN1 (.lst es) (.lst fs) k↔(es.length+fs.length<=sizeLine/\k (.lst (es++fs))):=⟨fun⟨_,_,e,e',h⟩=>by cases e;cases e';exact h,λh=>⟨_,_,rfl,rfl,h⟩⟩
def zQ2(es:List D)(p:D->D->Prop):Prop:=∃d d',es=[d,d']/\p d d'
@[simp] theorem xd3{a b p}:zQ2 [a,b] p↔p a b:=⟨fun⟨_,_,e,h⟩=>by cases e;exact h,λh=>⟨_,_,rfl,h⟩⟩
@[simp] theorem xk0{i j t F rho n}:zZ8 i j t F rho n=(i<rho.length/\j<rho.length/\t rho n λes n1=>zQ2 es λd d'=>F.nx ((rho.set i (some d)).set j (some d')) n1):=rfl
@[simp] theorem xc9{i j:Int}{k}:zA4 (.int i) (.int j) k↔k (.bl (decide (i=j))):=by
 have e:decide (ofS (.int i)=ofS (.int j))=decide (i=j):=by simp[ofS]
 unfold zA4;rw[e];exact⟨λh=>h.2.2.2,λh=>⟨rfl,rfl,rfl,h⟩⟩
@[simp] theorem xd0{i j:Bool}{k}:zA4 (.bl i) (.bl j) k↔k (.bl (decide (i=j))):=by
 have e:decide (ofS (.bl i)=ofS (.bl j))=decide (i=j):=by simp[ofS]
 unfold zA4;rw[e];exact⟨λh=>h.2.2.2,λh=>⟨rfl,rfl,rfl,h⟩⟩
@[simp] theorem xc4{i j:Int}{k}:zM8 (.int i) (.int j) k↔k (.bl (!decide (i=j))):=by
 have e:decide (ofS (.int i)=ofS (.int j))=decide (i=j):=by simp[ofS]
 unfold zM8;rw[e];exact⟨λh=>h.2.2.2,λh=>⟨rfl,rfl,rfl,h⟩⟩
@[simp] theorem xc5{i j:Bool}{k}:zM8 (.bl i) (.bl j) k↔k (.bl (!decide (i=j))):=by
 have e:decide (ofS (.bl i)=ofS (.bl j))=decide (i=j):=by simp[ofS]
 unfold zM8;rw[e];exact⟨λh=>h.2.2.2,λh=>⟨rfl,rfl,rfl,h⟩⟩
@[simp] theorem xe0{fs k}:zG4 [.lst fs] k↔k (.int fs.length):=⟨fun⟨_,e,h⟩=>by rcases e with e |e |e<;>cases e;exact h,λh=>⟨_,.inl rfl,h⟩⟩
@[simp] theorem QZ{fs k}:zG4 [.tup fs] k↔k (.int fs.length):=⟨fun⟨_,e,h⟩=>by rcases e with e |e |e<;>cases e;exact h,λh=>⟨_,.inr (.inl rfl),h⟩⟩
@[simp] theorem xe1{fs k}:zG4 [.fz fs] k↔k (.int fs.length):=⟨fun⟨_,e,h⟩=>by rcases e with e |e |e<;>cases e;exact h,λh=>⟨_,.inr (.inr rfl),h⟩⟩
@[simp] theorem xk3{i k}:xn0 [.int i] k↔k (.int (if i<0 then -i else i)):=⟨fun⟨_,e,h⟩=>by cases e;exact h,λh=>⟨_,rfl,h⟩⟩
@[simp] theorem xe2{i k}:zT2 [.bl i] k↔k (.int (if i then 1 else 0)):=⟨fun⟨_,e,h⟩=>by cases e;exact h,λh=>⟨_,rfl,h⟩⟩
@[simp] theorem ku{fs k}:KO [.lst fs] k↔k (.tup fs):=⟨fun⟨_,e,h⟩=>by rcases e with e |e<;>cases e;exact h,λh=>⟨_,.inl rfl,h⟩⟩
@[simp] theorem zN5{fs k}:KO [.tup fs] k↔k (.tup fs):=⟨fun⟨_,e,h⟩=>by rcases e with e |e<;>cases e;exact h,λh=>⟨_,.inr rfl,h⟩⟩
@[simp] theorem xe9{i tb rho n P}:zU9 i tb rho n P=(rho[i]?=some (some .st)/\tb rho n λd n1=>∃j:Int,d=.int j/\0<=j/\j<kOf n1/\∀z:Int,0<=z->(j=1->z<2147483647)->P (.int z) n1):=rfl
@[simp] theorem zW2{i te tb F rho n}:zu3 i te tb F rho n=(rho[i]?=some (some .st)/\te rho n λd n1=>tb rho n1 λd2 n2=>∃j z:Int,d=.int z/\d2=.int j/\0<=j/\j<kOf n2/\0<=z/\(j=1->z<2147483647)/\F.nx rho n2):=rfl
@[simp] theorem xq8:yr .non=true:=rfl
@[simp] theorem xq7{b}:yr (.bl b)=true:=rfl
@[simp] theorem xq6{b}:yr (.int b)=true:=rfl
@[simp] theorem xq5{b}:yr (.str b)=true:=rfl
@[simp] theorem xq4{b}:yr (.tup b)=true:=rfl
@[simp] theorem xq3{b}:yr (.lst b)=true:=rfl
@[simp] theorem xl5{a k}:atD (.rf a) k=k (.rf a):=rfl
@[simp] theorem xq0{a}:yr (.rf a)=true:=rfl
@[simp] theorem xq2:yr .st=true:=rfl
@[simp] theorem xq1{b}:yr (.fz b)=true:=rfl
@[simp] theorem xr5:Xj .non=true:=rfl
@[simp] theorem xr4{b}:Xj (.bl b)=false:=rfl
@[simp] theorem xr3{b}:Xj (.int b)=false:=rfl
@[simp] theorem xr2{b}:Xj (.str b)=false:=rfl
@[simp] theorem xr1{b}:Xj (.tup b)=false:=rfl
@[simp] theorem xr0{b}:Xj (.lst b)=false:=rfl
@[simp] theorem xb7:(0<=sizeLine)=True:=by simp
@[simp] theorem xb6:(1<=sizeLine)=True:=by simp[sizeLine]
@[simp] theorem xb5:(2<=sizeLine)=True:=by simp[sizeLine]
@[simp] theorem xb4:(3<=sizeLine)=True:=by simp[sizeLine]
@[simp] theorem xb3:(4<=sizeLine)=True:=by simp[sizeLine]
@[simp] theorem xb2:(5<=sizeLine)=True:=by simp[sizeLine]
@[simp] theorem xb1:(6<=sizeLine)=True:=by simp[sizeLine]
@[simp] theorem xb0:(7<=sizeLine)=True:=by simp[sizeLine]
def yL{k:Nat}(h:k<=1000:=by decide):k<=sizeLine:=zF h q9
def lt_size{k:Nat}(h:k<=1000:=by decide):k<sizeLine:=yk h q9
def VM(own:Nat)(g:TGD)(tt:TBD)(te:TD)(rho:Rho)(P:D->Nat->Prop)(items:List D)(n1:Nat):Prop:=items.length<=sizeLine/\∃J:Nat->List D->Nat->Prop,J 0 [] n1 /\
 (∀i d acc n,items[i]?=some d->J i acc n->g d (replicate own none++rho) λrho'=>rho'.drop own=rho/\tt rho' n λc n2=>if c=true then te rho' n2 λe n3=>J (i+1) (acc++[e]) n3 else J (i+1) acc n2) /\
 ∀acc n,J items.length acc n->P (.lst acc) n
@[simp] theorem xf6{it own g tt te rho n P}:Qc it own g tt te rho n P=it rho n (VM own g tt te rho P):=rfl
def zR8(g:TGD)(tb:TSD)(F:EndsD)(rho:Rho)(items:List D)(n1:Nat):Prop:=∃J:Nat->Rho->Nat->Prop,J 0 rho n1 /\
 (∀i d rho n,items[i]?=some d->J i rho n->g d rho λrho'=>tb { F with nx:=J (i+1),ct:=J (i+1),bk:=F.nx } rho' n)/\∀rho n,J items.length rho n->F.nx rho n
@[simp] theorem xk1{it g tb F rho n}:xj0 it g tb F rho n=it rho n (zR8 g tb F rho):=rfl
def zt3{it:TID}{own:Nat}{g:TGD}{te:TD}{rho:Rho}{n:Nat}{P:D->Nat->Prop}{α:Type}(enc:α->D)(f:α->D)(xs:List α)
  (hi:∀R,R (xs.map enc) n->it rho n R) (hz:xs.length<=sizeLine) (he:∀x∈xs,∀Q,Q (f x) n->g (enc x) (replicate own none++rho) λrho'=>rho'.drop own=rho/\te rho' n Q) (hP:P (.lst (xs.map f)) n):Qc it own g zK7 te rho n P:=by
 refine hi _ ⟨by simpa using hz,λi acc n'=>n'=n/\acc=(xs.take i).map f,⟨rfl,rfl⟩,?_,?_⟩
 ·rintro i d acc n' e ⟨rfl, rfl⟩;rw[zE] at e
  cases q:xs[i]? with
  |none=>rw[q] at e;cases e
  |some x=>
   rw[q] at e;cases e;have hm:x∈xs:=wg q;refine he x hm (λe n3=>n3=n'/\(xs.take i).map f++[e]=(xs.take (i+1)).map f) ⟨rfl,?_⟩;rw[xx,q];simp
 ·rintro acc n' ⟨rfl,rfl⟩;rw[zm,wA];exact hP
def zy0{α:Type}{xs:List α}{i:Int}(h0:0<=i)(h1:i<xs.length):∃d,atI xs i=some d/\d∈xs:=by
 obtain⟨k,rfl⟩:=wG h0
 have hk:k<xs.length:=q5
 exact⟨xs[k],YX (by simp[hk]),getElem_mem hk⟩
@[simp] theorem xs5{α:Type}{a:α}{l:List α}:atI (a::l) 0=some a:=YX (j:=0) rfl
@[simp] theorem xs4{α:Type}{a b:α}{l:List α}:atI (a::b::l) 1=some b:=YX (j:=1) rfl
@[simp] theorem xs3{α:Type}{a b c:α}{l:List α}:atI (a::b::c::l) 2=some c:=YX (j:=2) rfl
@[simp] theorem xk6:ixN 3 0=some 0:=rfl
@[simp] theorem xk5:ixN 3 1=some 1:=rfl
@[simp] theorem xk4:ixN 3 2=some 2:=rfl
def Wt(H:Hp):Prop:=∀b,H b=none\/(∃o xs,H b=some (.frz o (.lst xs)))\/∃q,H b=some (.cot q)
def WH(K:W.Frag):Sp:=λvs H Q _=>∃(a:Addr) (ns:List Int),vs=[.ref a]/\Wt H/\SqL K H a (ns.map V.int)/\ns.length<=63/\(∀P q,vZ K P q->H P=some (.cot q))/\∀H',(∀P q,H P=some (.cot q)->H' P=some (.cot q))->Q (.bl true) H'
def yD(ns:List Int):D:=.fz (ns.map D.int)
theorem kn{K:W.Frag}{G:Option Addr}{Z:Addr->Prop}{H:Hp}:∀{ns:List Int},Reps K G Z H (ns.map D.int) (ns.map V.int)
 |[]=>.nil
 |n::ns=>.cons (Rep.ofS (d:=.int n) rfl) kn
theorem qj{K:W.Frag}{G:Option Addr}{Z:Addr->Prop}{H:Hp}:∀{ns:List Int}{xs:List V},Reps K G Z H (ns.map D.int) xs->xs=ns.map V.int
 |[],xs,h=>by unfold Reps at h;exact h
 |n::ns,xs,h=>by
  obtain⟨v,r,rfl,h1,h2⟩:=Reps.split h;rw[h1.int_inv,qj h2];rfl
section
variable {P:Program}{w:World}{K:W.Frag}{mg:Str->Option Value}{base:Heap}
def Fun.okLaw{x qual:Str}{st:Stmt}{f:Addr}{fd:FuncData}{N:List Str}{p:Str}{k:Nat}{t:TSD}(F:Fun K x qual st f fd)(S:FnScope N [p] (zV st))(n0:Nat)
  (body : ∀ (cdv : Value) (A0 : Around) (outer : List Env) (s : Shared) (H : Hp) (E : XK), Room k (A0.deeper (envOfC qual (zV st) s.heap.objs.size f cdv)) ->
   VZ ⟨K,none,λ_=>False,H⟩ (Wy CX0 P w K mg base N qual (zV st) f cdv A0 outer s H E).nox (yM st) t)
  (h1:∀(ns:List Int),ns.length<=63->t { nx:=λ_ _=>False,rt:=λd _=>d=.bl true } (wx N [yD ns]) n0) (h64:n0<64:=by decide):FnOk P w K mg base CX0 (k+1) f fd [p] (WH K):=by
 exists (by
   refine F.ok S (λvs H Q E h=>?_) (λcdv A0 outer s H vs Q E hr h=>?_)
   ·obtain⟨a,ns,rfl,_⟩:=h;rfl
   ·obtain ⟨a, ns, rfl, hO, hS, hl, hT, k⟩ := h;refine⟨_,body cdv A0 outer s H E hr,?_⟩
    have rs:Reps K none (λ_=>False) H [yD ns] [.ref a]:=by
     refine .cons ?_ .nil;unfold yD Rep;refine⟨a,ns.map V.int,rfl,?_,kn⟩
     rcases hS with (q |⟨o,q⟩) |q
     ·rcases hO a with z | ⟨o, xs, z⟩ | ⟨o, z⟩
      ·rw[z] at q;cases q
      ·rw[z] at q;cases q
      ·rw[z] at q;cases q
     ·exact .inl ⟨λz=>z,o,q⟩
     ·exact .inr (.inr q)
    have S0:=qa (N:=N) (n:=n0) rs ⟨λb e=>(by cases e),λa c e=>(by rw[kY h64] at e;cases e)⟩ (λb e=>by cases e) ⟨λb e=>e.elim,λP q t=>⟨hT P q t,by simp⟩⟩
    have eh:ZW n0 H=H:=funext λa=>jw (kY h64);rw[eh] at S0;refine⟨wx N [yD ns],n0,_,[],[],⟨[],S0⟩,h1 ns hl,?_⟩;refine⟨λ_ _ _ _ _ q=>q.elim,λd n v rho2 sg2 H2 ⟨os2,I2⟩ q=>?_,λ_ _ _ _ _ q=>q.elim,λ_ _ _ _ _ q=>q.elim⟩;subst q;rw[I2.pop.2.bl_inv]
    exact k H2 λP q e=>I2.fr P _ (by simp) e)
end
@[simp] theorem zK2{ns:List Int}:yr (yD ns)=true:=rfl
@[simp] theorem zB0{ns:List Int}{k:D->Prop}:zG4 [yD ns] k↔k (.int ns.length):=by unfold yD;simp
def Jy{K:W.Frag}{G G':Option Addr}{Z Z':Addr->Prop}{H H':Hp}{ns:List Int}{v:V}(h:Rep K G Z H (yD ns) v)(hz:∀a o u,¬ Z a->H a=some (.frz o u)->¬ Z' a/\H' a=some (.frz o u)):Rep K G' Z' H' (yD ns) v:=by
 unfold yD Rep at h ⊢;obtain⟨a,xs,rfl,sq,rs⟩:=h
 refine⟨a,xs,rfl,?_,by rw[qj rs];exact kn⟩
 rcases sq with ⟨nz,o,e⟩ |sq
 ·obtain⟨z1,z2⟩:=hz a o _ nz e;exact .inl ⟨z1,o,z2⟩
 ·exact .inr sq
end L2
namespace L2
open PySem PySem.Spec PyProof.Rows PySem.SeqAt
mutual
def eqD:D->D->Bool
 |.non,.non=>true
 |.bl a,.bl b=>a == b
 |.bl a,.int i=>(if a then 1 else 0) == i
 |.int i,.bl a=>i == (if a then 1 else 0)
 |.int i,.int j=>i == j
 |.str x,.str y=>x == y
 |.tup xs,.tup ys=>YZ xs ys
 |.lst xs,.lst ys=>YZ xs ys
 |_,_=>false
def YZ:List D->List D->Bool
 |[],[]=>true
 |x::xs,y::ys=>eqD x y&&YZ xs ys
 |_,_=>false
end
mutual
def okE:D->Nat->Bool
 |.non,_=>true
 |.bl _,_=>true
 |.int _,_=>true
 |.str _,_=>true
 |.tup ds,k=>match k with
  |0=>false
  |k+1=>VY ds k
 |.lst ds,k=>match k with
  |0=>false
  |k+1=>VY ds k
 |_,_=>false
def VY:List D->Nat->Bool
 |[],_=>true
 |d::ds,k=>okE d k&&VY ds k
end
theorem jU:∀{ds:List D}{k i:Nat}{d:D},VY ds k=true->ds[i]?=some d->okE d k=true
 |[],k,i,d,_,e=>by simp at e
 |c::ds,k,0,d,h,e=>by
  simp at e;subst e;unfold VY at h;rw[xg] at h;exact h.1
 |c::ds,k,i+1,d,h,e=>by
  unfold VY at h;rw[xg] at h
  exact jU (i:=i) h.2 (by simpa using e)
def eAt(xs ys:List D)(j:Nat):Bool:=match xs[j]?,ys[j]? with
 |some x,some y=>eqD x y
 |_,_=>true
def Xb(n:Nat)(e:Nat->Bool):(List.range (n+1)).all e=(e 0&&(List.range n).all λj=>e (j+1)):=by
 rw[List.range_succ_eq_map,List.all_cons,List.all_map];rfl
theorem ZX:∀(xs ys:List D),((List.range (min xs.length ys.length)).all (eAt xs ys)&&xs.length == ys.length)=YZ xs ys
 |[],[]=>by unfold YZ;rfl
 |[],y::ys=>by unfold YZ;simp
 |x::xs,[]=>by unfold YZ;simp
 |x::xs,y::ys=>by
  have ih:=ZX xs ys;unfold YZ;rw[<- ih]
  have e1:min (x::xs).length (y::ys).length=min xs.length ys.length+1:=by simp only[zt];lia
  rw[e1,Xb]
  have e2:((x::xs).length == (y::ys).length)=(xs.length == ys.length):=by simp
  rw[e2,Bool.and_assoc];rfl
def VJ{xs ys:List D}(h:xs.length=ys.length):(List.range xs.length).all (eAt xs ys)=YZ xs ys:=by
 rw[<- ZX,h];simp
def zs0{xs ys:List D}(h:xs.length≠ys.length):YZ xs ys=false:=by
 rw[<- ZX];simp[h]
theorem zf8:∀{xs ys:List D},xs.length=ys.length->(∀(j:Nat) (x y:D),xs[j]?=some x->ys[j]?=some y->eqD x y=true)->YZ xs ys=true
 |[],[],_,_=>by unfold YZ;rfl
 |[],y::ys,h,_=>by simp at h
 |x::xs,[],h,_=>by simp at h
 |x::xs,y::ys,h,q=>by
  unfold YZ
  rw[q 0 x y rfl rfl,zf8 (by simpa using h) λj a b ha hb=>q (j+1) a b (by simpa using ha) (by simpa using hb)]
  rfl
def Reps.get2{K:W.Frag}{G:Option Addr}{Z:Addr->Prop}{H:Hp}{ds:List D}{vs:List V}{i:Nat}{d:D}{v:V}(h:Reps K G Z H ds vs)(e:ds[i]?=some d)(e':vs[i]?=some v):Rep K G Z H d v:=by
 obtain⟨u,h1,h2⟩:=h.get e;rw[h1] at e';cases e';exact h2
section
variable {X:Cx}{pins:List (Addr × Obj)}{σ:St}{H:Hp}{s:Shared}{G:Option Addr}{Z:Addr->Prop}
def Kw(I:Inv X pins σ H s):∀(k:Nat) (d1 d2:D) (v:V),okE d1 k=true->okE d2 k=true->Rep X.K G Z H d1 v->Rep X.K G Z H d2 v->eqD d1 d2=true:=by
 intro k
 induction k with
 | zero =>
  intro d1 d2 v h1 h2 r1 r2
  cases d1<;>cases d2<;>first
   |(simp[okE] at h1;done) |(simp[okE] at h2;done)
   |(have e1:=r1.toS rfl;have e2:=r2.toS rfl;rw[e1] at e2;simp[ofS] at e2;done)
   |(have e1:=r1.toS rfl;have e2:=r2.toS rfl;rw[e1] at e2;simp[ofS] at e2;simp[eqD,e2])
 | succ k ih =>
  have seq:∀{ds es:List D}{xs:List V},VY ds k=true->VY es k=true->Reps X.K G Z H ds xs->Reps X.K G Z H es xs->YZ ds es=true:=λ{ds es xs} h1 h2 r1 r2=>by
   refine zf8 (r1.length.symm.trans r2.length) λj x y hx hy=>?_;obtain⟨u,hu,ru⟩:=r1.get hx;exact ih x y u (jU h1 hx) (jU h2 hy) ru (r2.get2 hy hu)
  intro d1 d2 v h1 h2 r1 r2
  cases d1<;>cases d2<;>try (first
   |(simp[okE] at h1;done) |(simp[okE] at h2;done)
   |(have e1:=r1.toS rfl;have e2:=r2.toS rfl;rw[e1] at e2;simp[ofS] at e2;done)
   |(have e1:=r1.toS rfl;have e2:=r2.toS rfl;rw[e1] at e2;simp[ofS] at e2;simp[eqD,e2];done)
   |(obtain⟨a,xs,e,_⟩:=r1.tup_inv;have e2:=r2.toS rfl;rw[e] at e2;simp[ofS] at e2;done)
   |(obtain⟨a,xs,e,_⟩:=r1.lst_inv;have e2:=r2.toS rfl;rw[e] at e2;simp[ofS] at e2;done)
   |(obtain⟨a,xs,e,_⟩:=r2.tup_inv;have e2:=r1.toS rfl;rw[e] at e2;simp[ofS] at e2;done)
   |(obtain⟨a,xs,e,_⟩:=r2.lst_inv;have e2:=r1.toS rfl;rw[e] at e2;simp[ofS] at e2;done))
  ·rename_i ds es;obtain⟨a,xs,e,sq,rs⟩:=r1.tup_inv;obtain⟨b,ys,e',sq',rs'⟩:=r2.tup_inv;rw[e] at e';cases e';have:=I.tuple_inj sq.sq sq'.sq;subst this;unfold eqD
   exact seq (by simpa [okE] using h1) (by simpa [okE] using h2) rs rs'
  ·rename_i ds es;obtain⟨a,xs,e,sq,rs⟩:=r1.tup_inv;obtain⟨b,ys,e',sq',rs'⟩:=r2.lst_inv;rw[e] at e';cases e';obtain⟨its,rv,pl,hz⟩:=I.tuple sq.sq;obtain⟨its',rv',pl',hz'⟩:=I.list sq'.sq;exact absurd rfl (ne_of_list_tuple pl'.isList (show s.heap.IsTuple a its.toArray from pl))
  ·rename_i ds es;obtain⟨a,xs,e,sq,rs⟩:=r1.lst_inv;obtain⟨b,ys,e',sq',rs'⟩:=r2.tup_inv;rw[e] at e';cases e';obtain⟨its,rv,pl,hz⟩:=I.list sq.sq;obtain⟨its',rv',pl',hz'⟩:=I.tuple sq'.sq;exact absurd rfl (ne_of_list_tuple pl.isList (show s.heap.IsTuple a its'.toArray from pl'))
  ·rename_i ds es;obtain⟨a,xs,e,sq,rs⟩:=r1.lst_inv;obtain⟨b,ys,e',sq',rs'⟩:=r2.lst_inv;rw[e] at e';cases e';have:=I.list_inj sq.sq sq'.sq;subst this;unfold eqD
   exact seq (by simpa [okE] using h1) (by simpa [okE] using h2) rs rs'
def rcC{A:Around}{s:Shared}{y x:Value}{b c:Bool}(h:RcAt A s y x b)(e:b=c):RcAt A s y x c:=e ▸ h
def rnC{A:Around}{s:Shared}{y x:Value}{b c:Bool}(h:RcNeAt A s y x b)(e:b=c):RcNeAt A s y x c:=e ▸ h
def eqC{A:Around}{s:Shared}{y x:Value}{b c:Bool}(h:EqAt A s y x b)(e:b=c):EqAt A s y x c:=e ▸ h
def E3(A:Around)(s:Shared)(u1 u2:Value)(b:Bool):Prop:=EqAt A s u1 u2 b/\RcAt A s u1 u2 b/\RcNeAt A s u1 u2 (!b)
def E3.cast{A:Around}{s:Shared}{y x:Value}{b c:Bool}(h:E3 A s y x b)(e:b=c):E3 A s y x c:=e ▸ h
def zj5:D->D->Bool
 |.tup _,.tup _=>true
 |.lst _,.lst _=>true
 |_,_=>false
def ShE(s:Shared):D->Value->Prop
 |.non,u=>u=.none
 |.bl x,u=>u=.bool x
 |.int x,u=>∃t,u=.int x t
 |.str x,u=>∃t,u=.str x t
 |.tup _,u=>∃a its,u=.ref a/\s.heap.IsTuple a its
 |.lst _,u=>∃a its,u=.ref a/\s.heap.IsList a its
 |_,_=>False
def shE(I:Inv X pins σ H s){k:Nat}{d:D}{v:V}{u:Value}(h:okE d k=true)(r:Rep X.K G Z H d v)(q:RelV v u):ShE s d u:=by
 cases d with
 |non=>have:=r.toS rfl;subst this;exact q
 |bl x=>have:=r.toS rfl;subst this;exact q
 |int x=>have:=r.toS rfl;subst this;exact q
 |str x=>have:=r.toS rfl;subst this;exact q
 |tup x=>
  obtain⟨a,xs,w,sq,_⟩:=r.tup_inv;subst w;obtain⟨its,_,pl,_⟩:=I.tuple sq.sq;exact⟨a,its.toArray,q,pl⟩
 |lst x=>
  obtain⟨a,xs,w,sq,_⟩:=r.lst_inv;subst w;obtain⟨its,_,pl,_⟩:=I.list sq.sq;exact⟨a,its.toArray,q,pl.isList⟩
 |_=>simp[okE] at h
section
local macro_rules
 | `(tactic|nomatch $n:ident,$t,*)=>do
  let f:=fun(p:Lean.Name)=>Lean.mkIdent (p++n.getId)
  let t:=t.getElems
  `(tactic|exact E3.cast ⟨$(f `EqAt) $t*,$(f `RcAt) $t*,$(f `RcNeAt) $t*⟩ (by unfold eqD;rfl))
def zw7(I:Inv X pins σ H s){k:Nat}{d1 d2:D}{v1 v2:V}{u1 u2:Value}{A:Around}(h1:okE d1 k=true)(h2:okE d2 k=true)(r1:Rep X.K G Z H d1 v1)(r2:Rep X.K G Z H d2 v2)(q1:RelV v1 u1)(q2:RelV v2 u2)
  (hu:A.units<cLine) (hb:zj5 d1 d2=false):E3 A s u1 u2 (eqD d1 d2):=by
 have g1:=shE I h1 r1 q1;have g2:=shE I h2 r2 q2;clear h1 h2 r1 r2 q1 q2
 cases d1 with
 |non=>
  cases g1
  cases d2 with
  |non=>cases g2;exact E3.cast ⟨EqAt.same _,RcAt.none_none,RcNeAt.none_none⟩ (by unfold eqD;rfl)
  |bl=>cases g2;nomatch none_bool,_
  |int=>obtain⟨_,rfl⟩:=g2;nomatch none_int,_,_
  |str=>obtain⟨_,rfl⟩:=g2;nomatch none_str,_,_
  |tup=>obtain⟨_,_,rfl,L⟩:=g2;nomatch none_tuple,L,hu
  |lst=>obtain⟨_,_,rfl,L⟩:=g2;nomatch none_list,L,hu
  |_=>exact g2.elim
 |bl x1=>
  cases g1
  cases d2 with
  |non=>cases g2;nomatch bool_none,_
  |bl=>cases g2;nomatch bool_bool,_,_
  |int=>obtain⟨_,rfl⟩:=g2;nomatch bool_int,_,_,_
  |str=>obtain⟨_,rfl⟩:=g2;nomatch bool_str,_,_,_
  |tup=>obtain⟨_,_,rfl,L⟩:=g2;nomatch bool_tuple,_,L,hu
  |lst=>obtain⟨_,_,rfl,L⟩:=g2;nomatch bool_list,_,L,hu
  |_=>exact g2.elim
 |int x1=>
  obtain⟨t1,rfl⟩:=g1
  cases d2 with
  |non=>cases g2;nomatch int_none,_,_
  |bl=>cases g2;nomatch int_bool,_,_,_
  |int=>obtain⟨_,rfl⟩:=g2;nomatch int_int,_,_,_,_
  |str=>obtain⟨_,rfl⟩:=g2;nomatch int_str,_,_,_,_
  |tup=>obtain⟨_,_,rfl,L⟩:=g2;nomatch int_tuple,_,_,L,hu
  |lst=>obtain⟨_,_,rfl,L⟩:=g2;nomatch int_list,_,_,L,hu
  |_=>exact g2.elim
 |str x1=>
  obtain⟨t1,rfl⟩:=g1
  cases d2 with
  |non=>cases g2;nomatch str_none,_,_
  |bl=>cases g2;nomatch str_bool,_,_,_
  |int=>obtain⟨_,rfl⟩:=g2;nomatch str_int,_,_,_,_
  |str=>obtain⟨_,rfl⟩:=g2;nomatch str_str,_,_,_,_
  |tup=>obtain⟨_,_,rfl,L⟩:=g2;nomatch str_tuple,_,_,L,hu
  |lst=>obtain⟨_,_,rfl,L⟩:=g2;nomatch str_list,_,_,L,hu
  |_=>exact g2.elim
 |tup x1=>
  obtain⟨a1,i1,rfl,L1⟩:=g1
  cases d2 with
  |non=>cases g2;nomatch tuple_none,L1,hu
  |bl=>cases g2;nomatch tuple_bool,_,L1,hu
  |int=>obtain⟨_,rfl⟩:=g2;nomatch tuple_int,_,_,L1,hu
  |str=>obtain⟨_,rfl⟩:=g2;nomatch tuple_str,_,_,L1,hu
  |tup=>cases hb
  |lst=>obtain⟨_,_,rfl,L⟩:=g2;nomatch tuple_list,L1,L,hu
  |_=>exact g2.elim
 |lst x1=>
  obtain⟨a1,i1,rfl,L1⟩:=g1
  cases d2 with
  |non=>cases g2;nomatch list_none,L1,hu
  |bl=>cases g2;nomatch list_bool,_,L1,hu
  |int=>obtain⟨_,rfl⟩:=g2;nomatch list_int,_,_,L1,hu
  |str=>obtain⟨_,rfl⟩:=g2;nomatch list_str,_,_,L1,hu
  |tup=>obtain⟨_,_,rfl,L⟩:=g2;nomatch list_tuple,L1,L,hu
  |lst=>cases hb
  |_=>exact g2.elim
 |_=>exact g1.elim
end
def zw6(I:Inv X pins σ H s):∀(k:Nat) (d1 d2:D) (v1 v2:V) (u1 u2:Value) (A:Around),okE d1 k=true->okE d2 k=true->Rep X.K G Z H d1 v1->Rep X.K G Z H d2 v2->RelV v1 u1->RelV v2 u2 ->
  A.units+k<cLine->E3 A s u1 u2 (eqD d1 d2):=by
 intro k
 induction k with
 |zero=>
  intro d1 d2 v1 v2 u1 u2 A h1 h2 r1 r2 q1 q2 hu
  refine zw7 I h1 h2 r1 r2 q1 q2 q5 ?_
  cases d1<;>first |rfl |(simp[okE] at h1;done)
 | succ k ih =>
  intro d1 d2 v1 v2 u1 u2 A h1 h2 r1 r2 q1 q2 hu
  by_cases hb:zj5 d1 d2=false
  ·exact zw7 I h1 h2 r1 r2 q1 q2 q5 hb
  have items:∀{ds es:List D}{xs ys:List V}{its its':List Value},VY ds k=true->VY es k=true->Reps X.K G Z H ds xs->Reps X.K G Z H es ys->Vals xs its->Vals ys its' ->
    ∀(j:Nat) (l1:j<its.toArray.size) (l2:j<its'.toArray.size),EqAt A.in1 s its.toArray[j] its'.toArray[j] (eAt ds es j):=λ{ds es xs ys its its'} h1 h2 r1 r2 rv rv' j l1 l2=>by
   have l1':j<its.length:=by simpa using l1
   have l2':j<its'.length:=by simpa using l2
   have a1:j<ds.length:=by rw[<- r1.length,rv.length];exact l1'
   have a2:j<es.length:=by rw[<- r2.length,rv'.length];exact l2'
   have g1:ds[j]?=some ds[j]:=zk a1;have g2:es[j]?=some es[j]:=zk a2;obtain⟨w1,e1,p1⟩:=r1.get g1;obtain⟨w2,e2,p2⟩:=r2.get g2;obtain⟨z1,f1,t1⟩:=rv.get e1;obtain⟨z2,f2,t2⟩:=rv'.get e2
   have m1:its.toArray[j]=z1:=by
    have:its[j]?=some its[j]:=zk l1';rw[f1] at this
    simpa using (zy this).symm
   have m2:its'.toArray[j]=z2:=by
    have:its'[j]?=some its'[j]:=zk l2';rw[f2] at this
    simpa using (zy this).symm
   have e3:eAt ds es j=eqD ds[j] es[j]:=by unfold eAt;rw[g1,g2]
   rw[m1,m2,e3]
   exact(ih _ _ _ _ _ _ A.in1 (jU h1 g1) (jU h2 g2) p1 p2 t1 t2 (by show A.units+1+k<cLine;lia)).1
  cases d1 with
  | tup ds =>
   cases d2 with
   | tup es =>
    have s1:=r1;have s2:=r2;obtain⟨a,xs,e,sq,rs⟩:=r1.tup_inv;obtain⟨b,ys,e',sq',rs'⟩:=r2.tup_inv;subst e e';have c1:u1=.ref a:=q1;have c2:u2=.ref b:=q2;subst c1 c2;obtain⟨its,rv,pl,hz⟩:=I.tuple sq.sq;obtain⟨its',rv',pl',hz'⟩:=I.tuple sq'.sq
    have it:=items (by simpa [okE] using h1) (by simpa [okE] using h2) rs rs' rv rv'
    have n1:its.toArray.size=ds.length:=by rw[<- rs.length,rv.length];simp
    have n2:its'.toArray.size=es.length:=by rw[<- rs'.length,rv'.length];simp
    have ev:((List.range (min its.toArray.size its'.toArray.size)).all (eAt ds es)&&its.toArray.size == its'.toArray.size)=eqD (.tup ds) (.tup es):=by
     rw[n1,n2,ZX];unfold eqD;rfl
    have R:=rcC (RcAt.tuples (A:=A) (show s.heap.IsTuple a its.toArray from pl) (show s.heap.IsTuple b its'.toArray from pl') q5 it) ev
    have N:=rnC (RcNeAt.tuples (A:=A) (show s.heap.IsTuple a its.toArray from pl) (show s.heap.IsTuple b its'.toArray from pl') q5 it) (congrArg (!·) ev)
    refine⟨?_,R,N⟩
    by_cases hab:a=b
    ·subst hab;exact eqC (EqAt.same _) (Kw I (k+1) _ _ _ h1 h2 s1 s2).symm
    ·exact .of_refs hab R
   |_=>exact absurd rfl hb
  | lst ds =>
   cases d2 with
   | lst es =>
    have s1:=r1;have s2:=r2;obtain⟨a,xs,e,sq,rs⟩:=r1.lst_inv;obtain⟨b,ys,e',sq',rs'⟩:=r2.lst_inv;subst e e';have c1:u1=.ref a:=q1;have c2:u2=.ref b:=q2;subst c1 c2;obtain⟨its,rv,pl,hz⟩:=I.list sq.sq;obtain⟨its',rv',pl',hz'⟩:=I.list sq'.sq
    have it:=items (by simpa [okE] using h1) (by simpa [okE] using h2) rs rs' rv rv'
    have n1:its.toArray.size=ds.length:=by rw[<- rs.length,rv.length];simp
    have n2:its'.toArray.size=es.length:=by rw[<- rs'.length,rv'.length];simp
    have R:RcAt A s (.ref a) (.ref b) (eqD (.lst ds) (.lst es))/\RcNeAt A s (.ref a) (.ref b) (!eqD (.lst ds) (.lst es)):=by
     by_cases hl:ds.length=es.length
     ·have ev : (List.range its.toArray.size).all (eAt ds es) = eqD (.lst ds) (.lst es) := by rw [n1, VJ hl]; unfold eqD; rfl
      exact⟨rcC (RcAt.lists (A:=A) pl.isList pl'.isList (by rw[n1,n2,hl]) q5 it) ev,rnC (RcNeAt.lists (A:=A) pl.isList pl'.isList (by rw[n1,n2,hl]) q5 it) (congrArg (!·) ev)⟩
     ·have ev : false = eqD (.lst ds) (.lst es) := by unfold eqD; exact (zs0 hl).symm
      have hs:(its.toArray.size != its'.toArray.size)=true:=by rw[n1,n2];simpa using hl
      exact⟨rcC (RcAt.lists_lengths (A:=A) pl.isList pl'.isList hs q5) ev,rnC (RcNeAt.lists_lengths (A:=A) pl.isList pl'.isList hs q5) (congrArg (!·) ev)⟩
    refine⟨?_,R⟩
    by_cases hab:a=b
    ·subst hab;exact eqC (EqAt.same _) (Kw I (k+1) _ _ _ h1 h2 s1 s2).symm
    ·exact .of_refs hab R.1
   |_=>exact absurd rfl hb
  |_=>exact absurd rfl hb
def EqV(X:Cx)(H:Hp)(x y:V)(b:Bool):Prop:=∀pins s σ v u,Inv X pins σ H s->RelV x v->RelV y u->∀A:Around,A.units+60<cLine->E3 A s v u b
def xj4(X:Cx):R2:=λx y H Q=>∃b,EqV X H x y b/\Q (.bl b) H
def Xr{n:Nat}(hr:Room n X.A):OpR X (compareOp .Eq) (xj4 X):=by
 intro pins s σ H x y v u Q I rx ry h;obtain⟨b,e,q⟩:=h
 exact(e pins s σ v u I rx ry X.A (by have:=hr.units;lia)).2.1 X.prog X.w X.xe _ ⟨.bl b,H,I,rfl,q⟩
def zN0:RD2:=λd1 d2 k=>okE d1 20=true/\okE d2 20=true/\k (.bl (eqD d1 d2))
def Xq{A:AC}(hK:X.K=A.K):qb A (xj4 X) zN0:=by
 rintro os n rho sg H ds vs d1 d2 v1 v2 k Q I ⟨h1,h2,q⟩ hQ;obtain⟨I1,r2⟩:=I.pop;obtain⟨I2,r1⟩:=I1.pop;rw[<- hK] at r1 r2
 exact⟨eqD d1 d2,λpins s σ v u J rx ry B hu=>zw6 J 20 d1 d2 v1 v2 v u B h1 h2 r1 r2 rx ry q5,hQ _ H _ ⟨os,I2.push (Rep.ofS rfl)⟩ q⟩
@[simp] theorem xd1{d1 d2 k}:zN0 d1 d2 k=(okE d1 20=true/\okE d2 20=true/\k (.bl (eqD d1 d2))):=rfl
end
end L2
namespace L2
section
variable {A:AC}{X:Cx}{e a b:Expr}{es:List Expr}{te ta tb:TD}{t1:TAD}{pos p:Pos}
def FnOk.botK{P:Program}{w:World}{K:W.Frag}{mg:Str->Option Value}{base:Heap}{f:Addr}{fd:FuncData}{ps:List Str}{k L:Nat}{t:TF}(ht:∀ds n Q,¬ t ds n Q):FnOk P w K mg base CX0 L f fd ps (spD K k t):=by
 refine⟨λvs H Q E h=>?_,λA outer s H args us vs Q E _ _ _ _ h=>?_⟩
 ·obtain⟨G,Z,n,R,ds,hl,rs,hst,gz,z0,h,_⟩:=h;exact(ht _ _ _ h).elim
 ·obtain⟨G,Z,n,R,ds,hl,rs,hst,gz,z0,h,_⟩:=h;exact(ht _ _ _ h).elim
end
def yN{own:Nat}{g:TGD}{te:TD}{rho:Rho}{n:Nat}{P:D->Nat->Prop}{α:Type}(enc:α->D)(f:α->D)(xs:List α)
  (hz:xs.length<=sizeLine) (he:∀x∈xs,∀Q,Q (f x) n->g (enc x) (replicate own none++rho) λrho'=>rho'.drop own=rho/\te rho' n Q) (hP:P (.lst (xs.map f)) n):VM own g zK7 te rho P (xs.map enc) n:=
 zt3 (it:=λ_ n R=>R (xs.map enc) n) (rho:=rho) enc f xs (λR h=>h) hz he hP
@[simp] theorem xc8{i j:Str}{k}:zA4 (.str i) (.str j) k↔k (.bl (decide (i=j))):=by
 have e:decide (ofS (.str i)=ofS (.str j))=decide (i=j):=by simp[ofS]
 unfold zA4;rw[e];exact⟨λh=>h.2.2.2,λh=>⟨rfl,rfl,rfl,h⟩⟩
theorem KH:∀{ds:List D}{k:Nat},VY ds k=true↔∀d∈ds,okE d k=true
 |[],k=>by unfold VY;simp
 |c::ds,k=>by
  unfold VY;rw[xg,KH];simp
def kL{ds:List D}{k:Nat}:okE (.tup ds) (k+1)=true↔∀d∈ds,okE d k=true:=by
 have e:okE (.tup ds) (k+1)=VY ds k:=by rw[okE]
 rw[e,KH]
mutual
theorem Wm:∀{d:D}{k:Nat},okE d k=true->eqD d d=true
 |.non,k,_=>by simp[eqD]
 |.bl b,k,_=>by simp[eqD]
 |.int b,k,_=>by simp[eqD]
 |.str b,k,_=>by simp[eqD]
 |.tup ds,0,h=>by simp[okE] at h
 |.tup ds,k+1,h=>by unfold eqD;unfold okE at h;exact YR h
 |.lst ds,0,h=>by simp[okE] at h
 |.lst ds,k+1,h=>by unfold eqD;unfold okE at h;exact YR h
 |.ty _,k,h=>by simp[okE] at h
 |.fz _,k,h=>by simp[okE] at h
 |.st,k,h=>by simp[okE] at h
 |.own _,k,h=>by simp[okE] at h
 |.rf _,k,h=>by simp[okE] at h
theorem YR:∀{ds:List D}{k:Nat},VY ds k=true->YZ ds ds=true
 |[],k,_=>by simp[YZ]
 |d::ds,k,h=>by
  unfold VY at h;rw[xg] at h;unfold YZ;rw[Wm h.1,YR h.2];rfl
end
theorem YV(f:Nat->Int)(bt:Nat->Nat->Bool)(h:∀i j,bt i j=true↔f j<f i):∀k,argBest bt k<=k/\∀i,i<=k->f i<=f (argBest bt k)
 |0=>⟨zj _,λi hi=>by cases Nat.le_zero.mp hi;exact Int.le_refl _⟩
 | k + 1 => by
  obtain⟨h1,h2⟩:=YV f bt h k;rw[argBest.eq_2]
  by_cases hb:bt (k+1) (argBest bt k)=true
  ·rw [if_pos hb];have hb':=(h _ _).mp hb;refine⟨zj _,λi hi=>?_⟩
   by_cases e:i=k+1
   ·subst e;exact Int.le_refl _
   ·have:=h2 i q5;lia
  ·rw [if_neg hb];have hb':¬ f (argBest bt k)<f (k+1):=λz=>hb ((h _ _).mpr z)
   refine⟨q5,λi hi=>?_⟩
   by_cases e:i=k+1
   ·subst e;lia
   ·exact h2 i q5
def Vals.ints_at{ns:List Int}{us:List Value}(h:Vals (ns.map V.int) us){i:Nat}{v:Value}(e:us[i]?=some v):i<ns.length/\∃t,v=.int (ns[i]?.getD 0) t:=by
 have hl:us.length=ns.length:=by have:=h.length;simpa using this.symm
 have hi:i<ns.length:=by rw[<- hl];exact(zN.mp e).1
 refine⟨hi,?_⟩
 have e2:(ns.map V.int)[i]?=some (.int ns[i]):=by rw[zE,zk hi];rfl
 obtain⟨u,hu,r⟩:=h.get e2;rw[e] at hu;cases hu;obtain⟨t,rfl⟩:=r
 exact⟨t,by rw[zk hi];rfl⟩
section
variable {X:Cx}
def zi8(hc:X.calm=true):qd X (.builtin "max") (λxs H Q=>∃(p:Addr) (ns:List Int),xs=[.ref p]/\SqL X.K H p (ns.map V.int)/\0<ns.length/\∀M,M∈ns->(∀a∈ns,a<=M)->Q (.int M) H):=by
 intro pins s σ H xs us Q I r h;obtain⟨p,ns,rfl,hq,hn,q⟩:=h
 cases r with
 | cons r rr =>
  cases rr;cases r;obtain⟨its,rv,pl,_⟩:=I.list hq;have hl:=pl.isList
  have hlt:p<s.heap.objs.size:=by obtain⟨_,e,_⟩:=hl;exact zw e
  have hsz:its.length=ns.length:=by have:=rv.length;simpa using this.symm
  refine call_max_walk (wpAny_pyIter_list hl ⟨s.heap.objs.size,[s.heap.objs.size,p],[s.heap.objs.size],its.toArray.size,_,_,λi j=>decide (ns[j]?.getD 0<ns[i]?.getD 0),rfl,
   Walks.list (A:=X.A.in1) (I.ok.hd hc) _ p (zU hlt) _,⟨⟨_,zQ _ rfl,rfl,rfl⟩,hl.push _⟩,λb hb=>?_,?_,λi j vi vj s' Q' E' hi hj hQ=>?_,λv h' tk hP hk=>?_⟩)
  ·simp only [zd, xZ, or_false] at hb
   rcases hb with rfl |rfl
   ·simp[Heap.push]
   ·exact Nat.lt_trans hlt (by simp[Heap.push])
  ·rw[zJ,hsz];exact hn
  ·have hi' : its[i]? = some vi := by simpa using hi
   have hj':its[j]?=some vj:=by simpa using hj
   obtain⟨_,ti,rfl⟩:=rv.ints_at hi';obtain⟨_,tj,rfl⟩:=rv.ints_at hj';exact(PyProof.Rows.gt_int hQ:wpAny (model X.prog X.w) X.A.in1 (compareOp .Gt _ _) Q' E' s')
  ·have hP' : its[argBest (λi j => decide (ns[j]?.getD 0 < ns[i]?.getD 0)) (its.toArray.size - 1)]? = some v := by simpa using hP
   obtain⟨hlt2,t,rfl⟩:=rv.ints_at hP'
   obtain⟨hb1,hb2⟩:=YV (λi=>ns[i]?.getD 0) (λi j=>decide (ns[j]?.getD 0<ns[i]?.getD 0)) (λi j=>by simp) (its.toArray.size-1)
   generalize argBest (λi j=>decide (ns[j]?.getD 0<ns[i]?.getD 0)) (its.toArray.size-1)=m at *;refine⟨.int (ns[m]?.getD 0),H,I.kept (zv9 hk),⟨_,rfl⟩,q _ ?_ λa ha=>?_⟩
   ·rw[zk hlt2];exact getElem_mem hlt2
   ·obtain ⟨i, hi, rfl⟩ := List.mem_iff_getElem.mp ha
    have:=hb2 i (by rw[zJ,hsz];lia)
    rw[zk hi] at this;exact this
def zi7(hc:X.calm=true):qd X (.builtin "min") (λxs H Q=>∃(p:Addr) (ns:List Int),xs=[.ref p]/\SqL X.K H p (ns.map V.int)/\0<ns.length/\∀M,M∈ns->(∀a∈ns,M<=a)->Q (.int M) H):=by
 intro pins s σ H xs us Q I r h;obtain⟨p,ns,rfl,hq,hn,q⟩:=h
 cases r with
 | cons r rr =>
  cases rr;cases r;obtain⟨its,rv,pl,_⟩:=I.list hq;have hl:=pl.isList
  have hlt:p<s.heap.objs.size:=by obtain⟨_,e,_⟩:=hl;exact zw e
  have hsz:its.length=ns.length:=by have:=rv.length;simpa using this.symm
  refine call_min_walk (wpAny_pyIter_list hl ⟨s.heap.objs.size,[s.heap.objs.size,p],[s.heap.objs.size],its.toArray.size,_,_,λi j=>decide (ns[i]?.getD 0<ns[j]?.getD 0),rfl,
   Walks.list (A:=X.A.in1) (I.ok.hd hc) _ p (zU hlt) _,⟨⟨_,zQ _ rfl,rfl,rfl⟩,hl.push _⟩,λb hb=>?_,?_,λi j vi vj s' Q' E' hi hj hQ=>?_,λv h' tk hP hk=>?_⟩)
  ·simp only [zd, xZ, or_false] at hb
   rcases hb with rfl |rfl
   ·simp[Heap.push]
   ·exact Nat.lt_trans hlt (by simp[Heap.push])
  ·rw[zJ,hsz];exact hn
  ·have hi' : its[i]? = some vi := by simpa using hi
   have hj':its[j]?=some vj:=by simpa using hj
   obtain⟨_,ti,rfl⟩:=rv.ints_at hi';obtain⟨_,tj,rfl⟩:=rv.ints_at hj';exact(PyProof.Rows.lt_int hQ:wpAny (model X.prog X.w) X.A.in1 (compareOp .Lt _ _) Q' E' s')
  ·have hP' : its[argBest (λi j => decide (ns[i]?.getD 0 < ns[j]?.getD 0)) (its.toArray.size - 1)]? = some v := by simpa using hP
   obtain⟨hlt2,t,rfl⟩:=rv.ints_at hP'
   obtain⟨hb1,hb2⟩:=YV (λi=>- ns[i]?.getD 0) (λi j=>decide (ns[i]?.getD 0<ns[j]?.getD 0)) (λi j=>by simp) (its.toArray.size-1)
   generalize argBest (λi j=>decide (ns[i]?.getD 0<ns[j]?.getD 0)) (its.toArray.size-1)=m at *;refine⟨.int (ns[m]?.getD 0),H,I.kept (zv9 hk),⟨_,rfl⟩,q _ ?_ λa ha=>?_⟩
   ·rw[zk hlt2];exact getElem_mem hlt2
   ·obtain ⟨i, hi, rfl⟩ := List.mem_iff_getElem.mp ha
    have:=hb2 i (by rw[zJ,hsz];lia)
    rw[zk hi] at this;have e:(some ns[i]).getD 0=ns[i]:=rfl;rw[e] at this;lia
end
section
variable {A:AC}
theorem vD{K:W.Frag}{G:Option Addr}{Z:Addr->Prop}{H:Hp}:∀{bs:List Int}{ws:List V},Reps K G Z H (bs.map D.int) ws->ws=bs.map V.int
 |[],ws,h=>h.nil_inv
 |b::bs,ws,h=>by
  obtain⟨v,r,rfl,q,t⟩:=h.split;rw[q.int_inv,vD t];rfl
def zT0:List D->(D->Prop)->Prop:=λes k=>∃i j,es=[.int i,.int j]/\k (.int (if j > i then j else i))
def zS8:List D->(D->Prop)->Prop:=λes k=>∃i j,es=[.int i,.int j]/\k (.int (if j<i then j else i))
def zT1:List D->(D->Prop)->Prop:=λes k=>∃ns:List Int,es=[.lst (ns.map D.int)]/\0<ns.length/\∀M,M∈ns->(∀a∈ns,a<=M)->k (.int M)
def zS9:List D->(D->Prop)->Prop:=λes k=>∃ns:List Int,es=[.lst (ns.map D.int)]/\0<ns.length/\∀M,M∈ns->(∀a∈ns,M<=a)->k (.int M)
@[simp] theorem xd9{i j k}:zT0 [.int i,.int j] k↔k (.int (if j > i then j else i)):=⟨fun⟨_,_,e,h⟩=>by cases e;exact h,λh=>⟨_,_,rfl,h⟩⟩
@[simp] theorem xd8{i j k}:zS8 [.int i,.int j] k↔k (.int (if j<i then j else i)):=⟨fun⟨_,_,e,h⟩=>by cases e;exact h,λh=>⟨_,_,rfl,h⟩⟩
def zh6:vf A (λxs H Q=>∃i j,xs=[.int i,.int j]/\Q (.int (if j > i then j else i)) H) zT0:=by
 rintro os n rho sg H ds vs es ws k Q I rs ⟨i,j,rfl,q⟩ hQ;obtain⟨v,v',rfl,r,r'⟩:=zm2 rs
 exact⟨i,j,by rw[r.int_inv,r'.int_inv],hQ _ H _ ⟨os,I.push (Rep.ofS rfl)⟩ q⟩
def zI2:vf A (λxs H Q=>∃i j,xs=[.int i,.int j]/\Q (.int (if j<i then j else i)) H) zS8:=by
 rintro os n rho sg H ds vs es ws k Q I rs ⟨i,j,rfl,q⟩ hQ;obtain⟨v,v',rfl,r,r'⟩:=zm2 rs
 exact⟨i,j,by rw[r.int_inv,r'.int_inv],hQ _ H _ ⟨os,I.push (Rep.ofS rfl)⟩ q⟩
def zI4:vf A (λxs H Q=>∃(p:Addr) (ns:List Int),xs=[.ref p]/\SqL A.K H p (ns.map V.int)/\0<ns.length/\∀M,M∈ns->(∀a∈ns,a<=M)->Q (.int M) H) zT1:=by
 rintro os n rho sg H ds vs es ws k Q I rs ⟨ns,rfl,hn,q⟩ hQ;obtain⟨v,rfl,r⟩:=kK rs;obtain⟨a,xs,rfl,sq,rr⟩:=r.lst_inv;have e:=vD rr;subst e;exact⟨a,ns,rfl,sq.sq,hn,λM h1 h2=>hQ _ H _ ⟨os,I.push (Rep.ofS rfl)⟩ (q M h1 h2)⟩
def zI3:vf A (λxs H Q=>∃(p:Addr) (ns:List Int),xs=[.ref p]/\SqL A.K H p (ns.map V.int)/\0<ns.length/\∀M,M∈ns->(∀a∈ns,M<=a)->Q (.int M) H) zS9:=by
 rintro os n rho sg H ds vs es ws k Q I rs ⟨ns,rfl,hn,q⟩ hQ;obtain⟨v,rfl,r⟩:=kK rs;obtain⟨a,xs,rfl,sq,rr⟩:=r.lst_inv;have e:=vD rr;subst e;exact⟨a,ns,rfl,sq.sq,hn,λM h1 h2=>hQ _ H _ ⟨os,I.push (Rep.ofS rfl)⟩ (q M h1 h2)⟩
def zj3:bootBuiltins "max" = some (.builtin "max"):=w5
def zx6:bootBuiltins "min" = some (.builtin "min"):=w5
end
def US{own:Nat}{g:TGD}{tt:TBD}{te:TD}{rho:Rho}{n:Nat}{P:D->Nat->Prop}{α:Type}(enc:α->D)(keep:α->Bool)(f:α->D)(xs:List α)(hz:xs.length<=sizeLine)
  (he:∀x∈xs,∀(R:D->Nat->Prop) (S:Nat->Prop),(keep x=true->R (f x) n)->(keep x=false->S n)->g (enc x) (replicate own none++rho) λrho'=>rho'.drop own=rho/\tt rho' n λc n2=>if c=true then te rho' n2 R else S n2)
  (hP:P (.lst ((xs.filter keep).map f)) n):VM own g tt te rho P (xs.map enc) n:=by
 refine⟨by simpa using hz,λi acc n'=>n'=n/\acc=((xs.take i).filter keep).map f,⟨rfl,rfl⟩,?_,?_⟩
 ·rintro i d acc n' e ⟨rfl, rfl⟩;rw[zE] at e
  cases q:xs[i]? with
  |none=>rw[q] at e;cases e
  |some x=>
   rw[q] at e;cases e;have hm:x∈xs:=wg q
   have et:xs.take (i+1)=xs.take i++[x]:=by rw[xx,q];rfl
   refine he x hm (λe n3=>n3=n'/\((xs.take i).filter keep).map f++[e]=((xs.take (i+1)).filter keep).map f) (λn3=>n3=n'/\((xs.take i).filter keep).map f=((xs.take (i+1)).filter keep).map f) (λhk=>⟨rfl,?_⟩) (λhk=>⟨rfl,?_⟩)
   ·rw[et,List.filter_append];simp[hk]
   ·rw[et,List.filter_append];simp[hk]
 ·rintro acc n' ⟨rfl,rfl⟩;rw[zm,wA];exact hP
def qo{i:Int}{k:Nat}:okE (.int i) k=true:=by simp[okE]
def zv0(K:W.Frag):R2:=λx y H Q=>∃a b xs ys,x=.ref a/\y=.ref b/\SqT K H a xs/\SqT K H b ys/\xs.length+ys.length<=sizeLine /\
 (xs=[]->Q (.ref b) H)/\(xs≠[]->ys=[]->Q (.ref a) H)/\(xs≠[]->ys≠[]->∀p,H p=none->Q (.ref p) (upd H p (.tup (xs++ys))))
section
variable {X:Cx}
def zp1:OpR X (binaryOp .Add) (zv0 X.K):=by
 intro pins s σ H x y v u Q I rx ry h;obtain⟨a,b,xs,ys,rfl,rfl,ha,hb,hz,q0,q1,q2⟩:=h
 by_cases hx:xs=[]
 ·cases rx;cases ry;obtain⟨its,r1,p1,_⟩:=I.tuple ha;obtain⟨its2,r2,p2,_⟩:=I.tuple hb;have hi:its=[]:=r1.nil_iff.mpr hx;obtain⟨⟨cls,dd,data,sl⟩,ho,hc,n,hd⟩:=id p1;obtain⟨⟨cls2,dd2,data2,sl2⟩,ho2,hc2,n2,hd2⟩:=id p2;simp only at hc hd hc2 hd2;subst hc hd hc2 hd2
  exact PySem.concat_meets ⟨_,ho,rfl⟩ ⟨_,ho2,rfl⟩ PySem.noFill_tuple_add PySem.seq_tuple_add PySem.F.slot_tuple_add PySem.F.entry_tuple_add (PySem.F.args_tuple_add_2 _ _)
   (tuple_addW0 a b its.toArray its2.toArray n n2 dd dd2 sl sl2 (by simp[hi])) ⟨ho,ho2,⟨.ref b,H,I,rfl,q0 hx⟩⟩
 ·exact zE2 pins s σ H _ _ v u Q I rx ry ⟨a,b,xs,ys,rfl,rfl,ha,hb,hx,hz,q1 hx,q2 hx⟩
end
section
variable {A:AC}
def zu8:RD2:=λd1 d2 k=>∃es fs,d1=.tup es/\d2=.tup fs/\es.length+fs.length<=sizeLine/\k (.tup (es++fs))
@[simp] theorem zW5{es fs k}:zu8 (.tup es) (.tup fs) k↔(es.length+fs.length<=sizeLine/\k (.tup (es++fs))):=⟨fun⟨_,_,e,e',h⟩=>by cases e;cases e';exact h,λh=>⟨_,_,rfl,rfl,h⟩⟩
def zA1:qb A (zv0 A.K) zu8:=by
 rintro os n rho sg H ds vs d1 d2 v1 v2 k Q I ⟨es,fs,rfl,rfl,hz,q⟩ hQ;obtain⟨I1,r2⟩:=I.pop;obtain⟨I2,r1⟩:=I1.pop;have r1':=r1;have r2':=r2;obtain⟨a,xs,e,sq,rs⟩:=r1.tup_inv;obtain⟨b,ys,e',sq',rs'⟩:=r2.tup_inv;subst e e'
 refine⟨a,b,xs,ys,rfl,rfl,sq.sq,sq'.sq,by rw[rs.length,rs'.length];exact hz,λhx=>?_,λhx hy=>?_,λhx hy p hp=>?_⟩
 ·have he : es = [] := by have := rs.length; rw [hx] at this; exact List.eq_nil_of_length_eq_zero this.symm
  subst he;exact hQ _ H _ ⟨os,I2.push r2'⟩ q
 ·have he : fs = [] := by have := rs'.length; rw [hy] at this; exact List.eq_nil_of_length_eq_zero this.symm
  subst he;rw[xG] at q;exact hQ _ H _ ⟨os,I2.push r1'⟩ q
 ·exact hQ _ _ _ ⟨os,I2.newTup (rs.append rs') hp⟩ q
end
section
variable {A:AC}{X:Cx}{a b c e:Expr}{es:List Expr}{te ta tb tc:TD}{t1:TAD}{pos p:Pos}
def zG7(d:D)(k:Int->Prop):Prop:=∃i,d=.int i/\k i
@[simp] theorem xe3{i:Int}{k}:zG7 (.int i) k↔k i:=⟨fun⟨_,e,h⟩=>by cases e;exact h,λh=>⟨_,rfl,h⟩⟩
end
theorem kD:∀{us:List Value}{ns:List Int},IntsAre us ns->Vals (ns.map V.int) us
 |_,_,.nil=>.nil
 |_,_,.cons n t h=>.cons ⟨t,rfl⟩ (kD h)
section
variable {X:Cx}{A:AC}
def kZ:bootBuiltins "sorted" = some (.builtin "sorted"):=w5
end
def zl3{x y:Str}{px py pt:Pos}{kt k2 pt2}{a b:Expr}{env:Env}(hk:env.blockKind=.function)(hx:env.kindOf x=some .local)(hy:env.kindOf y=some .local)(hl:py.line=px.line)(hxy:x≠y)
  (hsa:qg a=false) (hsb:qg b=false) (hf:[a,b].all (foldedForSure 8)=false) (hc:[a,b].all (constantsAlone 8)=false) :
  swappedStores [.Tuple [.Name x px,.Name y py] kt pt] (.Tuple [a,b] k2 pt2) env=pure (some [x,y]):=by
 have e2:(y == x)=false:=beq_false_of_ne (Ne.symm hxy);have e:(Expr.Name x px).pos.line=px.line:=rfl;unfold swappedStores;simp[hk,hx,hy,hl,hf,hc,e,List.eraseDups,List.eraseDupsBy,List.eraseDupsBy.loop,e2];intro h
 exfalso
 rcases h with h |h
 ·cases a<;>first |(simp at h;done) |(simp[qg] at hsa;done)
 ·cases b<;>first |(simp at h;done) |(simp[qg] at hsb;done)
section
variable {A:AC}{X:Cx}{a b:Expr}{pos:Pos}
def zn3{i j:Nat}{x y:Str}{ta:TAD}{px py pt:Pos}{kt k2 pt2}(hc:X.calm=true)(hN:X.N.Nodup)(hi:X.N[i]?=some x)(hj:X.N[j]?=some y)(hij:i≠j)
  (hx:X.env.scope.names.lookup x=some .local) (hy:X.env.scope.names.lookup y=some .local) (ha:PAD A X [a,b] ta)
  (hk:X.env.blockKind=.function:=by rfl) (hl:py.line=px.line:=by rfl) (hxy:x≠y:=by decide) (hsa:qg a=false:=by rfl) (hsb:qg b=false:=by rfl) (hf:[a,b].all (foldedForSure 8)=false:=by decide +kernel) (hca:[a,b].all (constantsAlone 8)=false:=by decide +kernel) :
  PSD A X (.Assign [.Tuple [.Name x px,.Name y py] kt pt] (.Tuple [a,b] k2 pt2) pos) (zZ8 i j ta):=by
 exists 
   zB7 hc hN hi hj hij hx hy ha (zl3 hk hx hy hl hxy hsa hsb hf hca) rfl
end
def zn1{A:AC}{X:Cx}{e:Expr}{t:TBD}(h:PTD A X e t):PTs X [e] (Ua A t):=by exists zB2 h
end L2
namespace L2
open PySem PySem.Spec PyProof.Rows HT
section
variable {prog:Program}{w:World}{A:Around}{E:Value->Shared->Prop}{s:Shared}
def jx{t sl:Addr}{items:Array Value}{vl vu:Value}{lo hi:Option Int}{Q:Value->Shared->Prop}(ht:IsTup s.heap t items)(hs:s.heap.IsSliceOf sl vl vu .none)(pl:IsPart vl lo)(pu:IsPart vu hi)
  (h1:sIx items.size 0 lo=0) (h2:sIx items.size items.size hi=items.size) (h:Q (.ref t) s):wpAny (model prog w) A (getItem (.ref t) (.ref sl)) Q E s:=by
 obtain⟨os,hos,hcs,hds⟩:=id hs;have hTs:s.TypeIs (.ref sl) "slice" := ⟨os,hos,hcs⟩;unfold getItem
 try with_reducible refine wm ?_
 first |refine zb (zg ?_) |skip
 refine zb (wpAny_sequenceKey ht.typeIs q9 ?_)
 refine zb (wpAny_callSpecial?_slot (name:=Str.ofString "__getitem__") ht.typeIs PyProof.Rows.slot_tuple_getitem
  (wpAny_call_entry PyProof.Rows.slot_tuple_getitem ht.typeIs entry_tuple_getitem ?_ (args_tuple_getitem _ _)))
 show wpAny _ _ (Builtin.Tuple.tupleItemsOf (.ref t) >>= _) _ _ s;refine zb (tupleItemsOf_ ht ?_);refine zb (wpAny_typeOf hTs ?_)
 rw[if_pos q9]
 refine zb (qw hs pl pu ?_)
 have hyes:((((sIx items.size 0 lo:Nat):Int) == 0&&(1:Int) == 1&&(sIx items.size items.size hi-sIx items.size 0 lo) == items.size)=true):=by
  rw[h1,h2];simp
 show wpAny _ _ (if (((sIx items.size 0 lo:Nat):Int) == 0&&(1:Int) == 1&&(sIx items.size items.size hi-sIx items.size 0 lo) == items.size)=true then _ else _) _ _ s
 rw[if_pos hyes];obtain⟨⟨cls,dd,data,sl'⟩,ho,hc,n,hd⟩:=id ht;simp only at hc hd;subst hc hd;unfold Builtin.Tuple.tupleIsExact;obtain⟨hp,g,d,tk,os'⟩:=s
 wp_walk
 exact⟨_,rfl,zg h⟩
end
section
variable {X:Cx}
def xa6(K:W.Frag):V->Option Int->Option Int->Hp->VK->Prop:=λx lo hi H Q=>∃a xs,x=.ref a/\SqT K H a xs /\
 ((HT.sIx xs.length 0 lo=0/\HT.sIx xs.length xs.length hi=xs.length)->Q (.ref a) H)/\(¬ (HT.sIx xs.length 0 lo=0/\HT.sIx xs.length xs.length hi=xs.length)->∀p,H p=none->Q (.ref p) (upd H p (.tup (zI1 xs lo hi))))
def zz2:SlR X (xa6 X.K):=by
 intro pins s σ H x v vl vu lo hi sl Q I rx hs pl pu h;obtain⟨a,xs,rfl,hx,q1,q2⟩:=h
 by_cases hw:HT.sIx xs.length 0 lo=0/\HT.sIx xs.length xs.length hi=xs.length
 ·cases rx;obtain⟨its,r,ht,hz⟩:=I.tuple hx
  have hlen:its.toArray.size=xs.length:=by rw[zJ];exact r.length.symm
  refine⟨"tuple",_,PyProof.Rows.slot_tuple_getitem.lookup,ht.typeIs,?_⟩
  exact jx ht hs pl pu (by rw[hlen];exact hw.1) (by rw[hlen];exact hw.2) ⟨.ref a,H,I,rfl,q1 hw⟩
 ·exact zL7 pins s σ H (.ref a) v vl vu lo hi sl Q I rx hs pl pu ⟨a,xs,rfl,hx,hw,q2 hw⟩
end
abbrev TOD:=Rho->Nat->(Option Int->Nat->Prop)->Prop
def oOf(A:AC)(t:TOD):TO:=λsg H Q=>∃rho n P ds vs,Am A n rho sg H ds vs/\t rho n P/\∀o H' n',Am A n' rho sg H' ds vs->P o n'->Q o H'
@[irreducible] def POD(A:AC)(X:Cx)(e:Option Expr)(t:TOD):Prop:=PO X e (oOf A t)
def PO.imp{X:Cx}{e:Option Expr}{t t':TO}(h:PO X e t)(hi:∀sg H Q,t' sg H Q->t sg H Q):PO X e t':=λpins s sg H Q I q=>h pins s sg H Q I (hi _ _ _ q)
section
variable {A:AC}{X:Cx}{a b c e:Expr}{es:List Expr}{te ta tb tc:TD}{t1:TAD}{pos p:Pos}
def zR2:TOD:=λ_ n P=>P none n
def zR1(t:TD):TOD:=λrho n P=>t rho n λd n1=>zG7 d λi=>P (some i) n1
@[simp] theorem xd6{rho n P}:zR2 rho n P=P none n:=rfl
@[simp] theorem xd5{t rho n P}:zR1 t rho n P=t rho n λd n1=>zG7 d λi=>P (some i) n1:=rfl
def ZP:POD A X none zR2:=by
 exists zC4.imp λsg H Q h=>by
   obtain⟨rho,n,P,ds,vs,I,h,hQ⟩:=h;exact hQ none H n I h
def ZO(h:PD A X e te):POD A X (some e) (zR1 te):=by
 exists (zC3 h).imp λsg H Q h=>by
   obtain⟨rho,n,P,ds,vs,I,h,hQ⟩:=h;refine⟨rho,n,_,ds,vs,I,h,λv H' n' d ⟨os,J⟩ k=>?_⟩;obtain⟨i,rfl,k⟩:=k;obtain⟨J1,r⟩:=J.pop;exact⟨i,r.int_inv,hQ _ H' n' ⟨os,J1⟩ k⟩
def zy5(d:D)(k:List D->Prop):Prop:=∃fs,d=.tup fs/\k fs
@[simp] theorem QW{fs:List D}{k}:zy5 (.tup fs) k↔k fs:=⟨fun⟨_,e,h⟩=>by cases e;exact h,λh=>⟨_,rfl,h⟩⟩
def xn2(ta:TD)(tl th:TOD):TD:=λrho n P=>ta rho n λd n1=>tl rho n1 λlo n2=>th rho n2 λhi n3=>zy5 d λfs=>P (.tup (Qp fs lo hi)) n3
@[simp] theorem xk9{ta tl th rho n P}:xn2 ta tl th rho n P=ta rho n λd n1=>tl rho n1 λlo n2=>th rho n2 λhi n3=>zy5 d λfs=>P (.tup (Qp fs lo hi)) n3:=rfl
def zh5{fs:List D}{lo hi:Option Int}(h:HT.sIx fs.length 0 lo=0/\HT.sIx fs.length fs.length hi=fs.length):Qp fs lo hi=fs:=by
 unfold Qp;rw[h.1,h.2,yH,Nat.sub_zero,wA]
def KD{le he:Option Expr}{tl th:TOD}{p2:Pos}(hK:X.K=A.K)(ha:PD A X a ta)(hl:POD A X le tl)(hh:POD A X he th):PD A X (.Subscript a (.Slice le he none p2) pos) (xn2 ta tl th):=by
 exists (zn9 zz2 ha hl hh).imp λsg H Q h=>by
   obtain⟨rho,n,P,ds,vs,I,ht,hQ⟩:=h;refine⟨rho,n,_,ds,vs,I,ht,λv H1 n1 d J1 h1=>⟨rho,n1,_,_,_,J1,h1,λlo H2 n2 J2 h2=>⟨rho,n2,_,_,_,J2,h2,λhi H3 n3 ⟨os,J3⟩ h3=>?_⟩⟩⟩;obtain⟨fs,rfl,k⟩:=h3;obtain⟨J4,r⟩:=J3.pop;have r':=r;obtain⟨l,xs,rfl,sq,rs⟩:=r.tup_inv;rw[hK];have hlen:xs.length=fs.length:=rs.length;refine⟨l,xs,rfl,sq.sq,λhw=>?_,λhw p hp=>hQ _ _ n3 _ ⟨os,J4.newTup (zm1 rs lo hi) hp⟩ k⟩;rw[hlen] at hw;rw[zh5 hw] at k;exact hQ _ H3 n3 _ ⟨os,J4.push r'⟩ k
end
end L2
namespace L2
section
variable {A:AC}{X:Cx}{a b c e:Expr}{es:List Expr}{te ta tb tc:TD}{t1:TAD}{pos p:Pos}
end
section
variable {A:AC}{X:Cx}
end
section
variable {A:AC}{X:Cx}{pos p:Pos}
end
section
variable {A:AC}{X:Cx}{a b e:Expr}{ta tb:TD}{pos p:Pos}
end
end L2
namespace L2
open PySem PySem.Spec PyProof.Rows HT
section
variable {prog:Program}{w:World}{A:Around}{E:Value->Shared->Prop}{s:Shared}
end
section
variable {X:Cx}{e:Expr}{te:TE}{pos p2:Pos}
end
section
variable {A:AC}{X:Cx}{a:Expr}{ta:TD}{pos p2 p3 p4:Pos}
end
end L2
namespace L2
open PySem PySem.Spec PyProof.Rows PySem.W PySem.Calls PySem.NumText
section
variable {A:AC}{X:Cx}{e:Expr}{te:TD}{pos:Pos}
def zu2(tc:TBD)(tb:TSD):TSD:=λF rho n=>∃J:Nat->Rho->Nat->Prop,(∃m,J m rho n)/\∀m rho n,J m rho n->tc rho n λb n1=>if b=true then tb { F with nx:=λrho' n'=>∃m',m'<m/\J m' rho' n',ct:=λrho' n'=>∃m',m'<m/\J m' rho' n',bk:=F.nx } rho n1 else F.nx rho n1
def za3{c:Expr}{body:List Stmt}{tc:TBD}{tb:TSD}(hp:PassesOwn (model X.prog X.w) X.A X.env X.xe)(hc:PTD A X c tc)(hb:VZ A X body tb):PSD A X (.While c body [] pos) (zu2 tc tb):=by
 exists (zn5 hp hc hb).imp λE sg H h=>by
   obtain⟨rho,n,F,ds,vs,I,⟨J,⟨m0,j0⟩,turn⟩,ok⟩:=h;refine⟨λm sg H=>∃rho n,Am A n rho sg H ds vs/\J m rho n,⟨m0,rho,n,I,j0⟩,?_⟩;rintro m sg1 H1 ⟨rho1,n1,I1,j1⟩;refine⟨rho1,n1,_,ds,vs,I1,turn m rho1 n1 j1,λb H2 n2 I2 k=>?_⟩
   cases b with
   |true=>
    rw[if_pos rfl] at k ⊢;refine⟨λsg' H'=>∃m',m'<m/\∃rho n,Am A n rho sg' H' ds vs/\J m' rho n,λsg' H' ⟨m',hm,q⟩=>⟨m',hm,q⟩,rho1,n2,_,ds,vs,I2,k,?_⟩;exact⟨λrho6 n6 sg6 H6 I6 ⟨m',hm,k6⟩=>⟨m',hm,rho6,n6,I6,k6⟩,λd n6 v rho6 sg6 H6 I6 k6=>ok.rt _ _ _ _ _ _ I6 k6,λrho6 n6 sg6 H6 I6 k6=>ok.nx _ _ _ _ I6 k6,λrho6 n6 sg6 H6 I6 ⟨m',hm,k6⟩=>⟨m',hm,rho6,n6,I6,k6⟩⟩
   |false=>
    rw[if_neg zT] at k ⊢;exact ok.nx _ _ _ _ I2 k
@[simp] theorem zW1{tc tb F rho n}:zu2 tc tb F rho n=∃J:Nat->Rho->Nat->Prop,(∃m,J m rho n)/\∀m rho n,J m rho n->tc rho n λb n1=>if b=true then tb { F with nx:=λrho' n'=>∃m',m'<m/\J m' rho' n',ct:=λrho' n'=>∃m',m'<m/\J m' rho' n',bk:=F.nx } rho n1 else F.nx rho n1:=rfl
def zM5(f:Int->Int->Int)(i:Nat)(te:TD):TSD:=λF rho n=>i<rho.length/\∃a:Int,rho[i]?=some (some (.int a))/\te rho n λd n1=>∃b:Int,d=.int b/\F.nx (rho.set i (some (.int (f a b)))) n1
def zn4{i:Nat}{x:Str}{op:Operator}{f:Int->Int->Int}{pos':Pos}(ho:PIp X op (ipI f))(hN:X.N.Nodup)(hi:X.N[i]?=some x)(hx:Loc X.env.scope x)(he:PD A X e te)(hf:X.fn x=true\/X.env.scope.names.lookup x=some .local:=by first |exact .inl rfl |exact .inr rfl |assumption) :
  PSD A X (.AugAssign (.Name x pos') op e pos) (zM5 f i te):=by
 exists (zO7 hN hi hx he ho hf).imp λE sg H h=>by
   obtain⟨rho,n,F,ds,vs,⟨os,I⟩,⟨hl,a,ha,ht⟩,ok⟩:=h;obtain⟨v,e1,e2⟩:=I.slot i _ ha;have e3:=SlotR.rep (d:=.int a) rfl e2;refine⟨v,e1,rho,n,_,ds,vs,⟨os,I⟩,ht,λw H' n' d ⟨os',J⟩ k=>?_⟩;obtain⟨b,rfl,k⟩:=k;obtain⟨J1,r⟩:=J.pop;refine⟨a,b,e3.int_inv,r.int_inv,ok.nx _ _ _ _ ⟨_,AmO.set (d:=.int (f a b)) (J1.push (Rep.ofS rfl)) hl⟩ k⟩
@[simp] theorem xc3{f i te F rho n}:zM5 f i te F rho n=(i<rho.length/\∃a:Int,rho[i]?=some (some (.int a))/\te rho n λd n1=>∃b:Int,d=.int b/\F.nx (rho.set i (some (.int (f a b)))) n1):=rfl
def zu9:RD2:=λd1 d2 k=>∃x y,d1=.str x/\d2=.str y/\x.length+y.length<=sizeLine/\k (.str (x++y))
def zA2:qb A (λx y H Q=>∃i j,x=.str i/\y=.str j/\i.length+j.length<=sizeLine/\Q (.str (i++j)) H) zu9:=by
 rintro os n rho sg H ds vs d1 d2 v1 v2 k Q I ⟨x,y,rfl,rfl,hz,q⟩ hQ;obtain⟨I1,r2⟩:=I.pop;obtain⟨I2,r1⟩:=I1.pop;exact⟨x,y,r1.toS rfl,r2.toS rfl,hz,hQ _ H _ ⟨os,I2.push (Rep.ofS rfl)⟩ q⟩
@[simp] theorem zW6{x y k}:zu9 (.str x) (.str y) k↔(x.length+y.length<=sizeLine/\k (.str (x++y))):=⟨fun⟨_,_,e,e',h⟩=>by cases e;cases e';exact h,λh=>⟨_,_,rfl,rfl,h⟩⟩
def zD8:OpR X (binaryOp .Mult) (λx y H Q=>∃i n,x=.str i/\y=.int n/\MulOk i n/\Q (.str (Txt.mul i n)) H):=by
 intro pins s σ H x y v u Q I rx ry h;obtain⟨i,n,rfl,rfl,hz,q⟩:=h;obtain⟨t,rfl⟩:=rx;obtain⟨t',rfl⟩:=ry;exact SB.mul hz λt' k=>⟨.str (Txt.mul i n),H,I.tok _,⟨_,rfl⟩,q⟩
def zu7:RD2:=λd1 d2 k=>∃x i,d1=.str x/\d2=.int i/\MulOk x i/\k (.str (Txt.mul x i))
def zz8:qb A (λx y H Q=>∃i n,x=.str i/\y=.int n/\MulOk i n/\Q (.str (Txt.mul i n)) H) zu7:=by
 rintro os n rho sg H ds vs d1 d2 v1 v2 k Q I ⟨x,y,rfl,rfl,hz,q⟩ hQ;obtain⟨I1,r2⟩:=I.pop;obtain⟨I2,r1⟩:=I1.pop;exact⟨x,y,r1.toS rfl,r2.toS rfl,hz,hQ _ H _ ⟨os,I2.push (Rep.ofS rfl)⟩ q⟩
@[simp] theorem zW4{x i k}:zu7 (.str x) (.int i) k↔(MulOk x i/\k (.str (Txt.mul x i))):=⟨fun⟨_,_,e,e',h⟩=>by cases e;cases e';exact h,λh=>⟨_,_,rfl,rfl,h⟩⟩
end
def zy3{M:Model}{A:Around}{E:Value->Shared->Prop}{s:Shared}{Q:Value->Shared->Prop}{v:Value}{text:List Nat}{n:Int}
    (hs:¬ (text.takeWhile (· != 0)).length<=640) (hr:(int_private% "readNumeral") 4300 10 (text.takeWhile (· != 0))=(int_private% "Numeral.value") n)
    (ha:((text.takeWhile (· != 0)).length == text.length)=true) (hn:s.heap.NoDigits) (h:Q (.int n s.toks) { s with toks:=s.toks+1 }) :
    wpAny M A ((int_private% "intFromText") v text 10) Q E s:=by
  obtain⟨mc,hns,hnone⟩:=hn;obtain⟨hp,g,d,tk,os⟩:=s
  have hi:∀{Q:Nat->Shared->Prop},Q 4300 ⟨hp,g,d,tk,os⟩->wpAny M A Builtin.intMaxStrDigits Q E ⟨hp,g,d,tk,os⟩:=λ{Q} q=>by
    unfold Builtin.intMaxStrDigits;refine zb (wpAny_nsGet hns ?_);rw[hnone];exact zg q
  repeat (any_goals (first
    |assumption
    |(with_reducible refine wpAny_ite_false (zW hs) ?_)
    |(with_reducible refine wpAny_ite_true (xv ha) ?_)
    |(with_reducible refine hi ?_)
    |wp_step))
  all_goals (try rw[hr])
  all_goals (try dsimp only)
  repeat (any_goals (first
    |assumption
    |(with_reducible refine wpAny_ite_true (xv ha) ?_)
    |wp_step))
set_option maxHeartbeats 4000000 in
def JN{x:PySem.Str}{u:Tok}{n:Int}(hs:¬ (numSeenOf x).length<=640)(hl:x.length<=sizeLine)(hn:PySem.intText? x=some n):Meets (Builtin.«int.__new__» ⟨[.type "int",.str x u],[]⟩) (λA R s=>s.heap.NoDigits/\R (.ok (.ret (.int n s.toks))) { s with toks:=s.toks+1 }):=by
 intro prog w A R s h;obtain⟨hd,h⟩:=h;obtain⟨hp,g,d,tk,os⟩:=s;have f1:=F.conv_sub_int;have f2:=F.madeHere_int;have f3:=KIN.str_int;have f4:=KIN.str_idx;have f5:=KIN.str_trunc;have f6:typeOf (.str x u)=pure (.type "str"):=rfl
 have hr:(int_private% "readNumeral") 4300 10 (numSeenOf x)=(int_private% "Numeral.value") n/\((numSeenOf x).length == (numTextOf x).length)=true:=by
  rcases read4300 x hl with ⟨m,h1,h2,h3⟩ |⟨h1,_⟩
  ·rw[hn] at h1;injection h1 with h1;subst h1;exact⟨h3,h2⟩
  ·rw[hn] at h1;cases h1
 have hk:=KIN.Hid.mk (And.intro hs (And.intro hr hd));clear hs hr hl hn hd
 repeat (any_goals (first
  |assumption
  |((with_reducible show wpAny _ _ ((int_private% "intFromText") _ _ _) _ _ _);refine zy3 hk.out.1 hk.out.2.1.1 hk.out.2.1.2 hk.out.2.2 ?_)
  |wp_step))
def zi9{prog:Program}{w:World}{A:Around}{E:Value->Shared->Prop}{s:Shared}{Q:Value->Shared->Prop}{x:PySem.Str}{t:Tok}{n:Int}(hs:¬ (numSeenOf x).length<=640)(hl:x.length<=sizeLine)(hn:PySem.intText? x=some n)(hd:s.heap.NoDigits)(h:Q (.int n s.toks) { s with toks:=s.toks+1 }):wpAny (model prog w) A (call (.type "int") [.str x t]) Q E s:=
 call_int_1 (JN hs hl hn) ⟨hd,rfl,h⟩
section
variable {A:AC}{X:Cx}
def Wp(hd:X.base.NoDigits):qd X (.type "int") (λxs H Q=>∃x n,xs=[.str x]/\¬ (numSeenOf x).length<=640/\x.length<=sizeLine/\PySem.intText? x=some n/\Q (.int n) H):=by
 intro pins s σ H xs us Q I r h;obtain⟨x,n,rfl,h1,h2,h3,q⟩:=h;obtain⟨u,rfl,t,rfl⟩:=jG r;exact zi9 h1 h2 h3 (hd.keeps I.bk) ⟨.int n,H,I.tok _,⟨_,rfl⟩,q⟩
def xh4:List D->(D->Prop)->Prop:=λes k=>∃x n,es=[.str x]/\¬ (numSeenOf x).length<=640/\x.length<=sizeLine/\PySem.intText? x=some n/\k (.int n)
def zI5:vf A (λxs H Q=>∃x n,xs=[.str x]/\¬ (numSeenOf x).length<=640/\x.length<=sizeLine/\PySem.intText? x=some n/\Q (.int n) H) xh4:=by
 rintro os n rho sg H ds vs es ws k Q I rs ⟨x,m,rfl,h1,h2,h3,q⟩ hQ;obtain⟨v,rfl,r⟩:=kK rs
 exact⟨x,m,by rw[r.toS rfl];rfl,h1,h2,h3,hQ _ H _ ⟨os,I.push (Rep.ofS rfl)⟩ q⟩
end
theorem Ja:∀(k:Nat) (a:Array Nat),((replicate k #[48]).foldl (·++·) a).toList=a.toList++replicate k 48
  |0,a=>by simp
  | k + 1, a => by
    rw[List.replicate_succ,List.foldl_cons,Ja k,zS,wb];rfl
def YU(k:Int)(h:1<k):(Str.ofString "1" ++ Txt.mul (Str.ofString "0") k).cps.toList=49::replicate k.toNat 48:=by
 have e:(Str.ofString "0").cps=#[48]:=w5
 have e1:(Str.ofString "1").cps=#[49]:=w5
 have el:(Str.ofString "0").length=1:=w5
 unfold Txt.mul
 rw[if_neg q5,if_neg (by simp[el];lia)]
 show((Str.ofString "1").cps++_).toList=_;rw[e1,zS,e,Ja];rfl
def UL(k:Int)(h:700<k)(h2:k<4200):∃m:Int,0<m/\¬ (numSeenOf (Str.ofString "1" ++ Txt.mul (Str.ofString "0") k)).length<=640/\(Str.ofString "1" ++ Txt.mul (Str.ofString "0") k).length<=sizeLine/\PySem.intText? (Str.ofString "1" ++ Txt.mul (Str.ofString "0") k)=some m:=by
 have ec:=YU k q5
 generalize hx:Str.ofString "1" ++ Txt.mul (Str.ofString "0") k=x at *
 have hl:x.length=k.toNat+1:=by
  have:x.cps.toList.length=x.length:=zf;rw[<- this,ec];simp
 have hd:NumText.AllDigits x.cps.toList:=λc hc=>by
  rw[ec] at hc
  rcases zd.mp hc with rfl |hc
  ·lia
  ·rw[(List.mem_replicate.mp hc).2];lia
 refine⟨(NumText.digitsVal x.cps.toList:Nat),?_,?_,?_,intText_digits hd (by rw[ec];simp) q5⟩
 ·rw [ec]
  have:=NumText.digitsVal_pos (c:=49) (cs:=replicate k.toNat 48) q9
  lia
 ·rw[(numText_signs λc hc=>Or.inr (hd c hc)).2,ec];simp;lia
 ·rw[hl,sizeLine_eq];lia
def Vq(k:Int)(h:1<k)(h2:k<10000):MulOk (Str.ofString "0") k:=by
 have el:(Str.ofString "0").length=1:=w5
 refine⟨by simp;lia,λ_ _=>?_,λ_ _=>?_⟩
 ·rw [el]
  have:1<=(2^63-1:Int)/k:=(Int.le_ediv_iff_mul_le q5).mpr q5
  intro z;exact absurd z (Int.not_lt.mpr this)
 ·rw [el];unfold Builtin.Str.tooLong
  exact zW (by rw[sizeLine_eq];lia)
end L2
namespace L2
end L2
namespace L2
open PySem PySem.Spec PyProof.Rows PySem.W PySem.Calls
section
variable {X:Cx}{pos:Pos}
end
section
variable {A:AC}{X:Cx}{a b c:Expr}{pos:Pos}
end
end L2
namespace L2.Srt
open PySem PyProof.Rows
def lab(ls:Array Nat)(i:Nat):Nat:=ls.getD i 0
structure Rule(prog:Program)(w:World)(A:Around)(s:Shared)(n:Nat)(item:Nat->Keyed)(kd:SortKind)(r:Nat->Nat->Bool):Prop where
 tot:∀a b,a<n->b<n->a≠b->r a b=!r b a
 tr:∀a b c,a<n->b<n->c<n->r a b=true->r b c=true->r a c=true
 cmp:∀a b,a<n->b<n->a≠b->∀(E:Value->Shared->Prop) (Q:Bool->Shared->Prop),Q (r a b) s->wpAny (model prog w) A (keyLt' kd (item a).1 (item b).1) Q E s
def Up(r:Nat->Nat->Bool)(ls:Array Nat)(k:Nat):Prop:=∀i j,i<j->j<k->r (lab ls i) (lab ls j)=true
section
variable {n:Nat}{item:Nat->Keyed}{kd:SortKind}{r:Nat->Nat->Bool}{ls:Array Nat}{t:SortSt}
def yF{i:Nat}(h:i<ls.size):ls[i]?=some (lab ls i):=by
 unfold lab;rw[wI,wv h];rfl
def vE{as:Array Nat}{k v:Nat}(h:as[k]?=some v):lab as k=v:=by
 unfold lab;rw[wI,h];rfl
def UZ{src d:Nat}(hs:src<ls.size)(hd:d<=src){k:Nat}(hk:k<ls.size):lab (bubble ls src d) k=if k=src-d then lab ls src else if src-d<k/\k<=src then lab ls (k-1) else lab ls k:=by
 refine vE ?_;rw[getElem?_bubble hs d hd k]
 split
 ·exact yF hs
 ·split
  ·exact yF q5
  ·exact yF hk
def zI9{src d:Nat}(hs:src<ls.size)(hd:d<=src):bubble (ls.map item) src d=(bubble ls src d).map item:=by
 refine Array.ext_getElem? λk=>?_
 rw[getElem?_bubble (by simpa using hs) d hd k]
 simp only[Array.getElem?_map];rw[getElem?_bubble hs d hd k]
 split
 ·rfl
 ·split<;>rfl
def qH{i j:Nat}(hj:j<=ls.size){k:Nat}(hk:k<ls.size):lab (mirror ls i j ((j-i)/2)) k=if i<=k/\k<j then lab ls (i+j-1-k) else lab ls k:=by
 refine vE ?_;rw[getElem?_mirror_all hj k]
 split
 ·exact yF q5
 ·exact yF hk
def zF6{i j:Nat}(hj:j<=ls.size):mirror (ls.map item) i j ((j-i)/2)=(mirror ls i j ((j-i)/2)).map item:=by
 refine Array.ext_getElem? λk=>?_
 rw[getElem?_mirror_all (by simpa using hj) k]
 simp only[Array.getElem?_map];rw[getElem?_mirror_all hj k]
 split<;>rfl
end
def qM:Bool->Keyed->Array Keyed->Nat->Nat->Nat->StateT SortSt Sem (Option Nat):=sortPriv% PySem.Builtin.gallop
def vt:Nat->StateT SortSt Sem Unit:=sortPriv% PySem.Builtin.setMinGallop
def Wf:Array Keyed->Array Keyed->StateT SortSt Sem (Array Keyed):=sortPriv% PySem.Builtin.mergeLo
def Wg:Array Keyed->Array Keyed->StateT SortSt Sem (Array Keyed):=sortPriv% PySem.Builtin.mergeHi
abbrev Kt(st:SortSt)(g:Nat):SortSt:=SortSt.mk' (kindOf st) (arrOf st) (pendingOf st) g (failedOf st)
def vm(g:Nat):vt g=modify λs=>Kt s g:=rfl
def qu(left:Bool)(key:Keyed)(arr:Array Keyed)(base i:Nat):StateT SortSt Sem (Option Bool):=do
 let x <- elem' arr (base+i)
 if left then lt' x key else return (<- lt' key x).map (!·)
def JX(left:Bool)(key:Keyed)(arr:Array Keyed)(base n hint:Nat):qM left key arr base n hint=(do
 let mut lastofs:=0
 let mut ofs:=1
 let mut lo:=0
 let mut hi:=0
 let some right <- qu left key arr base hint |return none
 if right then
  let maxofs:=n-hint
  for _ in [0:n] do
   if ofs>=maxofs then break
   let some more <- qu left key arr base (hint+ofs) |return none
   if !more then break
   lastofs:=ofs
   ofs:=2*ofs+1
  lo:=hint+lastofs+1
  hi:=hint+min ofs maxofs
 else
  let maxofs:=hint+1
  for _ in [0:n] do
   if ofs>=maxofs then break
   let some found <- qu left key arr base (hint-ofs) |return none
   if found then break
   lastofs:=ofs
   ofs:=2*ofs+1
  lo:=hint+1-min ofs maxofs
  hi:=hint-lastofs
 for _ in [0:n] do
  if lo>=hi then break
  let m:=lo+(hi-lo)/2
  let some more <- qu left key arr base m |return none
  if more then lo:=m+1 else hi:=m
 return some hi):=rfl
def UG(i:Nat):mergeAt' i=(do
 let s <- get
 let (some (sa,na,power),some (sb,nb,_)):=((pendingOf s)[i]?,(pendingOf s)[i+1]?) |unsupported "internal:list.sort.pending"
 set (setPending s (((pendingOf s).setIfInBounds i (sa,na+nb,power)).eraseIdxIfInBounds (i+1)))
 let some k <- qM false (<- elem' (arrOf s) sb) (arrOf s) sa na 0 |return false
 let (sa,na):=(sa+k,na-k)
 if na == 0 then return true
 let some nb <- qM true (<- elem' (arrOf s) (sa+na-1)) (arrOf s) sb nb (nb-1) |return false
 if nb == 0 then return true
 let x:=(arrOf s).extract sa sb
 let y:=(arrOf s).extract sb (sb+nb)
 let merged <- if na<=nb then Wf x y else Wg x y
 modify λs=>setArr s (merged.toList.zipIdx.foldl (λa (p,j)=>a.setIfInBounds (sa+j) p) (arrOf s))
 return (failedOf (<- get)).isNone):=rfl
def zV9(left:Bool)(key:Keyed)(arr:Array Keyed)(base n lo0 hi0:Nat):StateT SortSt Sem (Option Nat):=do
 let mut lo:=lo0
 let mut hi:=hi0
 for _ in [0:n] do
  if lo>=hi then break
  let m:=lo+(hi-lo)/2
  let some more <- qu left key arr base m |return none
  if more then lo:=m+1 else hi:=m
 return some hi
def Ub(lo n0 nrem:Nat):StateT SortSt Sem (Option Nat):=do
 let mut n:=n0
 reverseSlice' lo (lo+n)
 for _ in [n:nrem] do
  let some smaller <- ltAt' (lo+n) (lo+n-1) |return none
  if smaller then break
  n:=n+1
 return some n
def Wn(lo n0 nrem:Nat):StateT SortSt Sem (Option Nat):=do
 let mut n:=n0
 rule "list.sort.descending-run"
 n:=n+1
 let mut neq:=0
 for _ in [n:nrem] do
  let some smaller <- ltAt' (lo+n) (lo+n-1) |return none
  if smaller then
   if neq > 0 then reverseSlice' (lo+n-(neq+1)) (lo+n)
   neq:=0
  else
   let some larger <- ltAt' (lo+n-1) (lo+n) |return none
   if larger then break
   neq:=neq+1
  n:=n+1
 if neq > 0 then reverseSlice' (lo+n-(neq+1)) (lo+n)
 reverseSlice' lo (lo+n)
 for _ in [n:nrem] do
  let some smaller <- ltAt' (lo+n) (lo+n-1) |return none
  if smaller then break
  n:=n+1
 return some n
section
variable {prog:Program}{w:World}{A:Around}{E:Value->Shared->Prop}{s:Shared}{t:SortSt}
section
variable {left:Bool}{key:Keyed}{arr:Array Keyed}{base m hint:Nat}{by':Nat->Bool}
def QO{lo hi:Nat}(hm:hi<=m)(hlo:lo<=hi)
  (hby:∀i,i<m->∀Q:Option Bool->SortSt->Prop,Q (some (by' i)) t->wpS (model prog w) A E s (qu left key arr base i) Q t)
  (anti:∀i j,i<=j->j<m->by' j=true->by' i=true) (no:∀i j,i<=j->j<m->by' i=false->by' j=false)
  (h1:∀i,i<lo->by' i=true) (h2:∀i,hi<=i->i<m->by' i=false) {Q:Option Nat->SortSt->Prop}
  (q:∀k,k<=m->(∀i,i<k->by' i=true)->(∀i,k<=i->i<m->by' i=false)->Q (some k) t) :
  wpS (model prog w) A E s (zV9 left key arr base m lo hi) Q t:=by
 unfold zV9
 refine zl (yx (wk (λx c t'=>t'=t/\∃l h,c=(none,l,h)/\l<=h/\h<=m/\h-l<=m-x/\(∀i,i<l->by' i=true)/\∀i,h<=i->i<m->by' i=false)
  (Q:=λc t'=>t'=t/\∃l,c=(none,l,l)/\l<=m/\(∀i,i<l->by' i=true)/\∀i,l<=i->i<m->by' i=false) ?_ ?_ ⟨rfl,lo,hi,rfl,hlo,hm,q5,h1,h2⟩) ?_)
 ·rintro x c t' _ hx ⟨rfl, l, h, rfl, g1, g2, g3, g4, g5⟩;dsimp only
  split
  ·rename_i hd
   obtain rfl:l=h:=q5
   exact zP ⟨rfl,l,rfl,g2,g4,g5⟩
  ·rename_i hd
   refine zl (hby _ q5 _ ?_)
   cases z:by' (l+(h-l)/2)
   ·exact zP ⟨rfl,l,_,rfl,q5,q5,q5,g4,λi i1 i2=>no _ i i1 i2 z⟩
   ·exact zP ⟨rfl,_,h,rfl,q5,q5,q5,λi i1=>anti i _ q5 q5 z,g5⟩
 ·rintro c t' ⟨rfl, l, h, rfl, g1, g2, g3, g4, g5⟩
  obtain rfl:l=h:=q5
  exact⟨rfl,l,rfl,g2,g4,g5⟩
 ·rintro c t' ⟨rfl,l,rfl,g1,g2,g3⟩;exact zP (q l g1 g2 g3)
def gal(h:hint<m)
  (hby:∀i,i<m->∀Q:Option Bool->SortSt->Prop,Q (some (by' i)) t->wpS (model prog w) A E s (qu left key arr base i) Q t)
  (anti:∀i j,i<=j->j<m->by' j=true->by' i=true) {Q:Option Nat->SortSt->Prop}
  (q:∀k,k<=m->(∀i,i<k->by' i=true)->(∀i,k<=i->i<m->by' i=false)->Q (some k) t) :
  wpS (model prog w) A E s (qM left key arr base m hint) Q t:=by
 rw[JX];refine zl (hby hint h _ ?_)
 have no:∀i j,i<=j->j<m->by' i=false->by' j=false:=λi j h1 h2 h3=>by
  cases z:by' j with
  |false=>rfl
  |true=>rw[anti i j h1 h2 z] at h3;cases h3
 cases z:by' hint
 ·simp only [xW, if_false]
  refine zl (yx (wk (λx c t'=>t'=t/\∃la ofs,c=(none,la,ofs)/\la<ofs/\x+1<=ofs/\la<=hint/\by' (hint-la)=false)
   (Q:=λc t'=>t'=t/\∃la ofs,c=(none,la,ofs)/\la<ofs/\la<=hint/\by' (hint-la)=false/\(ofs<=hint->by' (hint-ofs)=true)) ?_ ?_ ⟨rfl,0,1,rfl,q5,q5,q5,z⟩) ?_)
  ·rintro x c t' _ hx ⟨rfl, la, ofs, rfl, g1, g2, g3, g4⟩;dsimp only
   split
   ·exact zP ⟨rfl,la,ofs,rfl,g1,g3,g4,λh=>by lia⟩
   ·rename_i hd
    refine zl (hby _ q5 _ ?_)
    cases z2:by' (hint-ofs)
    ·exact zP ⟨rfl,ofs,_,rfl,q5,q5,q5,z2⟩
    ·exact zP ⟨rfl,la,ofs,rfl,g1,g3,g4,λ_=>z2⟩
  ·rintro c t' ⟨rfl, la, ofs, rfl, g1, g2, g3, g4⟩
   exact⟨rfl,la,ofs,rfl,g1,g3,g4,λh=>by lia⟩
  ·rintro c t' ⟨rfl, la, ofs, rfl, g1, g3, g4, g5⟩;show wpS (model prog w) A E s (zV9 left key arr base m (hint+1-min ofs (hint+1)) (hint-la)) Q t'
   refine QO q5 q5 hby anti no (λi hi=>?_) (λi i1 i2=>no _ i i1 i2 g4) q
   exact anti i (hint-ofs) q5 q5 (g5 q5)
 ·simp only [if_true]
  refine zl (yx (wk (λx c t'=>t'=t/\∃la ofs,c=(none,la,ofs)/\la<ofs/\x+1<=ofs/\hint+la<m/\by' (hint+la)=true)
   (Q:=λc t'=>t'=t/\∃la ofs,c=(none,la,ofs)/\la<ofs/\hint+la<m/\by' (hint+la)=true/\(hint+ofs<m->by' (hint+ofs)=false)) ?_ ?_ ⟨rfl,0,1,rfl,q5,q5,q5,z⟩) ?_)
  ·rintro x c t' _ hx ⟨rfl, la, ofs, rfl, g1, g2, g3, g4⟩;dsimp only
   split
   ·exact zP ⟨rfl,la,ofs,rfl,g1,g3,g4,λh=>by lia⟩
   ·rename_i hd
    refine zl (hby _ q5 _ ?_)
    cases z2:by' (hint+ofs)
    ·exact zP ⟨rfl,la,ofs,rfl,g1,g3,g4,λ_=>z2⟩
    ·exact zP ⟨rfl,ofs,_,rfl,q5,q5,q5,z2⟩
  ·rintro c t' ⟨rfl, la, ofs, rfl, g1, g2, g3, g4⟩
   exact⟨rfl,la,ofs,rfl,g1,g3,g4,λh=>by lia⟩
  ·rintro c t' ⟨rfl, la, ofs, rfl, g1, g3, g4, g5⟩;show wpS (model prog w) A E s (zV9 left key arr base m (hint+la+1) (hint+min ofs (m-hint))) Q t'
   refine QO q5 q5 hby anti no (λi hi=>anti i _ q5 q5 g4) (λi i1 i2=>?_) q
   exact no (hint+ofs) i q5 i2 (g5 q5)
end
end
structure WRule(prog:Program)(w:World)(A:Around)(s:Shared)(n:Nat)(item:Nat->Keyed)(kd:SortKind)(r:Nat->Nat->Bool):Prop where
 asy:∀a b,a<n->b<n->r a b=true->r b a=false
 tr:∀a b c,a<n->b<n->c<n->r b a=false->r c b=false->r c a=false
 cmp:∀a b,a<n->b<n->a≠b->∀(E:Value->Shared->Prop) (Q:Bool->Shared->Prop),Q (r a b) s->wpAny (model prog w) A (keyLt' kd (item a).1 (item b).1) Q E s
structure MI(le:Nat->Nat->Prop)(all O la lb:List Nat):Prop where
 perm:(O++(la++lb)).Perm all
 up:O.Pairwise le
 a:∀o∈O,∀x∈la,le o x
 b:∀o∈O,∀y∈lb,le o y
 sa:la.Pairwise le
 sb:lb.Pairwise le
variable {le:Nat->Nat->Prop}{all O la lb u:List Nat}
def MI.takeA(h:MI le all O (u++la) lb)(hu:∀x∈u,∀y∈lb,le x y):MI le all (O++u) la lb:=by
 have s1:=List.pairwise_append.mp h.sa
 refine⟨by simpa [wb] using h.perm,List.pairwise_append.mpr ⟨h.up,s1.1,λo ho x hx=>h.a o ho x (by simp[hx])⟩,λo ho x hx=>?_,λo ho y hy=>?_,s1.2.1,h.sb⟩
 ·rcases zI.mp ho with ho | ho
  ·exact h.a o ho x (by simp[hx])
  ·exact s1.2.2 o ho x hx
 ·rcases zI.mp ho with ho | ho
  ·exact h.b o ho y hy
  ·exact hu o ho y hy
def MI.swap(h:MI le all O la lb):MI le all O lb la:=⟨((wR).append_left O).trans h.perm,h.up,h.b,h.a,h.sb,h.sa⟩
def MI.takeB(h:MI le all O la (u++lb))(hu:∀x∈u,∀y∈la,le x y):MI le all (O++u) la lb:=(h.swap.takeA hu).swap
def MI.endA(h:MI le all O la lb)(hu:∀x∈la,∀y∈lb,le x y):(O++la++lb).Perm all/\(O++la++lb).Pairwise le:=by
 have h1:MI le all (O++la) [] lb:=MI.takeA (by rw[xG];exact h) hu
 exact⟨by simpa using h1.perm,List.pairwise_append.mpr ⟨h1.up,h1.sb,h1.b⟩⟩
def MI.endB(h:MI le all O la lb)(hu:∀x∈lb,∀y∈la,le x y):(O++lb++la).Perm all/\(O++lb++la).Pairwise le:=h.swap.endA hu
section
variable {prog:Program}{w:World}{A:Around}{E:Value->Shared->Prop}{s:Shared}{t:SortSt}{n:Nat}{item:Nat->Keyed}{kd:SortKind}{r:Nat->Nat->Bool}
def Vv(R:WRule prog w A s n item kd r)(hk:kindOf t=kd){a b:Nat}(ha:a<n)(hb:b<n)(h:a≠b){Q:Option Bool->SortSt->Prop}(q:Q (some (r a b)) t):wpS (model prog w) A E s (lt' (item a) (item b)) Q t:=by
 rw[lt'_eq];refine zl (wpS_get (zl (wpS_lift (wpAny_attempt ?_))));rw[hk];exact R.cmp a b ha hb h _ _ ⟨rfl,zP q⟩
def wV{ks:Array Nat}{i:Nat}(h:i<ks.size){Q:Keyed->SortSt->Prop}(q:Q (item (lab ks i)) t):wpS (model prog w) A E s (elem' (ks.map item) i) Q t:=by
 rw[elem'_eq,Array.getElem?_map,yF h];exact zP q
def byd(R:WRule prog w A s n item kd r)(hk:kindOf t=kd){ks:Array Nat}{left:Bool}{c base i:Nat}(hc:c<n)(hi:base+i<ks.size)(hl:lab ks (base+i)<n)(hn:c≠lab ks (base+i)){Q:Option Bool->SortSt->Prop}
  (q:Q (some (if left then r (lab ks (base+i)) c else !r c (lab ks (base+i)))) t):wpS (model prog w) A E s (qu left (item c) (ks.map item) base i) Q t:=by
 unfold qu;refine zl (wV hi ?_);cases left
 ·simp only[xW,if_false] at q ⊢;exact zl (Vv R hk hc hl hn (zP q))
 ·simp only[if_true] at q ⊢;exact Vv R hk hl hc (λe=>hn e.symm) q
structure Same(t t':SortSt):Prop where
 arr:arrOf t'=arrOf t
 kd:kindOf t'=kindOf t
 pend:pendingOf t'=pendingOf t
 ok:failedOf t'=failedOf t
def Same.rfl':Same t t:=⟨rfl,rfl,rfl,rfl⟩
def Same.gal{t':SortSt}(h:Same t t')(g:Nat):Same t (Kt t' g):=⟨h.arr,h.kd,h.pend,h.ok⟩
structure Two(n:Nat)(r:Nat->Nat->Bool)(la lb:Array Nat):Prop where
 an:∀x∈la.toList,x<n
 bn:∀x∈lb.toList,x<n
 un:∀x∈la.toList,∀y∈lb.toList,x≠y
 au:la.toList.Pairwise λx y=>r y x=false
 bu:lb.toList.Pairwise λx y=>r y x=false
structure ML(item:Nat->Keyed)(r:Nat->Nat->Bool)(la lb:Array Nat)(out:Array Keyed)(ia ib:Nat):Prop where
 o:∃O:Array Nat,out=O.map item/\MI (λx y=>r y x=false) (la.toList++lb.toList) O.toList (la.toList.drop ia) (lb.toList.drop ib)
def Good(item:Nat->Keyed)(r:Nat->Nat->Bool)(la lb:Array Nat)(out:Array Keyed):Prop:=∃M:Array Nat,out=M.map item/\M.toList.Perm (la.toList++lb.toList)/\M.toList.Pairwise λx y=>r y x=false
def qt{ks:Array Nat}{k x:Nat}:x∈ks.toList.drop k↔∃i,k<=i/\i<ks.size/\x=lab ks i:=by
 rw[List.mem_iff_getElem?]
 constructor
 ·rintro ⟨i, h⟩;rw[xV,zB] at h
  have hi:k+i<ks.size:=by
   rcases Nat.lt_or_ge (k+i) ks.size with g |g
   ·exact g
   ·rw[wN g] at h;cases h
  rw[yF hi] at h
  exact⟨k+i,q5,hi,(zy h).symm⟩
 ·rintro ⟨i, h1, h2, rfl⟩
  exact⟨i-k,by rw[xV,zB,show k+(i-k)=i by lia,yF h2]⟩
def kN{ks:Array Nat}{i:Nat}(h:i<ks.size):lab ks i∈ks.toList:=by
 have:=qt.mpr ⟨i,wT _,h,rfl⟩
 rwa [yH] at this
def ZC{ks:Array Nat}(h:ks.toList.Pairwise λx y=>r y x=false){i j:Nat}(hij:i<j)(hj:j<ks.size):r (lab ks j) (lab ks i)=false:=by
 have hi':i<ks.toList.length:=by rw[zf];lia
 have hj':j<ks.toList.length:=by rw[zf];exact hj
 have:=xD.mp h i j hi' hj' hij
 have e1:=yF (ls:=ks) (i:=i) q5
 have e2:=yF (ls:=ks) hj;rw[<- zB,zk hi'] at e1;rw[<- zB,zk hj'] at e2;rw[<- zy e1,<- zy e2];exact this
def Xy{ks:Array Nat}{i k:Nat}(h:i+k<=ks.size):ks.toList.drop i=(ks.extract i (i+k)).toList++ks.toList.drop (i+k):=by
 rw[xX,xF,show i+k-i=k by lia,<- drop_drop,wy]
def Jg{ks:Array Nat}{i:Nat}(h:i<ks.size):ks.toList.drop i=[lab ks i]++ks.toList.drop (i+1):=by
 have hi':i<ks.toList.length:=by rw[zf];exact h
 have e1:=yF (ls:=ks) h;rw[<- zB,zk hi'] at e1;rw[List.drop_eq_getElem_cons hi',zy e1];rfl
def zc6{ks:Array Nat}{i k x:Nat}(h:i+k<=ks.size)(hx:x∈(ks.extract i (i+k)).toList):∃j,j<k/\x=lab ks (i+j):=by
 rw[xX,xF,show i+k-i=k by lia,List.mem_iff_getElem?] at hx
 obtain⟨j,hj⟩:=hx;rw[yn] at hj
 split at hj
 ·rename_i g
  rw[xV,zB,yF q5] at hj
  exact⟨j,g,(zy hj).symm⟩
 ·cases hj
section
variable {la lb:Array Nat}{out:Array Keyed}{ia ib:Nat}
def Two.al(T:Two n r la lb){i:Nat}(h:i<la.size):lab la i<n:=T.an _ (kN h)
def Two.bl(T:Two n r la lb){i:Nat}(h:i<lb.size):lab lb i<n:=T.bn _ (kN h)
def Two.ne(T:Two n r la lb){i j:Nat}(h:i<la.size)(g:j<lb.size):lab la i≠lab lb j:=T.un _ (kN h) _ (kN g)
def Two.symm(T:Two n r la lb):Two n r lb la:=⟨T.bn,T.an,λx hx y hy e=>T.un y hy x hx e.symm,T.bu,T.au⟩
def Two.hd(R:WRule prog w A s n item kd r)(T:Two n r la lb){c:Nat}(hc:c<n)(h:ia<la.size)(g:r (lab la ia) c=false):∀x∈la.toList.drop ia,r x c=false:=λx hx=>by
 obtain⟨i,h1,h2,rfl⟩:=qt.mp hx
 by_cases e:i=ia
 ·rw[e];exact g
 ·exact R.tr _ _ _ hc (T.al h) (T.al h2) g (ZC T.au q5 h2)
def ML.pushA(M:ML item r la lb out ia ib)(h:ia<la.size)(g:∀y∈lb.toList.drop ib,r y (lab la ia)=false):ML item r la lb (out.push (item (lab la ia))) (ia+1) ib:=by
 obtain⟨O,rfl,m⟩:=M.o;rw[Jg h] at m
 refine⟨O.push (lab la ia),by rw[Array.map_push],?_⟩
 rw[yC]
 exact m.takeA λx hx y hy=>by rw[zq.mp hx];exact g y hy
def ML.pushB(M:ML item r la lb out ia ib)(h:ib<lb.size)(g:∀y∈la.toList.drop ia,r y (lab lb ib)=false):ML item r la lb (out.push (item (lab lb ib))) ia (ib+1):=by
 obtain⟨O,rfl,m⟩:=M.o;rw[Jg h] at m
 refine⟨O.push (lab lb ib),by rw[Array.map_push],?_⟩
 rw[yC]
 exact m.takeB λx hx y hy=>by rw[zq.mp hx];exact g y hy
def ML.addA(M:ML item r la lb out ia ib){k:Nat}(h:ia+k<=la.size)(g:∀j,j<k->∀y∈lb.toList.drop ib,r y (lab la (ia+j))=false):ML item r la lb (out++(la.map item).extract ia (ia+k)) (ia+k) ib:=by
 obtain⟨O,rfl,m⟩:=M.o;rw[Xy h] at m
 refine⟨O++la.extract ia (ia+k),by rw[xO,xq],?_⟩
 rw[zS]
 exact m.takeA λx hx y hy=>by obtain⟨j,hj,rfl⟩:=zc6 h hx;exact g j hj y hy
def ML.addB(M:ML item r la lb out ia ib){k:Nat}(h:ib+k<=lb.size)(g:∀j,j<k->∀y∈la.toList.drop ia,r y (lab lb (ib+j))=false):ML item r la lb (out++(lb.map item).extract ib (ib+k)) ia (ib+k):=by
 obtain⟨O,rfl,m⟩:=M.o;rw[Xy h] at m
 refine⟨O++lb.extract ib (ib+k),by rw[xO,xq],?_⟩
 rw[zS]
 exact m.takeB λx hx y hy=>by obtain⟨j,hj,rfl⟩:=zc6 h hx;exact g j hj y hy
def qN{ks:Array Nat}{i:Nat}:(ks.extract i ks.size).toList=ks.toList.drop i:=by
 rw[xX,xF]
 exact yj (by rw[wB,zf];exact zj _)
def ML.done(M:ML item r la lb out ia ib)(g:∀x∈la.toList.drop ia,∀y∈lb.toList.drop ib,r y x=false):Good item r la lb (out++(la.map item).extract ia la.size++(lb.map item).extract ib lb.size):=by
 obtain⟨O,rfl,m⟩:=M.o;obtain⟨p1,p2⟩:=m.endA g
 refine⟨O++la.extract ia la.size++lb.extract ib lb.size,by rw[xO,xO,xq,xq],?_,?_⟩
 ·rw[zS,zS,qN,qN];exact p1
 ·rw[zS,zS,qN,qN];exact p2
def ML.last(M:ML item r la lb out ia ib)(g:∀x∈lb.toList.drop ib,∀y∈la.toList.drop ia,r y x=false):Good item r la lb (out++(lb.map item).extract ib lb.size++(la.map item).extract ia la.size):=by
 obtain⟨O,rfl,m⟩:=M.o;obtain⟨p1,p2⟩:=m.endB g
 refine⟨O++lb.extract ib lb.size++la.extract ia la.size,by rw[xO,xO,xq,xq],?_,?_⟩
 ·rw[zS,zS,qN,qN];exact p1
 ·rw[zS,zS,qN,qN];exact p2
def ML.doneB(M:ML item r la lb out ia ib)(h:lb.size<=ib):Good item r la lb (out++(la.map item).extract ia la.size++(lb.map item).extract ib lb.size):=
 M.done λx _ y hy=>by obtain⟨i,h1,h2,_⟩:=qt.mp hy;lia
def ML.doneA(M:ML item r la lb out ia ib)(h:la.size<=ia):Good item r la lb (out++(la.map item).extract ia la.size++(lb.map item).extract ib lb.size):=
 M.done λx hx y _=>by obtain⟨i,h1,h2,_⟩:=qt.mp hx;lia
def ML.lastA(R:WRule prog w A s n item kd r)(T:Two n r la lb)(h2:∀y∈lb.toList,r y (lab la (la.size-1))=true)(M:ML item r la lb out ia ib)(h:ia+1=la.size):Good item r la lb (out++(lb.map item).extract ib lb.size++(la.map item).extract ia la.size):=
 M.last λx hx y hy=>by
  obtain⟨i,i1,i2,rfl⟩:=qt.mp hx;obtain⟨j,j1,j2,rfl⟩:=qt.mp hy
  obtain rfl:j=la.size-1:=q5
  exact R.asy _ _ (T.bl i2) (T.al j2) (h2 _ (kN i2))
end
end
end L2.Srt
set_option maxHeartbeats 1000000
namespace L2.Srt
open PySem PyProof.Rows
abbrev Sn(γ:Type):=Option (Array Keyed) × γ
abbrev SM:=StateT SortSt Sem
abbrev Fn(γ:Type):=ForInStep (Sn γ)
abbrev Tn:=Array Keyed × Nat × Nat × Nat × Nat
abbrev Un:=Array Keyed × Nat × Nat × Nat × Nat × Nat
abbrev Vn:=Array Keyed × Nat × Nat × Nat
def ZH{γ:Type}(o:Array Keyed)(x:γ):SM (Fn γ):=(pure (ForInStep.done (some o,x)):SM _)
def zJ1{γ:Type}(x:γ):SM (Fn γ):=(pure (ForInStep.done (none,x)):SM _)
def zq3{γ:Type}(x:γ):SM (Fn γ):=(pure (ForInStep.yield (none,x)):SM _)
section
variable (a b:Array Keyed)
def eA(o:Array Keyed)(i j:Nat):Array Keyed:=o++a.extract i++b.extract j
def eB(o:Array Keyed)(i j:Nat):Array Keyed:=o++b.extract j++a.extract i
def l1a(g c d:Nat)(o:Array Keyed)(i j:Nat):SM (Fn Tn):=if (i+1 == a.size)=true then ZH (eB a b o i j) (o,i,j,c,d) else if c>=g then zJ1 (o,i,j,c,d) else zq3 (o,i,j,c,d)
def l1b(g c d:Nat)(o:Array Keyed)(i j:Nat):SM (Fn Tn):=if (j == b.size)=true then ZH (eA a b o i j) (o,i,j,c,d) else if d>=g then zJ1 (o,i,j,c,d) else zq3 (o,i,j,c,d)
def l1(g c d:Nat)(o:Array Keyed)(i j:Nat):SM (Fn Tn):=elem' b j >>= λy=>elem' a i >>= λx=>lt' y x >>= λw=>match w with
 |some w=>if w=true then elem' b j >>= λz=>l1b a b g 0 (d+1) (o.push z) i (j+1) else elem' a i >>= λz=>l1a a b g (c+1) 0 (o.push z) (i+1) j
 |_=>ZH (eA a b o i j) (o,i,j,c,d)
def l4(g c d:Nat)(o:Array Keyed)(i j:Nat):SM (Fn Un):=elem' a i >>= λx=>if (i+1+1 == a.size)=true then ZH (eB a b (o.push x) (i+1) j) (o.push x,i+1,j,g,c,d)
 else if (decide (c<7)&&decide (d<7))=true then zJ1 (o.push x,i+1,j,g,c,d) else zq3 (o.push x,i+1,j,g,c,d)
def l3b(g c d k:Nat)(o:Array Keyed)(i j:Nat):SM (Fn Un):=if k > 0 then
  if (j+k == b.size)=true then ZH (eA a b (o++b.extract j (j+k)) i (j+k)) (o++b.extract j (j+k),i,j+k,g,c,k) else l4 a b g c k (o++b.extract j (j+k)) i (j+k)
 else l4 a b g c k o i j
def l3(g c d:Nat)(o:Array Keyed)(i j:Nat):SM (Fn Un):=elem' b j >>= λy=>if (j+1 == b.size)=true then ZH (eA a b (o.push y) i (j+1)) (o.push y,i,j+1,g,c,d)
 else elem' a i >>= λx=>qM true x b (j+1) (b.size-(j+1)) 0 >>= λk=>match k with
  |some k=>l3b a b g c d k (o.push y) i (j+1)
  |_=>ZH (eA a b (o.push y) i (j+1)) (o.push y,i,j+1,g,c,d)
def l2b(g d k:Nat)(o:Array Keyed)(i j:Nat):SM (Fn Un):=if k > 0 then
  if (i+k+1 == a.size)=true then ZH (eB a b (o++a.extract i (i+k)) (i+k) j) (o++a.extract i (i+k),i+k,j,g,k,d)
  else if (i+k == a.size)=true then ZH (eA a b (o++a.extract i (i+k)) (i+k) j) (o++a.extract i (i+k),i+k,j,g,k,d)
  else l3 a b g k d (o++a.extract i (i+k)) (i+k) j
 else l3 a b g k d o i j
def l2(c d:Nat)(o:Array Keyed)(i j g:Nat):SM (Fn Un):=vt g >>= λ_=>elem' b j >>= λy=>qM false y a i (a.size-i) 0 >>= λk=>match k with
 |some k=>l2b a b g d k o i j
 |_=>ZH (eA a b o i j) (o,i,j,g,c,d)
def l2u(u:Un):SM (Fn Un):=if u.2.2.2.1 > 1 then l2 a b u.2.2.2.2.1 u.2.2.2.2.2 u.1 u.2.1 u.2.2.1 (u.2.2.2.1-1) else l2 a b u.2.2.2.2.1 u.2.2.2.2.2 u.1 u.2.1 u.2.2.1 u.2.2.2.1
def l5(s:Sn Un):SM (Fn Vn):=match s.1 with
 |some r=>ZH r (s.2.1,s.2.2.1,s.2.2.2.1,s.2.2.2.2.1)
 |none=>vt (s.2.2.2.2.1+1) >>= λ_=>zq3 (s.2.1,s.2.2.1,s.2.2.2.1,s.2.2.2.2.1+1)
def l6(g:Nat)(s:Sn Tn):SM (Fn Vn):=match s.1 with
 |some r=>ZH r (s.2.1,s.2.2.1,s.2.2.2.1,g)
 |none=>(rule "list.sort.gallop" : SM Unit) >>= λ_=>forIn [0:a.size+b.size] ((none,s.2.1,s.2.2.1,s.2.2.2.1,g+1,s.2.2.2.2.1,s.2.2.2.2.2):Sn Un) (λ_ u=>l2u a b u.2) >>= λu=>l5 u
def l1t(g:Nat)(s:Tn):SM (Fn Tn):=l1 a b g s.2.2.2.1 s.2.2.2.2 s.1 s.2.1 s.2.2.1
def l7(v:Vn):SM (Fn Vn):=forIn [0:a.size+b.size] ((none,v.1,v.2.1,v.2.2.1,0,0):Sn Tn) (λ_ s=>l1t a b v.2.2.2 s.2) >>= λs=>l6 a b v.2.2.2 s
def zK4{γ:Type}(v:Sn γ):SM (Array Keyed):=match v.1 with
 |some r=>pure r
 |none=>unsupported "internal:list.sort.merge-bound"
def l8:SM (Array Keyed):=(rule "list.sort.merge-lo" : SM Unit) >>= λ_=>elem' b 0 >>= λy=>if (1 == b.size)=true then pure (eA a b #[y] 0 1)
 else if (0+1 == a.size)=true then pure (eB a b #[y] 0 1)
 else get >>= λst=>forIn [0:a.size+b.size] ((none,#[y],0,1,gallopOf st):Sn Vn) (λ_ v=>l7 a b v.2) >>= λv=>zK4 v
theorem Vr:Wf a b=l8 a b:=by
 show bind _ _=bind _ _
 congr 1;funext x;dsimp only
 congr 1;funext y
 by_cases e:(1 == b.size)=true
 ·rw[if_pos e,if_pos e];rfl
 rw[if_neg e,if_neg e]
 by_cases e1:(0+1 == a.size)=true
 ·rw[if_pos e1,if_pos e1];rfl
 rw[if_neg e1,if_neg e1]
 congr 1;funext st
 congr 1
 ·congr 1
  funext x v
  unfold l7
  congr 1
  funext s
  unfold l6;cases s.1
  ·dsimp only
   congr 1;funext x
   congr 1
   funext u
   unfold l5
   cases u.1<;>rfl
  ·rfl
 ·funext v
  unfold zK4
  cases v.1<;>rfl
end
section
variable {prog:Program}{w:World}{A:Around}{E:Value->Shared->Prop}{s:Shared}{t u:SortSt}{n:Nat}{item:Nat->Keyed}{kd:SortKind}{r:Nat->Nat->Bool}{la lb:Array Nat}{N c d g i j k:Nat}{o:Array Keyed}
def wr{α:Type}{c:Prop}[Decidable c]{m1 m2:StateT SortSt Sem α}{Q:α->SortSt->Prop}(h1:c->wpS (model prog w) A E s m1 Q t)(h2:¬c->wpS (model prog w) A E s m2 Q t):wpS (model prog w) A E s (if c then m1 else m2) Q t:=by
 by_cases h:c
 ·rw[if_pos h];exact h1 h
 ·rw[if_neg h];exact h2 h
def yX{a b:Nat}(h:(a == b)=true):a=b:=by simpa using h
def vp{a b:Nat}(h:¬(a == b)=true):a≠b:=by simpa using h
def Same.tr{v:SortSt}(h:Same t u)(g:Same u v):Same t v:=⟨g.arr.trans h.arr,g.kd.trans h.kd,g.pend.trans h.pend,g.ok.trans h.ok⟩
section
variable {γ:Type}{P:Nat->γ->Prop}{G:Array Keyed->Prop}{b:Prop}
structure Lq(P:Nat->γ->Prop)(G:Array Keyed->Prop)(b:Prop)(Q:ForInStep (Sn γ)->SortSt->Prop)(N:Nat)(t:SortSt):Prop where
 ok:∀o x u,Same t u->G o->Q (.done (some o,x)) u
 dn:b->∀x u N',Same t u->P N' x->N'<N->Q (.done (none,x)) u
 nx:∀x u N',Same t u->P N' x->N'<N->Q (.yield (none,x)) u
def Le(P:Nat->γ->Prop)(G:Array Keyed->Prop)(b:Prop)(N:Nat)(v:Sn γ):Prop:=(∃o,v.1=some o/\G o)\/b/\v.1=none/\∃N'<N,P N' v.2
def vB{Q:ForInStep (Sn γ)->SortSt->Prop}{x:γ}(q:Lq P G b Q N t)(S:Same t u)(h:G o):wpS (model prog w) A E s (ZH o x) Q u:=zP (q.ok _ _ _ S h)
def Jr{Q:ForInStep (Sn γ)->SortSt->Prop}{x:γ}{N':Nat}{c:Prop}[Decidable c](q:Lq P G True Q N t)(S:Same t u)(h:P N' x)(hN:N'<N):wpS (model prog w) A E s (if c then zJ1 x else zq3 x) Q u:=
 wr (λ_=>zP (q.dn trivial _ _ _ S h hN)) λ_=>zP (q.nx _ _ _ S h hN)
def Zn(b:Prop){m:Nat}{f:γ->SM (Fn γ)}{v:γ}{Q:Sn γ->SortSt->Prop}(hP:∀N x,P N x->1<=N)(hm:N<m)(hv:P N v)
  (hf:∀v u Q N',Same t u->P N' v->N'<=N->Lq P G b Q N' u->wpS (model prog w) A E s (f v) Q u) (ne:∀v u,Same t u->Le P G b N v->Q v u) :
  wpS (model prog w) A E s (forIn [0:m] ((none,v):Sn γ) λ_ v=>f v.2) Q t:=by
 refine yx (wk (λx v u=>Same t u/\v.1=none/\∃N',N'+x<=N/\P N' v.2) (Q:=λv u=>Same t u/\Le P G b N v) ?_ ?_ ⟨.rfl',rfl,N,zj _,hv⟩) λv u h=>ne v u h.1 h.2
 ·rintro x v u _ hx ⟨S, _, N', hN', h⟩
  have e1:N'<=N:=q5
  have e3:∀y,y<N'->y+(x+1)<=N:=λy h=>by lia
  exact hf v.2 u _ N' S h e1 ⟨λo x u' h G=>⟨S.tr h,.inl ⟨o,rfl,G⟩⟩,λhb x u' N2 h p hl=>⟨S.tr h,.inr ⟨hb,rfl,N2,zR hl e1,p⟩⟩,λx u' N2 h p hl=>⟨S.tr h,rfl,N2,e3 _ hl,p⟩⟩
 ·rintro v u ⟨S, _, N', hN', h⟩;have:=hP _ _ h
  exfalso;lia
end
structure Lo(prog:Program)(w:World)(A:Around)(s:Shared)(n:Nat)(item:Nat->Keyed)(kd:SortKind)(r:Nat->Nat->Bool)(la lb:Array Nat):Prop where
 R:WRule prog w A s n item kd r
 T:Two n r la lb
 h1:r (lab lb 0) (lab la 0)=true
 h2:∀y∈lb.toList,r y (lab la (la.size-1))=true
structure PL(item:Nat->Keyed)(r:Nat->Nat->Bool)(la lb:Array Nat)(N:Nat)(o:Array Keyed)(i j:Nat):Prop where
 M:ML item r la lb o i j
 hi:i+1<la.size
 hj:j<lb.size
 hN:la.size-i+(lb.size-j)<=N
abbrev PLx{β:Type}(item:Nat->Keyed)(r:Nat->Nat->Bool)(la lb:Array Nat)(N:Nat)(x:Array Keyed × Nat × Nat × β):Prop:=PL item r la lb N x.1 x.2.1 x.2.2.1
abbrev QL{β:Type}(item:Nat->Keyed)(r:Nat->Nat->Bool)(la lb:Array Nat)(b:Prop)(Q:ForInStep (Sn (Array Keyed × Nat × Nat × β))->SortSt->Prop)(N:Nat)(t:SortSt):Prop:=Lq (PLx item r la lb) (Good item r la lb) b Q N t
def PL.pos{β:Type}(N:Nat)(x:Array Keyed × Nat × Nat × β)(h:PLx item r la lb N x):1<=N:=by have:=h.hN;have:=h.hi;lia
def PL.i0(p:PL item r la lb N o i j):i<la.size:=yB p.hi
def ML.eA(M:ML item r la lb o i j)(h:lb.size<=j\/la.size<=i):Good item r la lb (eA (la.map item) (lb.map item) o i j):=by
 unfold Srt.eA;rw[zK,zK];exact h.elim M.doneB M.doneA
variable (L:Lo prog w A s n item kd r la lb)
include L
theorem Lo.fa(hi:i<la.size)(hj:j<lb.size)(g:r (lab lb j) (lab la i)=false):∀y∈lb.toList.drop j,r y (lab la i)=false:=L.T.symm.hd L.R (L.T.al hi) hj g
theorem Lo.fb(hi:i<la.size)(hj:j<lb.size)(g:r (lab lb j) (lab la i)=true):∀y∈la.toList.drop i,r y (lab lb j)=false:=L.T.hd L.R (L.T.bl hj) hi (L.R.asy _ _ (L.T.bl hj) (L.T.al hi) g)
theorem Lo.eB(M:ML item r la lb o i j)(h:i+1=la.size):Good item r la lb (eB (la.map item) (lb.map item) o i j):=by
 unfold Srt.eB;rw[zK,zK];exact M.lastA L.R L.T L.h2 h
section
variable {Q:ForInStep (Sn Tn)->SortSt->Prop}
theorem Lo.l1(hk:kindOf t=kd)(q:QL item r la lb True Q N t)(p:PL item r la lb N o i j):wpS (model prog w) A E s (l1 (la.map item) (lb.map item) g c d o i j) Q t:=by
 obtain⟨M,hi,hj,hN⟩:=p;have hi0:=yB hi;refine zl (wV hj (zl (wV hi0 (zl (Vv L.R hk (L.T.bl hj) (L.T.al hi0) (λe=>L.T.ne hi0 hj e.symm) ?_)))));cases z:r (lab lb j) (lab la i)
 ·refine zl (wV hi0 (wr (λe => vB q .rfl' (L.eB (M.pushA hi0 (L.fa hi0 hj z)) ?_)) λe => Jr q .rfl' (N' := la.size - (i + 1) + (lb.size - j)) ⟨M.pushA hi0 (L.fa hi0 hj z), ?_, hj, zj _⟩ ?_))
  ·rw[zK] at e;exact yX e
  ·rw[zK] at e;have:=vp e;exact wd hi this
  ·lia
 ·refine zl (wV hj (wr (λe => vB q .rfl' ((M.pushB hj (L.fb hi0 hj z)).eA (.inl ?_))) λe => Jr q .rfl' (N' := la.size - i + (lb.size - (j + 1))) ⟨M.pushB hj (L.fb hi0 hj z), hi, ?_, zj _⟩ ?_))
  ·rw[zK] at e;exact yl (yX e).symm
  ·rw[zK] at e;exact wd hj (vp e)
  ·lia
end
section
variable {Q:ForInStep (Sn Un)->SortSt->Prop} (q:QL item r la lb True Q N t) (S:Same t u)
include q S
theorem Lo.l4(p:PL item r la lb N o i j)(z:r (lab lb j) (lab la i)=false):wpS (model prog w) A E s (l4 (la.map item) (lb.map item) g c d o i j) Q u:=by
 obtain⟨M,hi,hj,hN⟩:=p;have hi0:=yB hi;refine zl (wV hi0 ?_);have M1:=M.pushA hi0 (L.fa hi0 hj z);rw[zK]
 exact wr (λe=>vB q S (L.eB M1 (yX e))) λe=>Jr q S (N':=la.size-(i+1)+(lb.size-j)) ⟨M1,wd hi (vp e),hj,zj _⟩ q5
theorem Lo.l3b(p:PL item r la lb N o i j)(hk:k<=lb.size-j)(g5:∀i',i'<k->r (lab lb (j+i')) (lab la i)=true)(g6:∀i',k<=i'->i'<lb.size-j->r (lab lb (j+i')) (lab la i)=false) :
  wpS (model prog w) A E s (l3b (la.map item) (lb.map item) g c d k o i j) Q u:=by
 obtain⟨M,hi,hj,hN⟩:=p
 refine wr (λ_=>?_) λ_=>L.l4 q S ⟨M,hi,hj,hN⟩ (g6 0 q5 q5)
 have hk':j+k<=lb.size:=q5
 have M1:=M.addB hk' λi' h=>L.fb (yB hi) (j:=j+i') q5 (g5 i' h)
 rw[zK];refine wr (λe=>vB q S (M1.eA (.inl (yl (yX e).symm)))) λe=>?_;have hj':j+k<lb.size:=wd hk' (vp e)
 exact L.l4 q S ⟨M1,hi,hj',q5⟩ (g6 k (zj _) q5)
theorem Lo.l3(hk:kindOf t=kd)(p:PL item r la lb N o i j)(z:r (lab lb j) (lab la i)=true):wpS (model prog w) A E s (l3 (la.map item) (lb.map item) g c d o i j) Q u:=by
 obtain⟨M,hi,hj,hN⟩:=p;have hi0:=yB hi;refine zl (wV hj ?_);have M1:=M.pushB hj (L.fb hi0 hj z);rw[zK];refine wr (λe=>vB q S (M1.eA (.inl (yl (yX e).symm)))) λe=>?_;have hj':j+1<lb.size:=wd hj (vp e)
 refine zl (wV hi0 (zl (gal (m:=lb.size-(j+1)) (by':=λi'=>r (lab lb (j+1+i')) (lab la i)) (Nat.sub_pos_of_lt hj') (λi' h Q qq=>?_) (λi' j' h1 h2 hb=>?_) λk h g5 g6=>L.l3b q S ⟨M1,hi,hj',q5⟩ h g5 g6)))
 ·exact byd L.R (S.kd.trans hk) (L.T.al hi0) q5 (L.T.bl q5) (L.T.ne hi0 q5) (by simpa using qq)
 ·by_cases e : i' = j'
  ·rw[e];exact hb
  ·cases z : r (lab lb (j + 1 + i')) (lab la i) with
   |true=>rfl
   |false=>exact absurd hb (by rw[L.R.tr _ _ _ (L.T.al hi0) (L.T.bl (i:=j+1+i') q5) (L.T.bl (i:=j+1+j') q5) z (ZC L.T.bu q5 q5)];exact zT)
theorem Lo.l2b(hk:kindOf t=kd)(p:PL item r la lb N o i j)(hk':k<=la.size-i)(g1:∀i',i'<k->r (lab lb j) (lab la (i+i'))=false)(g2:∀i',k<=i'->i'<la.size-i->r (lab lb j) (lab la (i+i'))=true) :
  wpS (model prog w) A E s (l2b (la.map item) (lb.map item) g d k o i j) Q u:=by
 obtain⟨M,hi,hj,hN⟩:=p
 refine wr (λ_=>?_) λ_=>L.l3 q S hk ⟨M,hi,hj,hN⟩ (g2 0 q5 q5)
 have hk2:i+k<=la.size:=q5
 have M1:=M.addA hk2 λi' h=>L.fa (i:=i+i') q5 hj (g1 i' h)
 rw[zK];refine wr (λe=>vB q S (L.eB M1 (yX e))) λe=>wr (λe=>vB q S (M1.eA (.inr (yl (yX e).symm)))) λe2=>?_
 have h3:i+k+1<la.size:=by have:=vp e;have:=vp e2;lia
 exact L.l3 q S hk ⟨M1,h3,hj,q5⟩ (g2 k (zj _) q5)
theorem Lo.l2(hk:kindOf t=kd)(p:PL item r la lb N o i j):wpS (model prog w) A E s (l2 (la.map item) (lb.map item) c d o i j g) Q u:=by
 have hi:=p.i0;have hj:=p.hj;unfold Srt.l2;rw[vm,zK];refine zl (yh ?_);have S4:=S.gal g;generalize Kt u g=u at S4 ⊢
 refine zl (wV hj (zl (gal (m:=la.size-i) (by':=λi'=>!r (lab lb j) (lab la (i+i'))) (Nat.sub_pos_of_lt hi) (λi' h Q qq=>?_) (λi' j' h1 h2 hb=>?_) λk h g5 g6=>L.l2b q S4 hk p h (λi' h=>by simpa using g5 i' h) λi' h h'=>by simpa using g6 i' h h')))
 ·exact byd L.R (S4.kd.trans hk) (L.T.bl hj) q5 (L.T.al q5) (λe=>L.T.ne q5 hj e.symm) (by simpa using qq)
 ·by_cases e : i' = j'
  ·rw[e];exact hb
  ·show (!r (lab lb j) (lab la (i + i'))) = true
   rw[L.R.tr _ _ _ (L.T.al (i:=i+i') q5) (L.T.al (i:=i+j') q5) (L.T.bl hj) (ZC L.T.au q5 q5) (by simpa using hb)];rfl
end
theorem Lo.l7{b:Prop}{Q:ForInStep (Sn Vn)->SortSt->Prop}{v:Vn}(hk:kindOf t=kd)(q:QL item r la lb b Q N t)(p:PLx item r la lb N v)(hN:N<la.size+lb.size):wpS (model prog w) A E s (l7 (la.map item) (lb.map item) v) Q t:=by
 unfold Srt.l7;rw[zK,zK];refine zl (Zn (P:=PLx item r la lb) (G:=Good item r la lb) True PL.pos hN p (λv u Q N' S h _ q'=>L.l1 (S.kd.trans hk) q' h) λv u S h=>?_);unfold l6
 rcases h with ⟨o,e,G⟩ |⟨_,e,N',h,h'⟩
 ·rw[e];exact vB q S G
 rw[e,zK,zK];refine zl (wpS_lift (yi ⟨rfl,zl (Zn (P:=PLx item r la lb) (G:=Good item r la lb) True PL.pos (Nat.lt_trans h hN) h' (λv u' Q N' S' h' _ q'=>?_) λv u' S' h2=>?_)⟩))
 ·have hk':=(S.tr S').kd.trans hk;exact wr (λ_=>L.l2 q' .rfl' hk' h') λ_=>L.l2 q' .rfl' hk' h'
 ·unfold l5
  rcases h2 with ⟨o,e,G⟩ |⟨_,e,N2,h2,h3⟩
  ·rw[e];exact vB q (S.tr S') G
  ·rw[e,vm];exact zl (yh (zP (q.nx _ _ _ ((S.tr S').gal _) h3 (Nat.lt_trans h2 h))))
theorem mlo(hk:kindOf t=kd)(ha:1<=la.size)(hb:1<=lb.size){Q:Array Keyed->SortSt->Prop}(q:∀out t',Same t t'->Good item r la lb out->Q out t'):wpS (model prog w) A E s (Wf (la.map item) (lb.map item)) Q t:=by
 rw[Vr];unfold l8;refine zl (wpS_lift (yi ⟨rfl,zl (wV hb ?_)⟩));rw[zK,zK]
 have M0:ML item r la lb #[] 0 0:=⟨#[],by simp,by
  simp only[yH]
  exact⟨List.Perm.refl _,.nil,by simp,by simp,L.T.au,L.T.bu⟩⟩
 have M1:=M0.pushB hb (L.fb ha hb L.h1);change ML item r la lb #[item (lab lb 0)] 0 1 at M1;generalize #[item (lab lb 0)]=o at M1 ⊢;refine wr (λe=>zP (q _ _ .rfl' (M1.eA (.inl (yl (yX e).symm))))) λe=>?_;refine wr (λe=>zP (q _ _ .rfl' (L.eB M1 (yX e)))) λe1=>?_;have i2:1<lb.size:=wd hb (vp e)
 have hN:la.size-0+(lb.size-1)<la.size+lb.size:=q5
 refine zl (wpS_get (zl (Zn (P:=PLx item r la lb) (G:=Good item r la lb) False PL.pos hN ⟨M1,wd ha (vp e1),i2,zj _⟩ (λv u Q N' S h h' q'=>L.l7 (S.kd.trans hk) q' h (yk h' hN)) λv u S h=>?_)))
 rcases h with ⟨o,e,G⟩ |⟨f,_⟩
 ·unfold zK4;rw[e];exact zP (q _ _ S G)
 ·exact f.elim
end
section
variable (a b:Array Keyed)
abbrev Th:=Nat × Nat × Array Keyed × Nat × Nat
abbrev Uh:=Nat × Nat × Array Keyed × Nat × Nat × Nat
abbrev Vh:=Nat × Nat × Array Keyed × Nat
def hA(o:Array Keyed)(i j:Nat):Array Keyed:=a.extract 0 i++b.extract 0 j++o.reverse
def hB(o:Array Keyed)(i j:Nat):Array Keyed:=b.extract 0 j++a.extract 0 i++o.reverse
def h1(g c d:Nat)(o:Array Keyed)(i j:Nat):SM (Fn Th):=elem' b (j-1) >>= λy=>elem' a (i-1) >>= λx=>lt' y x >>= λw=>match w with
 |some w=>if w=true then elem' a (i-1) >>= λz=>if (i-1 == 0)=true then ZH (hA a b (o.push z) (i-1) j) (i-1,j,o.push z,c+1,0) else if c+1>=g then zJ1 (i-1,j,o.push z,c+1,0) else zq3 (i-1,j,o.push z,c+1,0)
  else elem' b (j-1) >>= λz=>if (j-1 == 1)=true then ZH (hB a b (o.push z) i (j-1)) (i,j-1,o.push z,0,d+1) else if d+1>=g then zJ1 (i,j-1,o.push z,0,d+1) else zq3 (i,j-1,o.push z,0,d+1)
 |_=>ZH (hA a b o i j) (i,j,o,c,d)
def h4(g c d:Nat)(o:Array Keyed)(i j:Nat):SM (Fn Uh):=elem' a (i-1) >>= λx=>if (i-1 == 0)=true then ZH (hA a b (o.push x) (i-1) j) (i-1,j,o.push x,g,c,d)
 else if (decide (c<7)&&decide (d<7))=true then zJ1 (i-1,j,o.push x,g,c,d) else zq3 (i-1,j,o.push x,g,c,d)
def h3b(g c k:Nat)(o:Array Keyed)(i j:Nat):SM (Fn Uh):=if j-k > 0 then
  if (k == 1)=true then ZH (hB a b (o++(b.extract k j).reverse) i k) (i,k,o++(b.extract k j).reverse,g,c,j-k)
  else if (k == 0)=true then ZH (hA a b (o++(b.extract k j).reverse) i k) (i,k,o++(b.extract k j).reverse,g,c,j-k) else h4 a b g c (j-k) (o++(b.extract k j).reverse) i k
 else h4 a b g c (j-k) o i j
def h3(g c d:Nat)(o:Array Keyed)(i j:Nat):SM (Fn Uh):=elem' b (j-1) >>= λy=>if (j-1 == 1)=true then ZH (hB a b (o.push y) i (j-1)) (i,j-1,o.push y,g,c,d)
 else elem' a (i-1) >>= λx=>qM true x b 0 (j-1) (j-1-1) >>= λk=>match k with
  |some k=>h3b a b g c k (o.push y) i (j-1)
  |_=>ZH (hA a b (o.push y) i (j-1)) (i,j-1,o.push y,g,c,d)
def h2b(g d k:Nat)(o:Array Keyed)(i j:Nat):SM (Fn Uh):=if i-k > 0 then
  if (k == 0)=true then ZH (hA a b (o++(a.extract k i).reverse) k j) (k,j,o++(a.extract k i).reverse,g,i-k,d) else h3 a b g (i-k) d (o++(a.extract k i).reverse) k j
 else h3 a b g (i-k) d o i j
def h2(c d:Nat)(o:Array Keyed)(i j g:Nat):SM (Fn Uh):=vt g >>= λ_=>elem' b (j-1) >>= λy=>qM false y a 0 i (i-1) >>= λk=>match k with
 |some k=>h2b a b g d k o i j
 |_=>ZH (hA a b o i j) (i,j,o,g,c,d)
def h2u(u:Uh):SM (Fn Uh):=if u.2.2.2.1 > 1 then h2 a b u.2.2.2.2.1 u.2.2.2.2.2 u.2.2.1 u.1 u.2.1 (u.2.2.2.1-1) else h2 a b u.2.2.2.2.1 u.2.2.2.2.2 u.2.2.1 u.1 u.2.1 u.2.2.2.1
def h5(s:Sn Uh):SM (Fn Vh):=match s.1 with
 |some r=>ZH r (s.2.1,s.2.2.1,s.2.2.2.1,s.2.2.2.2.1)
 |none=>vt (s.2.2.2.2.1+1) >>= λ_=>zq3 (s.2.1,s.2.2.1,s.2.2.2.1,s.2.2.2.2.1+1)
def h6(g:Nat)(s:Sn Th):SM (Fn Vh):=match s.1 with
 |some r=>ZH r (s.2.1,s.2.2.1,s.2.2.2.1,g)
 |none=>(rule "list.sort.gallop" : SM Unit) >>= λ_=>forIn [0:a.size+b.size] ((none,s.2.1,s.2.2.1,s.2.2.2.1,g+1,s.2.2.2.2.1,s.2.2.2.2.2):Sn Uh) (λ_ u=>h2u a b u.2) >>= λu=>h5 u
def h1t(g:Nat)(s:Th):SM (Fn Th):=h1 a b g s.2.2.2.1 s.2.2.2.2 s.2.2.1 s.1 s.2.1
def h7(v:Vh):SM (Fn Vh):=forIn [0:a.size+b.size] ((none,v.1,v.2.1,v.2.2.1,0,0):Sn Th) (λ_ s=>h1t a b v.2.2.2 s.2) >>= λs=>h6 a b v.2.2.2 s
def h8:SM (Array Keyed):=(rule "list.sort.merge-hi" : SM Unit) >>= λ_=>elem' a (a.size-1) >>= λy=>if (a.size-1 == 0)=true then pure (hA a b #[y] (a.size-1) b.size)
 else if (b.size == 1)=true then pure (hB a b #[y] (a.size-1) b.size)
 else get >>= λst=>forIn [0:a.size+b.size] ((none,a.size-1,b.size,#[y],gallopOf st):Sn Vh) (λ_ v=>h7 a b v.2) >>= λv=>zK4 v
theorem Vs:Wg a b=h8 a b:=by
 show bind _ _=bind _ _
 congr 1;funext x;dsimp only
 congr 1;funext y
 by_cases e:(a.size-1 == 0)=true
 ·rw[if_pos e,if_pos e];rfl
 rw[if_neg e,if_neg e]
 by_cases e1:(b.size == 1)=true
 ·rw[if_pos e1,if_pos e1];rfl
 rw[if_neg e1,if_neg e1]
 congr 1;funext st
 congr 1
 ·congr 1
  funext x v
  unfold h7
  congr 1
  funext s
  unfold h6;cases s.1
  ·dsimp only
   congr 1;funext x
   congr 1
   funext u
   unfold h5
   cases u.1<;>rfl
  ·rfl
 ·funext v
  unfold zK4
  cases v.1<;>rfl
end
section
variable {prog:Program}{w:World}{A:Around}{E:Value->Shared->Prop}{s:Shared}{t:SortSt}{n:Nat}{u:SortSt}{item:Nat->Keyed}{kd:SortKind}{r:Nat->Nat->Bool}
structure MH(item:Nat->Keyed)(r:Nat->Nat->Bool)(la lb:Array Nat)(out:Array Keyed)(na nb:Nat):Prop where
 o:∃O:Array Nat,out=O.map item/\MI (λx y=>r x y=false) (la.toList++lb.toList) O.toList (la.toList.take na).reverse (lb.toList.take nb).reverse
def kH{ks:Array Nat}{k x:Nat}(hk:k<=ks.size):x∈ks.toList.take k↔∃i,i<k/\x=lab ks i:=by
 rw[List.mem_iff_getElem?]
 constructor
 ·rintro ⟨i, h⟩;rw[yn] at h
  split at h
  ·rename_i g
   rw[zB,yF q5] at h
   exact⟨i,g,(zy h).symm⟩
  ·cases h
 ·rintro ⟨i, h1, rfl⟩
  exact⟨i,by rw[yn,if_pos h1,zB,yF q5]⟩
def Ko{ks:Array Nat}{k:Nat}(h1:1<=k)(hk:k<=ks.size):(ks.toList.take k).reverse=[lab ks (k-1)]++(ks.toList.take (k-1)).reverse:=by
 obtain⟨m,rfl⟩:∃m,k=m+1:=⟨k-1,q5⟩
 rw[Nat.add_sub_cancel,xx,zB,yF q5,wK]
 rfl
def Kq{ks:Array Nat}{j k:Nat}(h:j<=k):(ks.toList.take k).reverse=(ks.extract j k).reverse.toList++(ks.toList.take j).reverse:=by
 rw[Array.toList_reverse,xX,xF,<- wK]
 have e:(ks.toList.take k).take j=ks.toList.take j:=by rw[List.take_take,Nat.min_eq_left h]
 rw[<- List.drop_take,<- e,wy]
def zc7{ks:Array Nat}{j k x:Nat}(hk:k<=ks.size)(hx:x∈(ks.extract j k).reverse.toList):∃i,j<=i/\i<k/\x=lab ks i:=by
 rw[Array.toList_reverse,wf,xX,xF,<- List.drop_take,List.mem_iff_getElem?] at hx;obtain⟨i,hi⟩:=hx;rw[xV,yn] at hi
 split at hi
 ·rename_i g
  rw[zB,yF q5] at hi
  exact⟨j+i,q5,g,(zy hi).symm⟩
 ·cases hi
section
variable {la lb:Array Nat}{out:Array Keyed}{na nb:Nat}
def Two.hh(R:WRule prog w A s n item kd r)(T:Two n r la lb){c m:Nat}(hc:c<n)(h:m<la.size)(g:r c (lab la m)=false):∀i,i<=m->r c (lab la i)=false:=λi hi=>by
 by_cases e:i=m
 ·rw[e];exact g
 ·exact R.tr _ _ _ (T.al q5) (T.al h) hc (ZC T.au q5 h) g
def MH.pushA(M:MH item r la lb out na nb)(h:1<=na)(ha:na<=la.size)(hb:nb<=lb.size)(g:∀j,j<nb->r (lab la (na-1)) (lab lb j)=false):MH item r la lb (out.push (item (lab la (na-1)))) (na-1) nb:=by
 obtain⟨O,rfl,m⟩:=M.o;rw[Ko h ha] at m
 refine⟨O.push (lab la (na-1)),by rw[Array.map_push],?_⟩
 rw[yC]
 exact m.takeA λx hx y hy=>by
  obtain⟨j,hj,rfl⟩:=(kH hb).mp (wf.mp hy);rw[zq.mp hx];exact g j hj
def MH.pushB(M:MH item r la lb out na nb)(h:1<=nb)(ha:na<=la.size)(hb:nb<=lb.size)(g:∀j,j<na->r (lab lb (nb-1)) (lab la j)=false):MH item r la lb (out.push (item (lab lb (nb-1)))) na (nb-1):=by
 obtain⟨O,rfl,m⟩:=M.o;rw[Ko h hb] at m
 refine⟨O.push (lab lb (nb-1)),by rw[Array.map_push],?_⟩
 rw[yC]
 exact m.takeB λx hx y hy=>by
  obtain⟨j,hj,rfl⟩:=(kH ha).mp (wf.mp hy);rw[zq.mp hx];exact g j hj
def MH.addA(M:MH item r la lb out na nb){k:Nat}(h:k<=na)(ha:na<=la.size)(hb:nb<=lb.size)(g:∀i,k<=i->i<na->∀j,j<nb->r (lab la i) (lab lb j)=false):MH item r la lb (out++((la.map item).extract k na).reverse) k nb:=by
 obtain⟨O,rfl,m⟩:=M.o;rw[Kq h] at m
 refine⟨O++(la.extract k na).reverse,by rw[xO,Array.map_reverse,xq],?_⟩
 rw[zS]
 exact m.takeA λx hx y hy=>by
  obtain⟨j,hj,rfl⟩:=(kH hb).mp (wf.mp hy);obtain⟨i,i1,i2,rfl⟩:=zc7 ha hx;exact g i i1 i2 j hj
def MH.addB(M:MH item r la lb out na nb){k:Nat}(h:k<=nb)(ha:na<=la.size)(hb:nb<=lb.size)(g:∀i,k<=i->i<nb->∀j,j<na->r (lab lb i) (lab la j)=false):MH item r la lb (out++((lb.map item).extract k nb).reverse) na k:=by
 obtain⟨O,rfl,m⟩:=M.o;rw[Kq h] at m
 refine⟨O++(lb.extract k nb).reverse,by rw[xO,Array.map_reverse,xq],?_⟩
 rw[zS]
 exact m.takeB λx hx y hy=>by
  obtain⟨j,hj,rfl⟩:=(kH ha).mp (wf.mp hy);obtain⟨i,i1,i2,rfl⟩:=zc7 hb hx;exact g i i1 i2 j hj
def Wl{ks:Array Nat}{i:Nat}:(ks.extract 0 i).toList=ks.toList.take i:=by
 rw[xX,xF,yH,Nat.sub_zero]
def MH.done(M:MH item r la lb out na nb)(ha:na<=la.size)(hb:nb<=lb.size)(g:∀i,i<nb->∀j,j<na->r (lab lb i) (lab la j)=false):Good item r la lb ((la.map item).extract 0 na++(lb.map item).extract 0 nb++out.reverse):=by
 obtain⟨O,rfl,m⟩:=M.o
 obtain⟨p1,p2⟩:=m.endB λx hx y hy=>by
  obtain⟨i,hi,rfl⟩:=(kH hb).mp (wf.mp hx);obtain⟨j,hj,rfl⟩:=(kH ha).mp (wf.mp hy);exact g i hi j hj
 have e:(la.extract 0 na++lb.extract 0 nb++O.reverse).toList=(O.toList++(lb.toList.take nb).reverse++(la.toList.take na).reverse).reverse:=by
  rw[zS,zS,Wl,Wl,Array.toList_reverse,wK,wK,reverse_reverse,reverse_reverse,wb]
 refine⟨la.extract 0 na++lb.extract 0 nb++O.reverse,by rw[xO,xO,xq,xq,Array.map_reverse],?_,?_⟩
 ·rw[e];exact(reverse_perm _).trans p1
 ·rw[e,List.pairwise_reverse];exact p2
def MH.first(M:MH item r la lb out na nb)(ha:na<=la.size)(hb:nb<=lb.size)(g:∀j,j<na->∀i,i<nb->r (lab la j) (lab lb i)=false):Good item r la lb ((lb.map item).extract 0 nb++(la.map item).extract 0 na++out.reverse):=by
 obtain⟨O,rfl,m⟩:=M.o
 obtain⟨p1,p2⟩:=m.endA λx hx y hy=>by
  obtain⟨i,hi,rfl⟩:=(kH ha).mp (wf.mp hx);obtain⟨j,hj,rfl⟩:=(kH hb).mp (wf.mp hy);exact g i hi j hj
 have e:(lb.extract 0 nb++la.extract 0 na++O.reverse).toList=(O.toList++(la.toList.take na).reverse++(lb.toList.take nb).reverse).reverse:=by
  rw[zS,zS,Wl,Wl,Array.toList_reverse,wK,wK,reverse_reverse,reverse_reverse,wb]
 refine⟨lb.extract 0 nb++la.extract 0 na++O.reverse,by rw[xO,xO,xq,xq,Array.map_reverse],?_,?_⟩
 ·rw[e];exact(reverse_perm _).trans p1
 ·rw[e,List.pairwise_reverse];exact p2
end
section
variable {N c d g i j k:Nat}{o:Array Keyed}{la lb:Array Nat}
structure PH(item:Nat->Keyed)(r:Nat->Nat->Bool)(la lb:Array Nat)(N:Nat)(o:Array Keyed)(i j:Nat):Prop where
 M:MH item r la lb o i j
 i1:1<=i
 i2:i<=la.size
 j1:2<=j
 j2:j<=lb.size
 hN:i+j<=N
abbrev PHx{β:Type}(item:Nat->Keyed)(r:Nat->Nat->Bool)(la lb:Array Nat)(N:Nat)(x:Nat × Nat × Array Keyed × β):Prop:=PH item r la lb N x.2.2.1 x.1 x.2.1
abbrev QH{β:Type}(item:Nat->Keyed)(r:Nat->Nat->Bool)(la lb:Array Nat)(b:Prop)(Q:Fn (Nat × Nat × Array Keyed × β)->SortSt->Prop)(N:Nat)(t:SortSt):Prop:=Lq (PHx item r la lb) (Good item r la lb) b Q N t
def PH.pos{β:Type}(N:Nat)(x:Nat × Nat × Array Keyed × β)(h:PHx item r la lb N x):1<=N:=zF h.i1 (zF (Nat.le_add_right _ _) h.hN)
def QN{i m:Nat}(h:1<=i)(h':i<=m):i-1<m:=q5
def zl4{j:Nat}(h:2<=j):1<=j:=q5
def zZ6{i:Nat}(h:1<=i)(e:¬(i-1 == 0)=true):1<=i-1:=by have:=vp e;lia
def xi6{j:Nat}(h:2<=j)(e:¬(j-1 == 1)=true):2<=j-1:=by have:=vp e;lia
def lt3{m i:Nat}(h:1<=i)(hm:m<i):m<i-1+1:=q5
variable (L:Lo prog w A s n item kd r la lb)
include L
theorem Lo.hA(hi:i<la.size)(hj:j<lb.size)(g:r (lab lb j) (lab la i)=true):∀m,m<j+1->r (lab la i) (lab lb m)=false:=λm hm=>L.T.symm.hh L.R (L.T.al hi) hj (L.R.asy _ _ (L.T.bl hj) (L.T.al hi) g) m (Nat.le_of_lt_succ hm)
theorem Lo.hB(hi:i<la.size)(hj:j<lb.size)(g:r (lab lb j) (lab la i)=false):∀m,m<i+1->r (lab lb j) (lab la m)=false:=λm hm=>L.T.hh L.R (L.T.bl hj) hi g m (Nat.le_of_lt_succ hm)
theorem Lo.fst(M:MH item r la lb o i j)(hi:i<=la.size)(hb:1<=lb.size)(hj:j=1):Good item r la lb (Srt.hB (la.map item) (lb.map item) o i j):=M.first hi q5 λj' hj' i' hi'=>by
 obtain rfl:i'=0:=q5
 have z:r (lab la 0) (lab lb 0)=false:=L.R.asy _ _ (L.T.bl hb) (L.T.al q5) L.h1
 by_cases e:j'=0
 ·rw[e];exact z
 ·exact L.R.tr _ _ _ (L.T.bl hb) (L.T.al (i:=0) q5) (L.T.al q5) z (ZC L.T.au q5 q5)
omit L in
theorem MH.don(M:MH item r la lb o i j)(hi:i<=la.size)(hj:j<=lb.size)(h:i=0\/j=0):Good item r la lb (Srt.hA (la.map item) (lb.map item) o i j):=M.done hi hj λi' hi' j' hj'=>by lia
theorem Lo.pA(p:PH item r la lb N o i j)(z:r (lab lb (j-1)) (lab la (i-1))=true):MH item r la lb (o.push (item (lab la (i-1)))) (i-1) j:=p.M.pushA p.i1 p.i2 p.j2 λm hm=>L.hA (QN p.i1 p.i2) (QN (zl4 p.j1) p.j2) z m (lt3 (zl4 p.j1) hm)
theorem Lo.pB(p:PH item r la lb N o i j)(z:∀m,m<i->r (lab lb (j-1)) (lab la m)=false):MH item r la lb (o.push (item (lab lb (j-1)))) i (j-1):=p.M.pushB (zl4 p.j1) p.i2 p.j2 z
theorem Lo.h1'{Q:Fn Th->SortSt->Prop}(hk:kindOf t=kd)(q:QH item r la lb True Q N t)(p:PH item r la lb N o i j):wpS (model prog w) A E s (Srt.h1 (la.map item) (lb.map item) g c d o i j) Q t:=by
 have hi:=QN p.i1 p.i2;have hj:=QN (zl4 p.j1) p.j2;have hN:=p.hN;have i1:=p.i1;have j1:=p.j1;refine zl (wV hj (zl (wV hi (zl (Vv L.R hk (L.T.bl hj) (L.T.al hi) (λe=>L.T.ne hi hj e.symm) ?_)))));cases z:r (lab lb (j-1)) (lab la (i-1))
 ·have M := L.pB p λm hm => L.hB hi hj z m (lt3 i1 hm)
  exact zl (wV hj (wr (λe=>vB q .rfl' (L.fst M p.i2 (zF (zl4 j1) p.j2) (yX e))) λe=>Jr q .rfl' (N':=i+(j-1)) ⟨M,i1,p.i2,xi6 j1 e,xJ hj,zj _⟩ q5))
 ·have M := L.pA p z
  exact zl (wV hi (wr (λe=>vB q .rfl' (M.don (xJ hi) p.j2 (.inl (yX e)))) λe=>Jr q .rfl' (N':=i-1+j) ⟨M,zZ6 i1 e,xJ hi,j1,p.j2,zj _⟩ q5))
section
variable {Q:Fn Uh->SortSt->Prop} (q:QH item r la lb True Q N t) (S:Same t u)
include q S
theorem Lo.h4(M:MH item r la lb o i j)(i1:1<=i)(i2:i<=la.size)(j1:2<=j)(j2:j<=lb.size)(hN:i+j<=N)(z:∀m,m<j->r (lab la (i-1)) (lab lb m)=false):wpS (model prog w) A E s (h4 (la.map item) (lb.map item) g c d o i j) Q u:=by
 have hi:=QN i1 i2;have M1:=M.pushA i1 i2 j2 z
 exact zl (wV hi (wr (λe=>vB q S (M1.don (xJ hi) j2 (.inl (yX e)))) λe=>Jr q S (N':=i-1+j) ⟨M1,zZ6 i1 e,xJ hi,j1,j2,zj _⟩ q5))
theorem Lo.h3b(p:PH item r la lb N o i j)(hk:k<=j)(g5:∀m,m<k->r (lab lb m) (lab la (i-1))=true)(g6:∀m,k<=m->m<j->r (lab lb m) (lab la (i-1))=false) :
  wpS (model prog w) A E s (h3b (la.map item) (lb.map item) g c k o i j) Q u:=by
 obtain⟨M,i1,i2,j1,j2,hN⟩:=p;have hi:=QN i1 i2
 have z:∀m,m<k->r (lab la (i-1)) (lab lb m)=false:=λm hm=>L.R.asy _ _ (L.T.bl q5) (L.T.al hi) (g5 m hm)
 refine wr (λ_=>?_) λe=>?_
 ·have M1 := M.addB hk i2 j2 λm m1 m2 x hx => L.hB hi q5 (g6 m m1 m2) x (lt3 i1 hx)
  have kb:k<=lb.size:=zF hk j2
  exact wr (λe=>vB q S (L.fst M1 i2 q5 (yX e))) λe=>wr (λe=>vB q S (M1.don i2 kb (.inr (yX e)))) λe'=>L.h4 q S M1 i1 i2 (by have:=vp e;have:=vp e';lia) kb q5 z
 ·obtain rfl : k = j := by lia
  exact L.h4 q S M i1 i2 j1 j2 hN z
theorem Lo.h3(hk:kindOf t=kd)(p:PH item r la lb N o i j)(z:∀m,m<i->r (lab lb (j-1)) (lab la m)=false):wpS (model prog w) A E s (h3 (la.map item) (lb.map item) g c d o i j) Q u:=by
 have hi:=QN p.i1 p.i2;have hj:=QN (zl4 p.j1) p.j2;have M1:=L.pB p z;obtain⟨M,i1,i2,j1,j2,hN⟩:=p
 refine zl (wV hj (wr (λe=>vB q S (L.fst M1 i2 q5 (yX e))) λe=>?_))
 have j1':=xi6 j1 e
 refine zl (wV hi (zl (gal (m:=j-1) (by':=λm=>r (lab lb (0+m)) (lab la (i-1))) q5 (λm h Q qq=>?_) (λm x h1 h2 hb=>?_) λk h g5 g6=>L.h3b q S ⟨M1,i1,i2,j1',xJ hj,q5⟩ h (λm h=>by have:=g5 m h;rwa [Nat.zero_add] at this) λm h h'=>by have:=g6 m h h';rwa [Nat.zero_add] at this)))
 ·exact byd L.R (S.kd.trans hk) (L.T.al hi) q5 (L.T.bl q5) (L.T.ne hi q5) (by simpa using qq)
 ·by_cases e : m = x
  ·rw[e];exact hb
  ·cases z : r (lab lb (0 + m)) (lab la (i - 1)) with
   |true=>rfl
   |false=>exact absurd hb (by rw[L.R.tr _ _ _ (L.T.al hi) (L.T.bl (i:=0+m) q5) (L.T.bl (i:=0+x) q5) z (ZC L.T.bu q5 q5)];exact zT)
theorem Lo.h2b(hk:kindOf t=kd)(p:PH item r la lb N o i j)(hk':k<=i)(g1:∀m,m<k->r (lab lb (j-1)) (lab la m)=false)(g2:∀m,k<=m->m<i->r (lab lb (j-1)) (lab la m)=true):wpS (model prog w) A E s (h2b (la.map item) (lb.map item) g d k o i j) Q u:=by
 refine wr (λ_=>?_) λe=>?_
 ·obtain ⟨M, i1, i2, j1, j2, hN⟩ := p;have hj:=QN (zl4 j1) j2
  have M1:=M.addA hk' i2 j2 λm m1 m2 x hx=>L.hA q5 hj (g2 m m1 m2) x (lt3 (zl4 j1) hx)
  have ka:=zF hk' i2
  exact wr (λe=>vB q S (M1.don ka j2 (.inl (yX e)))) λe=>L.h3 q S hk ⟨M1,Nat.pos_of_ne_zero (vp e),ka,j1,j2,q5⟩ g1
 ·obtain rfl : k = i := by lia
  exact L.h3 q S hk p g1
theorem Lo.h2'(hk:kindOf t=kd)(p:PH item r la lb N o i j):wpS (model prog w) A E s (Srt.h2 (la.map item) (lb.map item) c d o i j g) Q u:=by
 have hj:=QN (zl4 p.j1) p.j2;have i1:=p.i1;have i2:=p.i2;unfold Srt.h2;rw[vm];refine zl (yh ?_);have S4:=S.gal g;generalize Kt u g=u at S4 ⊢
 refine zl (wV hj (zl (gal (m:=i) (by':=λm=>!r (lab lb (j-1)) (lab la (0+m))) q5 (λm h Q qq=>?_) (λm x h1 h2 hb=>?_) λk h g5 g6=>L.h2b q S4 hk p h (λm h=>by have:=g5 m h;rw[Nat.zero_add] at this;simpa using this) λm h h'=>by have:=g6 m h h';rw[Nat.zero_add] at this;simpa using this)))
 ·exact byd L.R (S4.kd.trans hk) (L.T.bl hj) q5 (L.T.al q5) (λe=>L.T.ne q5 hj e.symm) (by simpa using qq)
 ·by_cases e : m = x
  ·rw[e];exact hb
  ·show (!r (lab lb (j - 1)) (lab la (0 + m))) = true
   rw[L.R.tr _ _ _ (L.T.al (i:=0+m) q5) (L.T.al (i:=0+x) q5) (L.T.bl hj) (ZC L.T.au q5 q5) (by simpa using hb)];rfl
end
theorem Lo.h7{b:Prop}{Q:Fn Vh->SortSt->Prop}{v:Vh}(hk:kindOf t=kd)(q:QH item r la lb b Q N t)(p:PHx item r la lb N v)(hN:N<la.size+lb.size):wpS (model prog w) A E s (h7 (la.map item) (lb.map item) v) Q t:=by
 unfold Srt.h7;rw[zK,zK];refine zl (Zn (P:=PHx item r la lb) (G:=Good item r la lb) True PH.pos hN p (λv u Q N' S h _ q'=>L.h1' (S.kd.trans hk) q' h) λv u S h=>?_);unfold h6
 rcases h with ⟨o,e,G⟩ |⟨_,e,N',h,h'⟩
 ·rw[e];exact vB q S G
 rw[e,zK,zK];refine zl (wpS_lift (yi ⟨rfl,zl (Zn (P:=PHx item r la lb) (G:=Good item r la lb) True PH.pos (Nat.lt_trans h hN) h' (λv u' Q N' S' h' _ q'=>?_) λv u' S' h2=>?_)⟩))
 ·have hk':=(S.tr S').kd.trans hk;exact wr (λ_=>L.h2' q' .rfl' hk' h') λ_=>L.h2' q' .rfl' hk' h'
 ·unfold h5
  rcases h2 with ⟨o,e,G⟩ |⟨_,e,N2,h2,h3⟩
  ·rw[e];exact vB q (S.tr S') G
  ·rw[e,vm];exact zl (yh (zP (q.nx _ _ _ ((S.tr S').gal _) h3 (Nat.lt_trans h2 h))))
theorem mhi(hk:kindOf t=kd)(ha:1<=la.size)(hb:1<=lb.size){Q:Array Keyed->SortSt->Prop}(q:∀out t',Same t t'->Good item r la lb out->Q out t'):wpS (model prog w) A E s (Wg (la.map item) (lb.map item)) Q t:=by
 rw[Vs];unfold h8;rw[zK,zK];have hl:la.size-1<la.size:=QN ha (zj _);refine zl (wpS_lift (yi ⟨rfl,zl (wV hl ?_)⟩))
 have M0:MH item r la lb #[] la.size lb.size:=⟨#[],by simp,by
  have e1:la.toList.take la.size=la.toList:=yj (by rw[zf];exact zj _)
  have e2:lb.toList.take lb.size=lb.toList:=yj (by rw[zf];exact zj _)
  rw[e1,e2]
  exact⟨by simpa using (reverse_perm _).append (reverse_perm _),.nil,by simp,by simp,List.pairwise_reverse.mpr L.T.au,List.pairwise_reverse.mpr L.T.bu⟩⟩
 have M1:=M0.pushA ha (zj _) (zj _) λj hj=>L.R.asy _ _ (L.T.bl hj) (L.T.al hl) (L.h2 _ (kN hj));change MH item r la lb #[item (lab la (la.size-1))] (la.size-1) lb.size at M1;generalize #[item (lab la (la.size-1))]=o at M1 ⊢;refine wr (λe=>zP (q _ _ .rfl' (M1.don (xJ hl) (zj _) (.inl (yX e))))) λe=>wr (λe=>zP (q _ _ .rfl' (L.fst M1 (xJ hl) hb (yX e)))) λe1=>?_;have hN:la.size-1+lb.size<la.size+lb.size:=Nat.add_lt_add_right hl _;refine zl (wpS_get (zl (Zn (P:=PHx item r la lb) (G:=Good item r la lb) False PH.pos hN ⟨M1,zZ6 ha e,xJ hl,wd hb (λz=>vp e1 z.symm),zj _,zj _⟩ (λv u Q N' S h h' q'=>L.h7 (S.kd.trans hk) q' h (yk h' hN)) λv u S h=>?_)))
 rcases h with ⟨o,e,G⟩ |⟨f,_⟩
 ·unfold zK4;rw[e];exact zP (q _ _ S G)
 ·exact f.elim
end
end
theorem KA{α:Type}:∀(l:List α) (arr:Array α) (sa k:Nat),sa+k+l.length<=arr.size->((l.zipIdx k).foldl (λa (p:α × Nat)=>a.setIfInBounds (sa+p.2) p.1) arr).toList=arr.toList.take (sa+k)++l++arr.toList.drop (sa+k+l.length)
 |[],arr,sa,k,h=>by simp
 | x :: l, arr, sa, k, h => by
  rw[zt] at h
  have hi:sa+k<arr.toList.length:=by rw[zf];lia
  rw[zipIdx_cons,List.foldl_cons,KA l _ sa (k+1) (by rw[Array.size_setIfInBounds];lia),Array.toList_setIfInBounds]
  have e1:(arr.toList.set (sa+k) x).take (sa+(k+1))=arr.toList.take (sa+k)++[x]:=by
   rw[<- Nat.add_assoc,xx,List.take_set_of_le (zj _),xt hi];rfl
  have e2:(arr.toList.set (sa+k) x).drop (sa+(k+1)+l.length)=arr.toList.drop (sa+k+(l.length+1)):=by
   rw[List.drop_set_of_lt q5]
   congr 1;lia
  rw[e1,e2,zt];simp
def zy4{M:Model}{A:Around}{E:Value->Shared->Prop}{s:Shared}{σ:Type}{st':σ}{Q:PUnit->σ->Prop}{st:σ}(h:Q ⟨⟩ st'):wpS M A E s (set st':StateT σ Sem PUnit) Q st:=by
 unfold wpS;rw[StateT.run_set];exact zg ⟨rfl,h⟩
structure Nw(n:Nat)(item:Nat->Keyed)(kd:SortKind)(ls:Array Nat)(t:SortSt):Prop where
 arr:arrOf t=ls.map item
 kd:kindOf t=kd
 ok:failedOf t=none
 perm:ls.Perm (Array.range n)
def Seg(r:Nat->Nat->Bool)(ls:Array Nat)(s m:Nat):Prop:=∀i j,s<=i->i<j->j<s+m->r (lab ls j) (lab ls i)=false
section
variable {n:Nat}{item:Nat->Keyed}{kd:SortKind}{r:Nat->Nat->Bool}{ls:Array Nat}{t:SortSt}
def Zi(h:ls.Perm (Array.range n)):ls.toList.Nodup:=(xN.mp h).nodup_iff.mpr (by rw[yo];exact List.nodup_range)
def Nw.size(N:Nw n item kd ls t):ls.size=n:=by rw[N.perm.size_eq,wP]
def XW(h:ls.Perm (Array.range n)){x:Nat}(hx:x∈ls.toList):x<n:=by
 have:=((xN.mp h).mem_iff).mp hx
 rwa [yo,List.mem_range] at this
def Nw.lt(N:Nw n item kd ls t){i:Nat}(h:i<n):lab ls i<n:=XW N.perm (kN (by rw[N.size];exact h))
def zF3(h:ls.toList.Nodup){i j:Nat}(hij:i<j)(hj:j<ls.size):lab ls i≠lab ls j:=by
 have hi':i<ls.toList.length:=by rw[zf];lia
 have hj':j<ls.toList.length:=by rw[zf];exact hj
 have:=xD.mp h i j hi' hj' hij
 have e1:=yF (ls:=ls) (i:=i) q5
 have e2:=yF (ls:=ls) hj;rw[<- zB,zk hi'] at e1;rw[<- zB,zk hj'] at e2;rw[<- zy e1,<- zy e2];exact this
def Nw.ne(N:Nw n item kd ls t){i j:Nat}(hi:i<n)(hj:j<n)(h:i≠j):lab ls i≠lab ls j:=by
 have:=N.size
 rcases Nat.lt_or_gt_of_ne h with g |g
 ·exact zF3 (Zi N.perm) g q5
 ·exact(zF3 (Zi N.perm) g q5).symm
def YI{a b i:Nat}(h:b<=ls.size)(hi:a+i<b):lab (ls.extract a b) i=lab ls (a+i):=by
 refine vE ?_
 rw[Array.getElem?_extract,if_pos q5,yF q5]
def qr{a b x:Nat}(h:b<=ls.size)(hx:x∈(ls.extract a b).toList):∃i,a<=i/\i<b/\x=lab ls i:=by
 have hx':x∈(ls.extract a b).toList.drop 0:=by rwa [yH]
 obtain⟨i,_,h2,rfl⟩:=qt.mp hx';rw[wC] at h2
 exact⟨a+i,q5,q5,YI h q5⟩
def zu1{a b:Nat}(h:b<=ls.size)(S:Seg r ls a (b-a)):(ls.extract a b).toList.Pairwise λx y=>r y x=false:=by
 refine xD.mpr λi j hi hj hij=>?_;rw[zf,wC] at hi hj
 have e:∀k (hk:k<(ls.extract a b).toList.length),(ls.extract a b).toList[k]=lab ls (a+k):=λk hk=>by
  rw[zf] at hk;have e1:=yF (ls:=ls.extract a b) hk
  rw[<- zB,zk (by rw[zf];exact hk)] at e1
  rw[zy e1,YI h (by rw[wC] at hk;lia)]
 rw[e,e]
 exact S _ _ q5 q5 q5
end
section
variable {prog:Program}{w:World}{A:Around}{E:Value->Shared->Prop}{s:Shared}{t:SortSt}{n:Nat}{item:Nat->Keyed}{kd:SortKind}{r:Nat->Nat->Bool}{ls:Array Nat}
def back{a b c:Nat}{M:Array Nat}(N:Nw n item kd ls t)(hab:a<=b)(hbc:b<=c)(hc:c<=n)(p:M.toList.Perm ((ls.extract a b).toList++(ls.extract b c).toList)) :
  ∃ls':Array Nat,(((M.map item).toList.zipIdx.foldl (λx (y:Keyed × Nat)=>x.setIfInBounds (a+y.2) y.1) (ls.map item))=ls'.map item)/\ls'.Perm (Array.range n)/\(∀k,k<a\/c<=k->lab ls' k=lab ls k)/\∀i,a<=i->i<c->lab ls' i=lab M (i-a):=by
 have hs:=N.size
 have hM:M.size=c-a:=by
  have:=p.length_eq;rw[zf,zA,zf,zf,wC,wC] at this;lia
 have el:((ls.toList.take a++M.toList++ls.toList.drop c).toArray).size=ls.size:=by
  rw[zJ,zA,zA,xk,wB,zf,zf];lia
 refine⟨(ls.toList.take a++M.toList++ls.toList.drop c).toArray,?_,?_,?_,?_⟩
 ·apply Array.ext'
  rw[KA _ _ a 0 (by rw[zf,zK,zK];lia)]
  simp only[Nat.add_zero,zf,zK,Array.toList_map,hM,xU,map_take,map_drop,List.map_toArray]
  congr 2
  rw[zm,zf];lia
 ·refine xN.mpr ?_;refine List.Perm.trans ?_ (xN.mp N.perm)
  have e:ls.toList=ls.toList.take a++((ls.extract a b).toList++(ls.extract b c).toList)++ls.toList.drop c:=by
   rw[xX,xX,xF,xF]
   have e1:(ls.toList.drop a).take (b-a)++(ls.toList.drop b).take (c-b)=(ls.toList.drop a).take (c-a):=by
    rw[show c-a=(b-a)+(c-b) by lia,List.take_add,drop_drop,show a+(b-a)=b by lia]
   rw[e1,wb]
   conv=>lhs;rw[<- wy a ls.toList]
   congr 1
   conv=>lhs;rw[<- wy (c-a) (ls.toList.drop a)]
   rw[drop_drop,show a+(c-a)=c by lia]
  conv=>rhs;rw[e]
  exact(p.append_left _).append_right _
 ·intro k hk
  rcases Nat.lt_or_ge k ls.size with hk2 |hk2
  ·refine vE ?_;rw[<- yF hk2,List.getElem?_toArray]
   rcases hk with hk |hk
   ·rw[wb,xE (by rw[xk,zf];lia),yn,if_pos hk,zB]
   ·rw [xm (by rw [zA, xk, zf, zf]; lia), xV, zB]
    congr 1
    rw[zA,xk,zf,zf];lia
  ·have e1 : lab ls k = 0 := by unfold lab; rw [wI, wN hk2]; rfl
   rw[e1];unfold lab;rw[wI,wN (by rw[el];exact hk2)];rfl
 ·intro i h1 h2;refine vE ?_
  rw[<- yF q5,List.getElem?_toArray,xE (by rw[zA,xk,zf,zf];lia),xm (by rw[xk,zf];lia),zB]
  congr 1
  rw[xk,zf];lia
def mat(R:WRule prog w A s n item kd r)(N:Nw n item kd ls t){i sa na p sb nb p2:Nat}(hp:(pendingOf t)[i]?=some (sa,na,p))(hq:(pendingOf t)[i+1]?=some (sb,nb,p2))(hsb:sb=sa+na)(h1:1<=na)(h2:1<=nb)(hn:sb+nb<=n)(SA:Seg r ls sa na)(SB:Seg r ls sb nb)
  {Q:Bool->SortSt->Prop} (q:∀ls' t',Nw n item kd ls' t'->pendingOf t'=((pendingOf t).setIfInBounds i (sa,na+nb,p)).eraseIdxIfInBounds (i+1)->(∀k,k<sa\/sb+nb<=k->lab ls' k=lab ls k)->Seg r ls' sa (na+nb)->Q true t'):wpS (model prog w) A E s (mergeAt' i) Q t:=by
 have hs:=N.size;rw[UG];refine zl (wpS_get ?_);rw[hp,hq];dsimp only;refine zl (zy4 ?_);have N1:Nw n item kd ls (setPending t (((pendingOf t).setIfInBounds i (sa,na+nb,p)).eraseIdxIfInBounds (i+1))):=⟨N.arr,N.kd,N.ok,N.perm⟩;have P1:pendingOf (setPending t (((pendingOf t).setIfInBounds i (sa,na+nb,p)).eraseIdxIfInBounds (i+1)))=((pendingOf t).setIfInBounds i (sa,na+nb,p)).eraseIdxIfInBounds (i+1):=rfl;rw[N.arr];generalize ((pendingOf t).setIfInBounds i (sa,na+nb,p)).eraseIdxIfInBounds (i+1)=pend at P1 N1 q ⊢;generalize setPending t pend=t1 at P1 N1 ⊢;have le3:∀{x y z:Nat},x<n->y<n->z<n->r (lab ls y) (lab ls x)=false->r (lab ls z) (lab ls y)=false->r (lab ls z) (lab ls x)=false:=λhx hy hz=>R.tr _ _ _ (N.lt hx) (N.lt hy) (N.lt hz)
 refine zl (wV q5 ?_)
 refine zl (gal (m:=na) (by':=λi=>!r (lab ls sb) (lab ls (sa+i))) q5 (λi hi Q qq=>byd R N1.kd (N.lt q5) q5 (N.lt q5) (N.ne q5 q5 q5) (by simpa using qq)) ?_ λk hk g1 g2=>?_)
 ·intro i j hij hj hb
  by_cases e:i=j
  ·rw[e];exact hb
  ·have hb' : r (lab ls sb) (lab ls (sa + j)) = false := by simpa using hb
   have:=le3 q5 q5 q5 (SA (sa+i) (sa+j) q5 q5 q5) hb'
   show(!r (lab ls sb) (lab ls (sa+i)))=true;rw[this];rfl
 have F1:∀i j,sa<=i->i<sa+k->sb<=j->j<sb+nb->r (lab ls j) (lab ls i)=false:=λi j a1 a2 b1 b2=>by
  have z:r (lab ls sb) (lab ls i)=false:=by
   have:=g1 (i-sa) q5
   rw[show sa+(i-sa)=i by lia] at this
   simpa using this
  by_cases e:j=sb
  ·rw[e];exact z
  ·exact le3 q5 q5 q5 z (SB sb j q5 q5 b2)
 dsimp only;refine wr (λe=>zP (q ls t1 N1 P1 (λ_ _=>rfl) λi j a1 a2 a3=>?_)) (λe=>?_)
 ·have ek : k = na := by simp at e; lia
  by_cases c1:j<sb
  ·exact SA i j a1 a2 q5
  ·by_cases c2 : i < sb
   ·exact F1 i j a1 q5 q5 q5
   ·exact SB i j q5 a2 q5
 have hk':k<na:=by simp at e;lia
 have g2':r (lab ls sb) (lab ls (sa+k))=true:=by simpa using g2 k (zj _) hk'
 have el:sa+k+(na-k)-1=sb-1:=q5
 rw[el]
 refine zl (wV q5 ?_)
 refine zl (gal (m:=nb) (by':=λi=>r (lab ls (sb+i)) (lab ls (sb-1))) q5 (λi hi Q qq=>byd R N1.kd (N.lt q5) q5 (N.lt q5) (N.ne q5 q5 q5) (by simpa using qq)) ?_ λm hm g3 g4=>?_)
 ·intro i j hij hj hb
  by_cases e:i=j
  ·rw[e];exact hb
  ·cases z : r (lab ls (sb + i)) (lab ls (sb - 1)) with
   |true=>rfl
   |false=>
    have:=le3 q5 q5 q5 z (SB (sb+i) (sb+j) q5 q5 q5)
    rw[this] at hb;cases hb
 have F3:∀i j,sa<=i->i<sb->sb+m<=j->j<sb+nb->r (lab ls j) (lab ls i)=false:=λi j a1 a2 b1 b2=>by
  have z:r (lab ls j) (lab ls (sb-1))=false:=by
   have:=g4 (j-sb) q5 q5
   rwa [show sb+(j-sb)=j by lia] at this
  by_cases e:i=sb-1
  ·rw[e];exact z
  ·exact le3 q5 q5 q5 (SA i (sb-1) a1 q5 q5) z
 dsimp only;refine wr (λe=>zP (q ls t1 N1 P1 (λ_ _=>rfl) λi j a1 a2 a3=>?_)) (λe=>?_)
 ·have ek : m = 0 := by simpa using e
  by_cases c1:j<sb
  ·exact SA i j a1 a2 q5
  ·by_cases c2 : i < sb
   ·exact F3 i j a1 q5 q5 q5
   ·exact SB i j q5 a2 q5
 have hm':1<=m:=by simp at e;lia
 have eX:(ls.map item).extract (sa+k) sb=(ls.extract (sa+k) sb).map item:=by rw[xq]
 have eY:(ls.map item).extract sb (sb+m)=(ls.extract sb (sb+m)).map item:=by rw[xq]
 rw[eX,eY]
 have zX:(ls.extract (sa+k) sb).size=sb-(sa+k):=by rw[wC];lia
 have zY:(ls.extract sb (sb+m)).size=m:=by rw[wC];lia
 have T:Two n r (ls.extract (sa+k) sb) (ls.extract sb (sb+m)):=by
  refine⟨λx hx=>?_,λx hx=>?_,λx hx y hy=>?_,zu1 q5 λi j a b c=>SA i j q5 b q5,zu1 q5 λi j a b c=>SB i j q5 b q5⟩
  ·obtain⟨i,_,h2,rfl⟩:=qr q5 hx;exact N.lt q5
  ·obtain⟨i,_,h2,rfl⟩:=qr q5 hx;exact N.lt q5
  ·obtain ⟨i, _, h2, rfl⟩ := qr q5 hx
   obtain⟨j,h3,h4,rfl⟩:=qr q5 hy
   exact N.ne q5 q5 q5
 have c1:r (lab (ls.extract sb (sb+m)) 0) (lab (ls.extract (sa+k) sb) 0)=true:=by
  rw[YI q5 q5,YI q5 q5]
  exact g2'
 have c2:∀y∈(ls.extract sb (sb+m)).toList,r y (lab (ls.extract (sa+k) sb) ((ls.extract (sa+k) sb).size-1))=true:=λy hy=>by
  obtain⟨j,h3,h4,rfl⟩:=qr q5 hy
  rw[zX,YI q5 q5,show sa+k+(sb-(sa+k)-1)=sb-1 by lia]
  have:=g3 (j-sb) q5
  rwa [show sb+(j-sb)=j by lia] at this
 have fin:∀out t2,Same t1 t2->Good item r (ls.extract (sa+k) sb) (ls.extract sb (sb+m)) out->wpS (model prog w) A E s (do
   modify λs=>setArr s (out.toList.zipIdx.foldl (λa (p,j)=>a.setIfInBounds (sa+k+j) p) (arrOf s))
   return (failedOf (<- get)).isNone) Q t2:=λout t2 S ⟨M,eM,pM,uM⟩=>by
  refine zl (yh (zl (wpS_get ?_)))
  have ef:(failedOf (setArr t2 (out.toList.zipIdx.foldl (λa (p,j)=>a.setIfInBounds (sa+k+j) p) (arrOf t2)))).isNone=true:=by
   show(failedOf t2).isNone=true;rw[S.ok,N1.ok];rfl
  rw[ef]
  obtain⟨ls',b1,b2,b3,b4⟩:=back (a:=sa+k) (b:=sb) (c:=sb+m) N q5 q5 q5 pM
  refine zP (q ls' _ ⟨?_,S.kd.trans N1.kd,S.ok.trans N1.ok,b2⟩ (S.pend.trans P1) (λk' hk'=>b3 k' q5) λi j a1 a2 a3=>?_)
  ·show out.toList.zipIdx.foldl (λa (p,j)=>a.setIfInBounds (sa+k+j) p) (arrOf t2)=_;rw[S.arr,N1.arr,eM];exact b1
  ·have zM : M.size = sb + m - (sa + k) := by
    have:=pM.length_eq;rw[zf,zA,zf,zf,zX,zY] at this;lia
   have inM:∀i,sa+k<=i->i<sb+m->∃i',sa+k<=i'/\i'<sb+m/\lab ls' i=lab ls i':=λi x1 x2=>by
    rw[b4 i x1 x2]
    have:lab M (i-(sa+k))∈(ls.extract (sa+k) sb).toList++(ls.extract sb (sb+m)).toList:=pM.mem_iff.mp (kN q5)
    rcases zI.mp this with h |h
    ·obtain⟨i',y1,y2,e⟩:=qr q5 h;exact⟨i',y1,q5,e⟩
    ·obtain⟨i',y1,y2,e⟩:=qr q5 h;exact⟨i',q5,y2,e⟩
   by_cases ci:i<sa+k
   ·rw [b3 i (.inl ci)]
    by_cases cj:j<sa+k
    ·rw [b3 j (.inl cj)]
     exact SA i j a1 a2 q5
    ·by_cases cj2 : j < sb + m
     ·obtain ⟨j', y1, y2, e⟩ := inM j q5 cj2
      rw[e]
      by_cases c3:j'<sb
      ·exact SA i j' a1 q5 q5
      ·exact F1 i j' a1 ci q5 q5
     ·rw [b3 j (.inr q5)]
      exact F1 i j a1 ci q5 q5
   ·by_cases ci2 : i < sb + m
    ·by_cases cj2 : j < sb + m
     ·rw [b4 i q5 ci2, b4 j q5 cj2]
      exact ZC uM q5 q5
     ·rw [b3 j (.inr q5)]
      obtain⟨i',y1,y2,e⟩:=inM i q5 ci2
      rw[e]
      by_cases c3:i'<sb
      ·exact F3 i' j q5 c3 q5 q5
      ·exact SB i' j q5 q5 q5
    ·rw [b3 i (.inr q5), b3 j (.inr q5)]
     exact SB i j q5 a2 q5
 refine wr (λe=>?_) (λe=>?_)
 ·exact zl (mlo ⟨R,T,c1,c2⟩ N1.kd q5 q5 fin)
 ·exact zl (mhi ⟨R,T,c1,c2⟩ N1.kd q5 q5 fin)
end
section
variable {n:Nat}{item:Nat->Keyed}{kd:SortKind}{r:Nat->Nat->Bool}{ls:Array Nat}{t:SortSt}
def Nw.mir(N:Nw n item kd ls t){i j:Nat}(hj:j<=n):Nw n item kd (mirror ls i j ((j-i)/2)) (setArr t (mirror (arrOf t) i j ((j-i)/2))):=
 ⟨by show mirror (arrOf t) i j _=_;rw[N.arr];exact zF6 (by rw[N.size];exact hj),N.kd,N.ok,(mirror_perm _ _ _ _).trans N.perm⟩
def Nw.bub(N:Nw n item kd ls t){src d:Nat}(hs:src<n)(hd:d<=src):Nw n item kd (bubble ls src d) (setArr t (bubble (arrOf t) src d)):=
 ⟨by show bubble (arrOf t) src d=_;rw[N.arr];exact zI9 (by rw[N.size];exact hs) hd,N.kd,N.ok,(bubble_perm _ _ _).trans N.perm⟩
structure Kp(lo:Nat)(ls:Array Nat)(t:SortSt)(ls':Array Nat)(t':SortSt):Prop where
 p:pendingOf t'=pendingOf t
 l:∀k,k<lo->lab ls' k=lab ls k
def Dn(r:Nat->Nat->Bool)(ls:Array Nat)(s m:Nat):Prop:=∀i j,s<=i->i<j->j<s+m->r (lab ls i) (lab ls j)=false
def Eqb(r:Nat->Nat->Bool)(ls:Array Nat)(a b:Nat):Prop:=∀i j,a<=i->i<b->a<=j->j<b->r (lab ls i) (lab ls j)=false
def Xu{a b k:Nat}(hb:b<=ls.size)(hk:k<ls.size):∃k',lab (mirror ls a b ((b-a)/2)) k=lab ls k'/\(a<=k/\k<b->a<=k'/\k'<b)/\(¬(a<=k/\k<b)->k'=k):=by
 by_cases h:a<=k/\k<b
 ·exact⟨a+b-1-k,by rw[qH hb hk,if_pos h],λ_=>by lia,λg=>absurd h g⟩
 ·exact⟨k,by rw[qH hb hk,if_neg h],λg=>absurd g h,λ_=>rfl⟩
def zw8{lo x e:Nat}(hx:lo+x<=ls.size)(D:Dn r ls lo x)(he:e+1<=x)(Q:Eqb r ls (lo+x-(e+1)) (lo+x)):Dn r (mirror ls (lo+x-(e+1)) (lo+x) ((lo+x-(lo+x-(e+1)))/2)) lo x:=λi j h1 h2 h3=>by
 obtain⟨i',e1,f1,f2⟩:=Xu (ls:=ls) (a:=lo+x-(e+1)) (b:=lo+x) (k:=i) hx q5
 obtain⟨j',e2,g1,g2⟩:=Xu (ls:=ls) (a:=lo+x-(e+1)) (b:=lo+x) (k:=j) hx q5
 rw[e1,e2]
 by_cases c1:lo+x-(e+1)<=i/\i<lo+x
 ·have := f1 c1
  have:=g1 q5
  exact Q _ _ q5 q5 q5 q5
 ·have c3 := f2 c1
  by_cases c2:lo+x-(e+1)<=j/\j<lo+x
  ·have := g1 c2
   exact D _ _ q5 q5 q5
  ·have := g2 c2
   exact D _ _ q5 q5 q5
end
section
variable {prog:Program}{w:World}{A:Around}{E:Value->Shared->Prop}{s:Shared}{n:Nat}{item:Nat->Keyed}{kd:SortKind}{r:Nat->Nat->Bool}{ls:Array Nat}{t:SortSt}
def zV6(R:WRule prog w A s n item kd r)(N:Nw n item kd ls t){i j:Nat}(hi:i<n)(hj:j<n)(hij:i≠j){Q:Option Bool->SortSt->Prop}(q:Q (some (r (lab ls i) (lab ls j))) t):wpS (model prog w) A E s (ltAt' i j) Q t:=by
 have hs:=N.size;rw[ltAt'_eq];refine zl (wpS_get ?_);dsimp only;rw[N.arr]
 exact zl (wV q5 (zl (wV q5 (Vv R N.kd (N.lt hi) (N.lt hj) (N.ne hi hj hij) q))))
def WRule.irr(R:WRule prog w A s n item kd r){a:Nat}(h:a<n):r a a=false:=by
 cases z:r a a with
 |false=>rfl
 |true=>have:=R.asy a a h h z;rw[z] at this;exact this
def zl9{i j:Nat}{Q:Unit->SortSt->Prop}(q:Q () (setArr t (mirror (arrOf t) i j ((j-i)/2)))):wpS (model prog w) A E s (reverseSlice' i j) Q t:=by
 rw[reverseSlice'_eq];exact yh q
def zV7(R:WRule prog w A s n item kd r)(N:Nw n item kd ls t){lo a nrem:Nat}(h1:1<=a)(ha:a<=nrem)(hn:lo+nrem<=n)(U:Seg r ls lo a){x:Nat}(hx:x<nrem)(hax:a<=x)(V:Seg r ls lo x){Q:Option Bool->SortSt->Prop}
  (q1:r (lab ls (lo+x)) (lab ls (lo+x-1))=true->Q (some true) t) (q2:Seg r ls lo (x+1)->Q (some false) t):wpS (model prog w) A E s (ltAt' (lo+x) (lo+x-1)) Q t:=by
 refine zV6 R N q5 q5 q5 ?_
 cases z:r (lab ls (lo+x)) (lab ls (lo+x-1)) with
 |true=>exact q1 z
 | false =>
  refine q2 λi j i1 i2 i3=>?_
  by_cases hj:j<lo+x
  ·exact V i j i1 i2 hj
  ·obtain rfl : j = lo + x := by lia
   by_cases hi:i=lo+x-1
   ·rw[hi];exact z
   ·exact R.tr _ _ _ (N.lt q5) (N.lt (i:=lo+x-1) q5) (N.lt q5) (V i (lo+x-1) i1 q5 q5) z
def zL0(R:WRule prog w A s n item kd r)(N:Nw n item kd ls t){lo a nrem:Nat}(h1:1<=a)(ha:a<=nrem)(hn:lo+nrem<=n)(D:Dn r ls lo a){Q:Option Nat->SortSt->Prop}
  (q:∀m ls' t',1<=m->m<=nrem->Nw n item kd ls' t'->Kp lo ls t ls' t'->Seg r ls' lo m->Q (some m) t'):wpS (model prog w) A E s (Ub lo a nrem) Q t:=by
 have hs:=N.size;unfold Ub;refine zl (zl9 ?_)
 have N':=N.mir (i:=lo) (j:=lo+a) q5
 have K':Kp lo ls t (mirror ls lo (lo+a) ((lo+a-lo)/2)) (setArr t (mirror (arrOf t) lo (lo+a) ((lo+a-lo)/2))):=⟨rfl,λk hk=>by rw[qH q5 q5,if_neg q5]⟩
 have U:Seg r (mirror ls lo (lo+a) ((lo+a-lo)/2)) lo a:=λi j i1 i2 i3=>by
  rw[qH q5 q5,qH q5 q5,if_pos q5,if_pos q5]
  exact D _ _ q5 q5 q5
 generalize mirror ls lo (lo+a) ((lo+a-lo)/2)=ls' at N' K' U;generalize setArr t (mirror (arrOf t) lo (lo+a) ((lo+a-lo)/2))=t' at N' K' ⊢;refine zl (yx (wk (λx c t2=>t2=t'/\c=(none,x)/\Seg r ls' lo x) (Q:=λc t2=>t2=t'/\∃m,c=(none,m)/\a<=m/\m<=nrem/\Seg r ls' lo m) ?_ ?_ ⟨rfl,rfl,U⟩) ?_)
 ·rintro x c t2 hx hxn ⟨rfl, rfl, V⟩;dsimp only
  exact zl (zV7 R N' h1 ha hn U hxn hx V (λ_=>zP ⟨rfl,x,rfl,hx,q5,V⟩) (λV'=>zP ⟨rfl,rfl,V'⟩))
 ·rintro c t2 ⟨rfl, rfl, V⟩
  rw[show max a nrem=nrem by lia] at V ⊢
  exact⟨rfl,nrem,rfl,ha,zj _,V⟩
 ·rintro c t2 ⟨rfl, m, rfl, m1, m2, V⟩
  exact zP (q m ls' t2 q5 m2 N' K' V)
def zU8(R:WRule prog w A s n item kd r)(N:Nw n item kd ls t){lo a nrem:Nat}(h1:1<=a)(ha:a<nrem)(hn:lo+nrem<=n)(D:Dn r ls lo (a+1)){Q:Option Nat->SortSt->Prop}
  (q:∀m ls' t',1<=m->m<=nrem->Nw n item kd ls' t'->Kp lo ls t ls' t'->Seg r ls' lo m->Q (some m) t'):wpS (model prog w) A E s (Wn lo a nrem) Q t:=by
 have hs:=N.size;unfold Wn;refine zl (wpS_lift (yi ⟨rfl,?_⟩))
 refine zl (yx (wk (λx c t2=>∃(ls2:Array Nat) (e:Nat),c=(none,x,e)/\Nw n item kd ls2 t2/\Kp lo ls t ls2 t2/\Dn r ls2 lo x/\e+1<=x/\Eqb r ls2 (lo+x-(e+1)) (lo+x))
  (Q:=λc t2=>∃(ls2:Array Nat) (x e:Nat),c=(none,x,e)/\1<=x/\x<=nrem/\Nw n item kd ls2 t2/\Kp lo ls t ls2 t2/\Dn r ls2 lo x/\e+1<=x/\Eqb r ls2 (lo+x-(e+1)) (lo+x)) ?_ ?_ ⟨ls,0,rfl,N,⟨rfl,λ_ _=>rfl⟩,D,q5,?_⟩) ?_)
 ·rintro x c t2 hx hxn ⟨ls2, e, rfl, N2, K2, D2, he, Q2⟩;have hs2:=N2.size;dsimp only
  have one:∀(l3:Array Nat) (t3:SortSt),Nw n item kd l3 t3->Eqb r l3 (lo+(x+1)-(0+1)) (lo+(x+1)):=λl3 t3 N3 i j i1 i2 j1 j2=>by
   obtain⟨rfl,rfl⟩:i=lo+x/\j=lo+x:=q5
   exact R.irr (N3.lt q5)
  refine zl (zV6 R N2 q5 q5 q5 ?_)
  cases z:r (lab ls2 (lo+x)) (lab ls2 (lo+x-1)) with
  | true =>
   simp only[if_true]
   have below:∀p,lo<=p->p<lo+x->r (lab ls2 p) (lab ls2 (lo+x))=false:=λp p1 p2=>by
    have z':=R.asy _ _ (N2.lt q5) (N2.lt q5) z
    by_cases ep:p=lo+x-1
    ·rw[ep];exact z'
    ·exact R.tr _ _ _ (N2.lt q5) (N2.lt (i:=lo+x-1) q5) (N2.lt q5) z' (D2 p (lo+x-1) p1 q5 q5)
   refine wr (λh0=>?_) (λh0=>?_)
   ·refine zl (zl9 (zP ?_))
    have N3:=N2.mir (i:=lo+x-(e+1)) (j:=lo+x) q5
    refine⟨_,0,rfl,N3,⟨K2.p,λk hk=>?_⟩,λi j i1 i2 i3=>?_,q5,one _ _ N3⟩
    ·rw[qH q5 q5,if_neg q5];exact K2.l k hk
    ·by_cases hj : j < lo + x
     ·exact zw8 q5 D2 he Q2 i j i1 i2 hj
     ·obtain rfl : j = lo + x := by lia
      obtain⟨i',e1,f1,f2⟩:=Xu (ls:=ls2) (a:=lo+x-(e+1)) (b:=lo+x) (k:=i) q5 q5
      obtain⟨j',e2,g1,g2⟩:=Xu (ls:=ls2) (a:=lo+x-(e+1)) (b:=lo+x) (k:=lo+x) q5 q5
      rw[e1,e2,g2 q5]
      by_cases c1:lo+x-(e+1)<=i/\i<lo+x
      ·have := f1 c1
       exact below i' q5 q5
      ·rw[f2 c1];exact below i i1 q5
   ·refine zP ⟨ls2, 0, rfl, N2, K2, λi j i1 i2 i3 => ?_, by lia, one _ _ N2⟩
    by_cases hj:j<lo+x
    ·exact D2 i j i1 i2 hj
    ·obtain rfl : j = lo + x := by lia
     exact below i i1 q5
  | false =>
   simp only[xW,if_false]
   refine zl (zV6 R N2 q5 q5 q5 ?_)
   cases z2:r (lab ls2 (lo+x-1)) (lab ls2 (lo+x)) with
   |true=>exact zP ⟨ls2,x,e,rfl,q5,q5,N2,K2,D2,he,Q2⟩
   | false =>
    have up:∀p,lo+x-(e+1)<=p->p<lo+x->r (lab ls2 p) (lab ls2 (lo+x))=false/\r (lab ls2 (lo+x)) (lab ls2 p)=false:=λp p1 p2=>by
     have y1:=Q2 p (lo+x-1) p1 p2 q5 q5
     have y2:=Q2 (lo+x-1) p q5 q5 p1 p2
     exact⟨R.tr _ _ _ (N2.lt q5) (N2.lt (i:=lo+x-1) q5) (N2.lt q5) z2 y1,R.tr _ _ _ (N2.lt q5) (N2.lt (i:=lo+x-1) q5) (N2.lt q5) y2 z⟩
    refine zP ⟨ls2,e+1,rfl,N2,K2,λi j i1 i2 i3=>?_,q5,λi j i1 i2 j1 j2=>?_⟩
    ·by_cases hj : j < lo + x
     ·exact D2 i j i1 i2 hj
     ·obtain rfl : j = lo + x := by lia
      by_cases hi:i=lo+x-1
      ·rw[hi];exact z2
      ·exact R.tr _ _ _ (N2.lt q5) (N2.lt (i:=lo+x-1) q5) (N2.lt q5) z2 (D2 i (lo+x-1) i1 q5 q5)
    ·by_cases c1 : i = lo + x
     ·by_cases c2 : j = lo + x
      ·rw[c1,c2];exact R.irr (N2.lt q5)
      ·rw[c1];exact(up j q5 q5).2
     ·by_cases c2 : j = lo + x
      ·rw[c2];exact(up i q5 q5).1
      ·exact Q2 i j q5 q5 q5 q5
 ·rintro c t2 ⟨ls2, e, rfl, N2, K2, D2, he, Q2⟩
  rw[show max (a+1) nrem=nrem by lia] at D2 he Q2 ⊢
  exact⟨ls2,nrem,e,rfl,q5,zj _,N2,K2,D2,he,Q2⟩
 ·intro i j i1 i2 j1 j2
  obtain⟨rfl,rfl⟩:i=lo+a/\j=lo+a:=q5
  exact R.irr (N.lt q5)
 ·rintro c t2 ⟨ls2, x, e, rfl, x1, x2, N2, K2, D2, he, Q2⟩;have hs2:=N2.size;dsimp only
  have goon:∀(l3:Array Nat) (t3:SortSt),Nw n item kd l3 t3->Kp lo ls t l3 t3->Dn r l3 lo x->wpS (model prog w) A E s (Ub lo x nrem) Q t3:=λl3 t3 N3 K3 D3=>
   zL0 R N3 x1 x2 hn D3 λm ls' t' m1 m2 N' K' S'=>q m ls' t' m1 m2 N' ⟨K'.p.trans K3.p,λk hk=>(K'.l k hk).trans (K3.l k hk)⟩ S'
  refine wr (λh0=>?_) (λh0=>goon ls2 t2 N2 K2 D2);refine zl (zl9 ?_)
  refine goon _ _ (N2.mir q5) ⟨K2.p,λk hk=>?_⟩ (zw8 q5 D2 he Q2)
  rw[qH q5 q5,if_neg q5];exact K2.l k hk
def xa0(R:WRule prog w A s n item kd r)(N:Nw n item kd ls t){lo nrem:Nat}(h1:1<=nrem)(hn:lo+nrem<=n){Q:Option Nat->SortSt->Prop}
  (q:∀m ls' t',1<=m->m<=nrem->Nw n item kd ls' t'->Kp lo ls t ls' t'->Seg r ls' lo m->Q (some m) t'):wpS (model prog w) A E s (countRun' lo nrem) Q t:=by
 have hs:=N.size;rw[countRun'_eq]
 have U:Seg r ls lo 1:=λi j a b c=>by lia
 refine zl (yx (wk (λx c t2=>t2=t/\c=(none,x)/\Seg r ls lo x) (Q:=λc t2=>t2=t/\∃m,c=(none,m)/\1<=m/\m<=nrem/\Seg r ls lo m/\(m<nrem->r (lab ls (lo+m)) (lab ls (lo+m-1))=true)) ?_ ?_ ⟨rfl,rfl,U⟩) ?_)
 ·rintro x c t2 hx hxn ⟨rfl, rfl, V⟩;dsimp only
  exact zl (zV7 R N (zj _) h1 hn U hxn hx V (λz=>zP ⟨rfl,x,rfl,hx,q5,V,λ_=>z⟩) (λV'=>zP ⟨rfl,rfl,V'⟩))
 ·rintro c t2 ⟨rfl, rfl, V⟩
  rw[show max 1 nrem=nrem by lia] at V ⊢
  exact⟨rfl,nrem,rfl,h1,zj _,V,λh=>by lia⟩
 ·rintro c t2 ⟨rfl, m, rfl, m1, m2, V, z⟩;dsimp only;have K0:Kp lo ls t2 ls t2:=⟨rfl,λ_ _=>rfl⟩;refine wr (λe=>zP (q m ls t2 m1 m2 N K0 V)) (λe=>?_)
  have hm:m<nrem:=by simp at e;lia
  have z:=z hm
  have z':=R.asy _ _ (N.lt q5) (N.lt q5) z
  have low:∀(l3:Array Nat) (t3:SortSt),Nw n item kd l3 t3->Kp lo ls t2 l3 t3->Dn r l3 lo (m+1)->wpS (model prog w) A E s (Wn lo m nrem) Q t3:=λl3 t3 N3 K3 D3=>
   zU8 R N3 m1 hm hn D3 λm ls' t' m1 m2 N' K' S'=>q m ls' t' m1 m2 N' ⟨K'.p.trans K3.p,λk hk=>(K'.l k hk).trans (K3.l k hk)⟩ S'
  refine wr (λg=>?_) (λg=>?_)
  ·refine zl (zV6 R N q5 q5 q5 ?_)
   cases z2:r (lab ls lo) (lab ls (lo+m-1)) with
   |true=>exact zP (q m ls t2 m1 m2 N K0 V)
   | false =>
    simp only[xW,if_false];refine zl (zl9 ?_)
    have ge:∀p,lo<=p->p<lo+m->r (lab ls lo) (lab ls p)=false:=λp p1 p2=>by
     by_cases ep:p=lo+m-1
     ·rw[ep];exact z2
     ·exact R.tr _ _ _ (N.lt q5) (N.lt (i:=lo+m-1) q5) (N.lt q5) (V p (lo+m-1) p1 q5 q5) z2
    have Q2:Eqb r ls lo (lo+m):=λi j i1 i2 j1 j2=>by
     rcases Nat.lt_trichotomy i j with c |c |c
     ·by_cases ei : i = lo
      ·rw[ei];exact ge j j1 j2
      ·exact R.tr _ _ _ (N.lt q5) (N.lt (i:=lo) q5) (N.lt q5) (ge j j1 j2) (V lo i q5 q5 i2)
     ·rw[c];exact R.irr (N.lt q5)
     ·exact V j i j1 c i2
    have below:∀p,lo<=p->p<lo+m->r (lab ls p) (lab ls (lo+m))=false:=λp p1 p2=>
     R.tr _ _ _ (N.lt q5) (N.lt (i:=lo+m-1) q5) (N.lt q5) z' (Q2 p (lo+m-1) p1 p2 q5 q5)
    refine low _ _ (N.mir q5) ⟨rfl,λk hk=>?_⟩ λi j i1 i2 i3=>?_
    ·rw[qH q5 q5,if_neg q5]
    ·obtain ⟨i', e1, f1, f2⟩ := Xu (ls := ls) (a := lo) (b := lo + m) (k := i) q5 q5
     obtain⟨j',e2,g1,g2⟩:=Xu (ls:=ls) (a:=lo) (b:=lo+m) (k:=j) q5 q5
     rw[e1,e2]
     have fi:=f1 q5
     by_cases c2:j<lo+m
     ·have gj := g1 q5
      exact Q2 _ _ q5 q5 q5 q5
     ·rw [g2 q5, show j = lo + m by lia]
      exact below i' q5 q5
  ·obtain rfl : m = 1 := by lia
   refine low ls t2 N K0 λi j i1 i2 i3=>?_
   obtain⟨rfl,rfl⟩:i=lo/\j=lo+1:=q5
   exact z'
def xg3(R:WRule prog w A s n item kd r)(N:Nw n item kd ls t){lo m f:Nat}(hm:m<=f)(hf:lo+f<=n)(U:Seg r ls lo m){Q:Bool->SortSt->Prop}(q:∀ls' t',Nw n item kd ls' t'->Kp lo ls t ls' t'->Seg r ls' lo f->Q true t'):wpS (model prog w) A E s (binarySort' lo f m) Q t:=by
 rw[binarySort'_eq];refine zl (yx (wk (λk c t'=>c=(none,())/\∃ls',Nw n item kd ls' t'/\Kp lo ls t ls' t'/\Seg r ls' lo (min k f)) (Q:=λc t'=>c=(none,())/\∃ls',Nw n item kd ls' t'/\Kp lo ls t ls' t'/\Seg r ls' lo f) ?_ ?_ ⟨rfl,ls,N,⟨rfl,λ_ _=>rfl⟩,λi j i1 i2 i3=>?_⟩) ?_)
 ·rintro k c t' hk hkn ⟨rfl, ls', N', K', U'⟩
  rw[show min k f=k by lia] at U'
  have hsz:=N'.size
  refine zl (yx (wk (λx c t2=>t2=t'/\∃l h,c=(none,l,h)/\l<=h/\h<=k/\h-l<=k-x/\(∀i,i<l->r (lab ls' (lo+k)) (lab ls' (lo+i))=false)/\∀i,h<=i->i<k->r (lab ls' (lo+i)) (lab ls' (lo+k))=false)
   (Q:=λc t2=>t2=t'/\∃l h,c=(none,l,h)/\l<=k/\(∀i,i<l->r (lab ls' (lo+k)) (lab ls' (lo+i))=false)/\∀i,l<=i->i<k->r (lab ls' (lo+i)) (lab ls' (lo+k))=false) ?_ ?_ ⟨rfl,0,k,rfl,q5,q5,q5,λi hi=>by lia,λi h1 h2=>by lia⟩) ?_)
  ·rintro x c t2 _ hx ⟨rfl, l, h, rfl, g1, g2, g3, g4, g5⟩;dsimp only
   refine wr (λhd=>zP ⟨rfl,l,h,rfl,q5,g4,λi i1 i2=>g5 i q5 i2⟩) (λhd=>?_)
   refine zl (zV6 R N' q5 q5 q5 ?_)
   cases z:r (lab ls' (lo+k)) (lab ls' (lo+(l+h)/2))
   ·refine zP ⟨rfl, (l + h) / 2 + 1, h, rfl, by lia, by lia, by lia, λi hi => ?_, g5⟩
    by_cases e:i=(l+h)/2
    ·rw[e];exact z
    ·exact R.tr _ _ _ (N'.lt q5) (N'.lt (i:=lo+(l+h)/2) q5) (N'.lt q5) (U' (lo+i) (lo+(l+h)/2) q5 q5 q5) z
   ·have z' := R.asy _ _ (N'.lt q5) (N'.lt q5) z
    refine zP ⟨rfl,l,(l+h)/2,rfl,q5,q5,q5,g4,λi i1 i2=>?_⟩
    by_cases e:i=(l+h)/2
    ·rw[e];exact z'
    ·exact R.tr _ _ _ (N'.lt q5) (N'.lt (i:=lo+(l+h)/2) q5) (N'.lt q5) z' (U' (lo+(l+h)/2) (lo+i) q5 q5 q5)
  ·rintro c t2 ⟨rfl, l, h, rfl, g1, g2, g3, g4, g5⟩
   exact⟨rfl,l,h,rfl,q5,g4,λi i1 i2=>g5 i q5 i2⟩
  ·rintro c t2 ⟨rfl, l, h, rfl, g1, g2, g3⟩;show wpS (model prog w) A E s (moveDown' (lo+k) (lo+l) >>= λ_=>pure (ForInStep.yield (none,()))) _ t2;rw[moveDown'_eq]
   refine zl (yh (zP ⟨rfl,_,N'.bub (src:=lo+k) (d:=lo+k-(lo+l)) q5 q5,⟨K'.p,λp hp=>?_⟩,?_⟩))
   ·rw [UZ q5 q5 q5, if_neg q5, if_neg q5]
    exact K'.l p hp
   ·rw [show min (k + 1) f = k + 1 by lia]
    intro i j i1 hij hj
    have el:lo+k-(lo+k-(lo+l))=lo+l:=q5
    have F2:∀i,lo<=i->i<lo+l->r (lab ls' (lo+k)) (lab ls' i)=false:=λi i1 i2=>by
     have:=g2 (i-lo) q5
     rwa [show lo+(i-lo)=i by lia] at this
    have F3:∀i,lo+l<=i->i<lo+k->r (lab ls' i) (lab ls' (lo+k))=false:=λi i1 i2=>by
     have:=g3 (i-lo) q5 q5
     rwa [show lo+(i-lo)=i by lia] at this
    rw[UZ q5 q5 q5,UZ q5 q5 q5,el]
    by_cases c1:i=lo+l
    ·rw [if_neg (show ¬ j = lo + l by lia), if_pos (show lo + l < j /\ j <= lo + k by lia), if_pos c1]
     exact F3 _ q5 q5
    ·rw [if_neg c1]
     by_cases c2:j=lo+l
     ·rw [if_pos c2, if_neg (show ¬ (lo + l < i /\ i <= lo + k) by lia)]
      exact F2 _ i1 q5
     ·rw [if_neg c2]
      by_cases c3:lo+l<i/\i<=lo+k
      ·rw [if_pos c3, if_pos (show lo + l < j /\ j <= lo + k by lia)]
       exact U' _ _ q5 q5 q5
      ·rw [if_neg c3]
       by_cases c4:lo+l<j/\j<=lo+k
       ·rw[if_pos c4];exact U' _ _ q5 q5 q5
       ·rw[if_neg c4];exact U' _ _ q5 q5 q5
 ·rintro c t' ⟨rfl, ls', N', K', U'⟩
  rw[show min (max (max m 1) f) f=f by lia] at U'
  exact⟨rfl,ls',N',K',U'⟩
 ·exact U i j i1 i2 q5
 ·rintro c t' ⟨rfl,ls',N',K',U'⟩;exact zP (q ls' t' N' K' U')
end
def Ch(r:Nat->Nat->Bool)(ls:Array Nat):Nat->List (Nat × Nat)->Nat->Prop
 |a,[],b=>a=b
 |a,(s,m)::rest,b=>s=a/\1<=m/\Seg r ls s m/\Ch r ls (a+m) rest b
def prs(p:Array (Nat × Nat × Nat)):List (Nat × Nat):=p.toList.map λx=>(x.1,x.2.1)
section
variable {r:Nat->Nat->Bool}{ls ls':Array Nat}
theorem Ch.len:∀{l:List (Nat × Nat)}{a b:Nat},Ch r ls a l b->a+l.length<=b
 |[],a,b,h=>by rw[show a=b from h];exact zj _
 |(s,m)::l,a,b,h=>by have:=h.2.2.2.len;have:=h.2.1;rw[zt];lia
theorem Ch.split:∀{l1 l2:List (Nat × Nat)}{a b:Nat},Ch r ls a (l1++l2) b->∃c,Ch r ls a l1 c/\Ch r ls c l2 b
 |[],l2,a,b,h=>⟨a,rfl,h⟩
 |(s,m)::l1,l2,a,b,h=>by
  obtain⟨c,h1,h2⟩:=h.2.2.2.split;exact⟨c,⟨h.1,h.2.1,h.2.2.1,h1⟩,h2⟩
theorem Ch.join:∀{l1 l2:List (Nat × Nat)}{a b c:Nat},Ch r ls a l1 c->Ch r ls c l2 b->Ch r ls a (l1++l2) b
 |[],l2,a,b,c,h,g=>by rw[show a=c from h];exact g
 |(s,m)::l1,l2,a,b,c,h,g=>⟨h.1,h.2.1,h.2.2.1,h.2.2.2.join g⟩
def Seg.same{s m:Nat}(h:Seg r ls s m)(e:∀k,s<=k->k<s+m->lab ls' k=lab ls k):Seg r ls' s m:=λi j i1 i2 i3=>by
 rw[e i i1 q5,e j q5 i3];exact h i j i1 i2 i3
theorem Ch.same:∀{l:List (Nat × Nat)}{a b:Nat},Ch r ls a l b->(∀k,a<=k->k<b->lab ls' k=lab ls k)->Ch r ls' a l b
 |[],a,b,h,_=>h
 |(s,m)::l,a,b,h,e=>by
  have z:=h.2.2.2.len;have hsa:=h.1
  exact⟨h.1,h.2.1,h.2.2.1.same λk k1 k2=>e k q5 q5,h.2.2.2.same λk k1 k2=>e k q5 k2⟩
end
section
variable {prog:Program}{w:World}{A:Around}{E:Value->Shared->Prop}{s:Shared}{n:Nat}{item:Nat->Keyed}{kd:SortKind}{r:Nat->Nat->Bool}{ls:Array Nat}{t:SortSt}
def zw0(R:WRule prog w A s n item kd r)(N:Nw n item kd ls t){lo i:Nat}(hlo:lo<=n)(C:Ch r ls 0 (prs (pendingOf t)) lo)(hi:i+1<(pendingOf t).size){Q:Bool->SortSt->Prop}
  (q:∀ls' t',Nw n item kd ls' t'->Ch r ls' 0 (prs (pendingOf t')) lo->(pendingOf t').size+1=(pendingOf t).size->(∀k,lo<=k->lab ls' k=lab ls k)->Q true t'):wpS (model prog w) A E s (mergeAt' i) Q t:=by
 have hl:(pendingOf t).toList.length=(pendingOf t).size:=zf
 have e1:(pendingOf t).toList=(pendingOf t).toList.take i++(pendingOf t)[i]::(pendingOf t)[i+1]::(pendingOf t).toList.drop (i+2):=by
  conv=>lhs;rw[<- wy i (pendingOf t).toList]
  congr 1
  rw[List.drop_eq_getElem_cons q5,List.drop_eq_getElem_cons q5]
  simp
 rcases ha:(pendingOf t)[i] with ⟨sa,na,p⟩;rcases hb:(pendingOf t)[i+1] with ⟨sb,nb,p2⟩;rw[ha,hb] at e1;have C':=C;unfold prs at C';rw[e1,xU] at C';obtain⟨c,c1,c2⟩:=C'.split;obtain⟨rfl,na1,sga,c3⟩:=c2;obtain⟨rfl,nb1,sgb,c4⟩:=c3;dsimp only at na1 nb1 sga sgb c4;have z4:=c4.len
 refine mat R N (by rw[wv q5,ha]) (by rw[wv q5,hb]) rfl na1 nb1 q5 sga sgb λls' t' N' P' S' G'=>?_
 have e2:(pendingOf t').toList=(pendingOf t).toList.take i++(sa,na+nb,p)::(pendingOf t).toList.drop (i+2):=by
  rw[P',Array.toList_eraseIdxIfInBounds,Array.toList_setIfInBounds]
  have hti:((pendingOf t).toList.take i).length=i:=by rw[xk];lia
  generalize (pendingOf t).toList.take i=l1 at e1 hti ⊢;generalize (pendingOf t).toList.drop (i+2)=l2 at e1 ⊢
  rw[e1,List.set_append_right _ _ q5,hti,Nat.sub_self,List.set_cons_zero,List.eraseIdx_append_of_length_le q5,hti,Nat.add_sub_cancel_left]
  rfl
 have hsz:(pendingOf t').size+1=(pendingOf t).size:=by
  rw[<- zf,e2,zA,zt,xk,wB];lia
 refine q ls' t' N' ?_ hsz λk hk=>S' k (.inr (zF q5 hk))
 unfold prs;rw[e2,xU];refine Ch.join (c1.same λk k1 k2=>S' k (.inl k2)) ⟨rfl,zF na1 (Nat.le_add_right ..),G',?_⟩;rw[<- Nat.add_assoc];exact c4.same λk k1 k2=>S' k (.inr k1)
def zG6{c:Prop}[Decidable c]{x:Nat}:(if c then x-1 else x)<=x:=by split<;>lia
def zC2{p:Array (Nat × Nat × Nat)}{i g:Nat}:prs (p.modify i λx=>(x.1,x.2.1,g))=prs p:=by
 unfold prs;rw[Array.toList_modify];refine List.ext_getElem? λk=>?_;rw[zE,zE,List.getElem?_modify]
 cases p.toList[k]? with
 |none=>rfl
 |some x=>by_cases h:i=k<;>simp[h]
def xi2(R:WRule prog w A s n item kd r)(N:Nw n item kd ls t)(hp:pendingOf t=#[])(h2:2<=n){Q:Unit->SortSt->Prop}(q:∀ls' t',arrOf t'=ls'.map item->failedOf t'=none->ls'.Perm (Array.range n)->Seg r ls' 0 n->Q () t'):wpS (model prog w) A E s sortRuns' Q t:=by
 rw[sortRuns'_eq];refine zl (wpS_get ?_)
 have esz:(arrOf t).size=n:=by rw[N.arr,zK,N.size]
 dsimp only;simp only[esz];generalize minRun' n n 0=mr
 refine zl (yx (wk (λx c t'=>∃(ls':Array Nat) (lo:Nat),c=(none,lo)/\Nw n item kd ls' t'/\Ch r ls' 0 (prs (pendingOf t')) lo/\lo<=n/\x<=lo) (Q:=λc t'=>∃ls':Array Nat,c=(none,n)/\Nw n item kd ls' t'/\Ch r ls' 0 (prs (pendingOf t')) n) ?_ ?_ ⟨ls,0,rfl,N,?_,q5,q5⟩) ?_)
 ·rintro x c t' _ hx ⟨ls1, lo, rfl, N1, C1, l1, l2⟩;dsimp only;refine wr (λe=>?_) (λe=>?_)
  ·obtain rfl : lo = n := by lia
   exact zP ⟨ls1,rfl,N1,C1⟩
  ·refine zl (xa0 R N1 q5 q5 λm ls2 t2 m1 m2 N2 K2 S2 => ?_)
   dsimp only
   have C2:Ch r ls2 0 (prs (pendingOf t2)) lo:=by rw[K2.p];exact C1.same λk _ hk=>K2.l k hk
   have close:∀(m:Nat) (l3:Array Nat) (t3:SortSt),1<=m->m<=n-lo->Nw n item kd l3 t3->Ch r l3 0 (prs (pendingOf t3)) lo->Seg r l3 lo m ->
     ∃(l':Array Nat) (lo':Nat),((none,lo+m):Option Unit × Nat)=(none,lo')/\Nw n item kd l' (setPending t3 ((pendingOf t3).push (lo,m,0)))/\Ch r l' 0 (prs (pendingOf (setPending t3 ((pendingOf t3).push (lo,m,0))))) lo'/\lo'<=n/\x+1<=lo':=λm l3 t3 m1 m2 N3 C3 S3=>by
    refine⟨l3,lo+m,rfl,⟨N3.arr,N3.kd,N3.ok,N3.perm⟩,?_,q5,q5⟩
    show Ch r l3 0 (prs ((pendingOf t3).push (lo,m,0))) (lo+m);unfold prs at C3 ⊢;rw[yC,xU];exact C3.join ⟨rfl,m1,S3,rfl⟩
   have step:∀(pw:Nat) (m:Nat) (l3:Array Nat) (t3:SortSt),Nw n item kd l3 t3->Ch r l3 0 (prs (pendingOf t3)) lo->Seg r l3 lo m->lo+m<=n->∀(i:Nat) (Q:Bool->SortSt->Prop),i+1<(pendingOf t3).size->(∀l4 t4,Nw n item kd l4 t4->Ch r l4 0 (prs (pendingOf t4)) lo->Seg r l4 lo m->Q true t4)->wpS (model prog w) A E s (mergeAt' i) Q t3:=λpw m l3 t3 N3 C3 S3 hm i Q hi hQ=>
    zw0 R N3 l1 C3 hi λl4 t4 N4 C4 _ K4=>hQ l4 t4 N4 C4 (S3.same λk k1 _=>K4 k k1)
   refine wr (λg=>zl (wpS_lift (yi ⟨rfl,zl (xg3 R N2 q5 q5 S2 λl3 t3 N3 K3 S3=>?_)⟩))) (λg=>?_)
   case' refine_1=>
    simp only[Bool.not_true,xW,if_false]
    have C3:Ch r l3 0 (prs (pendingOf t3)) lo:=by rw[K3.p];exact C2.same λk _ hk=>K3.l k hk
    have m3:1<=min (n-lo) mr:=q5
    have m4:min (n-lo) mr<=n-lo:=Nat.min_le_left ..;generalize min (n-lo) mr=f at m3 m4 S3 ⊢;clear N2 K2 S2 C2 K3
   case' refine_2=>
    have N3:=N2;have C3:=C2;have S3:=S2;have m3:=m1;have m4:=m2;clear N2 K2 S2 C2;generalize ls2=l3 at *;generalize t2=t3 at *;generalize m=f at *
   all_goals
    refine zl (wpS_get ?_)
    cases hbk:(pendingOf t3).back? with
    |none=>exact zl (yh (zP (close f l3 t3 m3 m4 N3 C3 S3)))
    | some y =>
     obtain⟨s1,n1,p1⟩:=y;dsimp only;generalize power' n (2*s1+n1) (2*s1+n1+n1+f) n=pw;refine zl (yx (wk (λx c t4=>c=(none,())/\∃l4,Nw n item kd l4 t4/\Ch r l4 0 (prs (pendingOf t4)) lo/\Seg r l4 lo f) (Q:=λc t4=>c=(none,())/\∃l4,Nw n item kd l4 t4/\Ch r l4 0 (prs (pendingOf t4)) lo/\Seg r l4 lo f) ?_ (λ_ _ h=>h) ⟨rfl,l3,N3,C3,S3⟩) ?_)
     ·rintro x c t4 _ _ ⟨rfl, l4, N4, C4, S4⟩;refine zl (wpS_get ?_)
      by_cases hsz:(pendingOf t4).size > 1
      ·rw [if_pos hsz, wv q5]
       rcases(pendingOf t4)[(pendingOf t4).size-2] with ⟨a,b,older⟩;dsimp only;refine wr (λ_=>zP ⟨rfl,l4,N4,C4,S4⟩) (λ_=>?_)
       refine zl (step pw f l4 t4 N4 C4 S4 q5 _ _ q5 λl5 t5 N5 C5 S5=>?_)
       exact zP ⟨rfl,l5,N5,C5,S5⟩
      ·rw[if_neg hsz];exact zP ⟨rfl,l4,N4,C4,S4⟩
     ·rintro c t4 ⟨rfl,l4,N4,C4,S4⟩;dsimp only;refine zl (yh (zl (yh (zP (close f l4 _ m3 m4 ⟨N4.arr,N4.kd,N4.ok,N4.perm⟩ ?_ S4)))));show Ch r l4 0 (prs ((pendingOf t4).modify ((pendingOf t4).size-1) λx=>(x.1,x.2.1,pw))) lo;rw[zC2];exact C4
 ·rintro c t' ⟨ls1, lo, rfl, N1, C1, l1, l2⟩
  obtain rfl:lo=n:=q5
  exact⟨ls1,rfl,N1,C1⟩
 ·rw[hp];rfl
 ·rintro c t' ⟨ls1, rfl, N1, C1⟩;dsimp only;have z0:=C1.len
  have zp:∀t2:SortSt,(prs (pendingOf t2)).length=(pendingOf t2).size:=λt2=>by unfold prs;rw[zm,zf]
  rw[zp] at z0
  refine zl (yx (wk (λx c t2=>c=(none,())/\∃l2,Nw n item kd l2 t2/\Ch r l2 0 (prs (pendingOf t2)) n/\(pendingOf t2).size+x<=n) (Q:=λc t2=>c=(none,())/\∃l2,Nw n item kd l2 t2/\Ch r l2 0 (prs (pendingOf t2)) n/\(pendingOf t2).size<=1) ?_ ?_ ⟨rfl,ls1,N1,C1,q5⟩) ?_)
  ·rintro x c t2 _ hx ⟨rfl, l2, N2, C2, zx⟩;refine zl (wpS_get ?_);refine wr (λh=>zP ⟨rfl,l2,N2,C2,h⟩) (λh=>?_)
   refine zl (zw0 R N2 (zj _) C2 ?_ λl3 t3 N3 C3 z3 _=>zP ⟨rfl,l3,N3,C3,q5⟩)
   exact yk (Nat.add_le_add_right zG6 1) q5
  ·rintro c t2 ⟨rfl, l2, N2, C2, zx⟩
   exact⟨rfl,l2,N2,C2,q5⟩
  ·rintro c t2 ⟨rfl, l2, N2, C2, zx⟩;rw[<- zp] at zx;refine zP (q l2 t2 N2.arr N2.ok N2.perm ?_)
   revert C2 zx
   generalize prs (pendingOf t2)=l;intro C2 zx
   match l,zx with
   |[],_=>exact absurd (show 0=n from C2) q5
   |[(s1,m1)],_=>
    obtain⟨rfl,_,S,e⟩:=C2;have e:0+m1=n:=e;rw[Nat.zero_add] at e;rw[<- e];exact S
def Rule.weak(R:Rule prog w A s n item kd r):WRule prog w A s n item kd λa b=>!decide (a=b)&&r a b where
 asy:=λa b ha hb h=>by
  by_cases e:a=b
  ·simp[e] at h
  ·have e':¬ b=a:=λz=>e z.symm;simp[e] at h;have:=R.tot b a hb ha e';rw[h] at this;simp[this]
 tr:=λa b c ha hb hc h1 h2=>by
  by_cases e1:b=a
  ·rw[e1] at h2;exact h2
  ·by_cases e2 : c = b
   ·rw[e2];exact h1
   ·by_cases e3 : c = a
    ·simp[e3]
    ·simp [e1] at h1;simp[e2] at h2;simp[e3];have g1:=R.tot b a hb ha e1;have g2:=R.tot c b hc hb e2;have g3:=R.tot c a hc ha e3;rw[h1] at g1;rw[h2] at g2
     have g4:=R.tr a b c ha hb hc (by simpa using g1.symm) (by simpa using g2.symm)
     rw[g3,g4];rfl
 cmp:=λa b ha hb h E Q q=>R.cmp a b ha hb h E Q (by simpa [h] using q)
end
abbrev jT(vs:List Value):Nat->Keyed:=λi=>(vs.getD i .none,vs.getD i .none)
def Yn(vs:List Value):vs.toArray.zip vs.toArray=(Array.range vs.length).map (jT vs):=by
 refine Array.ext_getElem? λk=>?_;rw[Array.getElem?_map]
 by_cases h:k<vs.length
 ·have e1 : (Array.range vs.length)[k]? = some k := by rw [Array.getElem?_range, if_pos h]
  rw[e1]
  have e2:(vs.toArray.zip vs.toArray)[k]?=some (vs[k],vs[k]):=by
   rw[wv (by simpa using h)]
   simp
  rw[e2];simp[jT,xf,h]
 ·rw [wN (by simp; lia), wN (by simp; lia)]
  rfl
section
variable {prog:Program}{w:World}{A:Around}{E:Value->Shared->Prop}{s:Shared}{r:Nat->Nat->Bool}{kd:SortKind}
abbrev YT(h:Heap)(a:Addr)(vs:List Value):Heap:=((h.update a (Obj.mapSeq λ_=>#[])).push (seqObj "tuple" vs.toArray 0)).push (seqObj "list" #[] 0)
def zG8{a:Addr}{vs:List Value}{k:Nat}(at0:s.heap.get? a=some (seqObj "list" vs.toArray k))(h64:vs.length<2000)
  (hk:2<=vs.length->∀(E:Value->Shared->Prop) (Q:SortKind->Shared->Prop),Q kd { s with heap:=YT s.heap a vs }->wpAny (model prog w) A (keyKind' vs.toArray) Q E { s with heap:=YT s.heap a vs })
  (hR:2<=vs.length->WRule prog w A { s with heap:=YT s.heap a vs } vs.length (jT vs) kd r) {Q:Fin->Shared->Prop}
  (q:∀ls:Array Nat,ls.Perm (Array.range vs.length)->Seg r ls 0 vs.length->Q (.done (.ret .none)) { s with heap:=sortedHeap s.heap a vs (ls.map λi=>vs.getD i .none) }) :
  wpAny (model prog w) A (Builtin.«list.sort» ⟨[.ref a],[]⟩) Q E s:=by
 have la:=zw at0;obtain⟨e1,at1⟩:∃e1,(s.heap.update a (Obj.mapSeq λ_=>#[])).get? a=some (seqObj "list" #[] e1):=⟨_,get?_update_seq at0 _⟩
 have at2:(YT s.heap a vs).get? a=some (seqObj "list" #[] e1):=by
  have n1:a≠((s.heap.update a (Obj.mapSeq λ_=>#[])).push (seqObj "tuple" vs.toArray 0)).objs.size:=by rw[size_push',Heap.size_update];exact zU (wH la)
  have n2:a≠(s.heap.update a (Obj.mapSeq λ_=>#[])).objs.size:=by rw[Heap.size_update];exact zU la
  exact(Heap.get?_push_ne _ _ _ n1).trans ((Heap.get?_push_ne _ _ _ n2).trans at1)
 rw[list_sort_plain];refine zb (listItems_at at0 rfl ?_);refine zb (listUpdate_at at0 rfl (zb (seqEpoch_at at1 rfl ?_)));refine zb (wpAny_newTuple (zb (wpAny_newList (wm ?_))));show wpAny (model prog w) A _ Q E { s with heap:=YT s.heap a vs };dsimp only
 have fin:∀(t:SortSt) (ls:Array Nat),arrOf t=ls.map (jT vs)->failedOf t=none->ls.Perm (Array.range vs.length)->Seg r ls 0 vs.length ->
   wpAny (model prog w) A (do
    let touched:=(<- seqEpoch a) != e1
    Builtin.List.listUpdate (.ref a) λ_=>(arrOf t).map (·.2)
    if let some e:=failedOf t then rule "list.sort.comparison-raised";throw e
    if touched then rule "list.sort.modified";raiseError "ValueError" "list modified during sort"
    ret .none) Q E { s with heap:=YT s.heap a vs }:=λt ls h1 h2 h3 h4=>by
  have ea:(arrOf t).map (·.2)=ls.map λi=>vs.getD i .none:=by rw[h1,Array.map_map];rfl
  have es:((arrOf t).map (·.2)).size<=2000:=by rw[ea,zK,h3.size_eq,wP];lia
  refine zb (seqEpoch_at at2 rfl ?_)
  refine zb (listUpdate_at at2 rfl ?_ (hsz2:=by rw[sizeLine_eq];exact zF es q9))
  rw[h2,ea];simp only[bne_self_eq_false,xW,if_false];exact zg (q ls h3 h4)
 by_cases c:vs.toArray.size<2
 ·rw [if_pos c, if_pos c];refine zb (zg ?_);rw[StateT.run_pure];refine zb (zg (fin _ (Array.range vs.length) (Yn vs) rfl (Array.Perm.refl _) λi j i1 hij hj=>?_))
  have:vs.length<2:=by simpa using c
  lia
 ·rw [if_neg c, if_neg c]
  have h2:2<=vs.length:=by simpa using c
  refine zb (hk h2 _ _ ?_);have N0:Nw vs.length (jT vs) kd (Array.range vs.length) (SortSt.mk' kd (vs.toArray.zip vs.toArray) #[] 7 none):=⟨Yn vs,rfl,rfl,Array.Perm.refl _⟩;refine zb (xT (xi2 (hR h2) N0 rfl h2 (Q:=λ_ t=>∃ls:Array Nat,arrOf t=ls.map (jT vs)/\failedOf t=none/\ls.Perm (Array.range vs.length)/\Seg r ls 0 vs.length) λls t a1 a2 a3 a4=>⟨ls,a1,a2,a3,a4⟩) ?_ λ_ _ e=>e);rintro⟨_,t⟩ s' ⟨rfl,ls,a1,a2,a3,a4⟩;exact fin t ls a1 a2 a3 a4
def Col(prog:Program)(w:World)(s:Shared)(l:Addr)(vs:List Value):Prop:=∀(B:Around) (E:Value->Shared->Prop) (Q:List Value->Shared->Prop),vs.length<=sizeLine->Q vs { s with heap:=(s.heap.push (seqObj "list" #[] 0)).update s.heap.objs.size (Obj.mapSeq (·++vs.toArray)) }->wpAny (model prog w) B (collect (.ref l)) Q E s
def Xm{l:Addr}{vs:List Value}(hc:Col prog w s l vs)(h64:vs.length<2000)
    (hk:2<=vs.length->∀(h':Heap),(∀b o,s.heap.get? b=some o->h'.get? b=some o)->∀(B:Around),B.units<=A.units+3->∀(E:Value->Shared->Prop) (Q:SortKind->Shared->Prop),Q kd { s with heap:=h' }->wpAny (model prog w) B (keyKind' vs.toArray) Q E { s with heap:=h' })
    (hR:2<=vs.length->∀(h':Heap),(∀b o,s.heap.get? b=some o->h'.get? b=some o)->∀(B:Around),B.units<=A.units+3->WRule prog w B { s with heap:=h' } vs.length (jT vs) kd r) {Q:Value->Shared->Prop}
    (q:∀ls:Array Nat,ls.Perm (Array.range vs.length)->Seg r ls 0 vs.length->Q (.ref (s.heap.objs.size+1)) { s with heap:=sortedAll s.heap vs (ls.map λi=>vs.getD i .none) }) :
    wpAny (model prog w) A (call (.builtin "sorted") [.ref l]) Q E s:=by
  refine Calls.call_function_entry kind_sorted plain_sorted entry_sorted (args_sorted1 _) ?_;unfold Builtin.«sorted»
  refine zb (m:=checkCount "sorted" 1 1 _) (zg (zb (hc _ _ _ (zF (xJ h64) (by rw[sizeLine_eq];decide)) (zb (wpAny_newList ?_)))))
  have z1:((s.heap.push (seqObj "list" #[] 0)).update s.heap.objs.size (Obj.mapSeq (·++vs.toArray))).objs.size=s.heap.objs.size+1:=by rw[Heap.size_update,size_push']
  let h1:Heap:=((s.heap.push (seqObj "list" #[] 0)).update s.heap.objs.size (Obj.mapSeq (·++vs.toArray))).push (seqObj "list" vs.toArray 0)
  have at1:h1.get? (s.heap.objs.size+1)=some (seqObj "list" vs.toArray 0):=by rw[<- z1];exact zQ _ rfl
  have old1:∀b o,s.heap.get? b=some o->h1.get? b=some o:=λb o e=>by
    have lb:=zw e;refine zh _ ?_;rw[Heap.get?_update_ne _ _ _ _ (zU lb)];exact zh _ e
  have old2:∀b o,s.heap.get? b=some o->(YT h1 (s.heap.objs.size+1) vs).get? b=some o:=λb o e=>by
    have lb:=zw e;refine zh _ (zh _ ?_);rw[Heap.get?_update_ne _ _ _ _ (zU (wH lb))];exact old1 b o e
  have eH:∀out:Array Value,sortedHeap h1 (s.heap.objs.size+1) vs out=sortedAll s.heap vs out:=λ_=>rfl
  have body:∀B:Around,B.units<=A.units+3->∀(E:Value->Shared->Prop) (P:Fin->Shared->Prop),(∀ls:Array Nat,ls.Perm (Array.range vs.length)->Seg r ls 0 vs.length->P (.done (.ret .none)) { s with heap:=sortedAll s.heap vs (ls.map λi=>vs.getD i .none) }) ->
      wpAny (model prog w) B (Builtin.«list.sort» ⟨[.ref (s.heap.objs.size+1)],[]⟩) P E { s with heap:=h1 }:=λB hB E P p=>
    zG8 (s:={ s with heap:=h1 }) at1 h64 (λh2 E Q q=>hk h2 _ old2 B hB E Q q) (λh2=>hR h2 _ old2 B hB) λls a1 a2=>by
      show P _ { s with heap:=sortedHeap h1 (s.heap.objs.size+1) vs _ };rw[eH];exact p ls a1 a2
  show wpAny _ _ _ _ _ { s with heap:=h1 };rw[z1]
  clear_value h1
  refine zb (wm (wpAny_call_entry slot_list_sort ⟨_,at1,rfl⟩ entry_list_sort (body _ ?_ _ _ λls a1 a2=>⟨_,rfl,zg ⟨_,rfl,q ls a1 a2⟩⟩) (args_list_sort _)));show A.units+1+1<=A.units+3;lia
def Jw{l:Addr}{vs:List Value}(hl:s.heap.IsList l vs.toArray)(h64:vs.length<2000)
  (hk:2<=vs.length->∀(h':Heap),(∀b o,s.heap.get? b=some o->h'.get? b=some o)->∀(B:Around),B.units<=A.units+3->∀(E:Value->Shared->Prop) (Q:SortKind->Shared->Prop),Q kd { s with heap:=h' }->wpAny (model prog w) B (keyKind' vs.toArray) Q E { s with heap:=h' })
  (hR:2<=vs.length->∀(h':Heap),(∀b o,s.heap.get? b=some o->h'.get? b=some o)->∀(B:Around),B.units<=A.units+3->WRule prog w B { s with heap:=h' } vs.length (jT vs) kd r) {Q:Value->Shared->Prop}
  (q:∀ls:Array Nat,ls.Perm (Array.range vs.length)->Seg r ls 0 vs.length->Q (.ref (s.heap.objs.size+1)) { s with heap:=sortedAll s.heap vs (ls.map λi=>vs.getD i .none) }) :
  wpAny (model prog w) A (call (.builtin "sorted") [.ref l]) Q E s:=Xm (λ_ _ _ hz h=>collect_list hl h hz) h64 hk hR q
def QP{l:Addr}{vs:List Value}(hl:s.heap.IsList l vs.toArray)(h64:vs.length<2000)
  (hk:2<=vs.length->∀(h':Heap),(∀b o,s.heap.get? b=some o->h'.get? b=some o)->∀(B:Around),B.units<=A.units+3->∀(E:Value->Shared->Prop) (Q:SortKind->Shared->Prop),Q kd { s with heap:=h' }->wpAny (model prog w) B (keyKind' vs.toArray) Q E { s with heap:=h' })
  (hR:2<=vs.length->∀(h':Heap),(∀b o,s.heap.get? b=some o->h'.get? b=some o)->∀(B:Around),B.units<=A.units+3->Rule prog w B { s with heap:=h' } vs.length (jT vs) kd r) {Q:Value->Shared->Prop}
  (q:∀ls:Array Nat,ls.Perm (Array.range vs.length)->Up r ls vs.length->Q (.ref (s.heap.objs.size+1)) { s with heap:=sortedAll s.heap vs (ls.map λi=>vs.getD i .none) }) :
  wpAny (model prog w) A (call (.builtin "sorted") [.ref l]) Q E s:=
 Jw hl h64 hk (λh2 h' o B hB=>(hR h2 h' o B hB).weak) λls h4 h5=>q ls h4 λi j hij hj=>by
  have R:=hR q5 s.heap (λ_ _ e=>e) A q5
  have hs:ls.size=vs.length:=by rw[h4.size_eq,wP]
  have hne:lab ls i≠lab ls j:=zF3 (Zi h4) hij q5
  have z:=h5 i j q5 hij q5
  have hne':¬ lab ls j=lab ls i:=λe=>hne e.symm;simp[hne'] at z
  rw[R.tot _ _ (XW h4 (kN q5)) (XW h4 (kN q5)) hne,z];rfl
end
end L2.Srt
namespace L2
open PySem PySem.Spec PyProof.Rows PySem.SeqAt
theorem ints_at:∀{vs:List Value}{ns:List Int},IntsAre vs ns->∀{i:Nat},i<vs.length->∃t,vs.getD i .none=.int (ns.getD i 0) t
 |_,_,.cons n t h,0,_=>⟨t,rfl⟩
 |_,_,.cons n t h,i+1,hi=>by
  obtain⟨u,e⟩:=ints_at h (i:=i) (by simpa using hi)
  exact⟨u,by simpa using e⟩
theorem KR:∀{vs:List Value}{ns:List Int},IntsAre vs ns->vs.length=ns.length
 |_,_,.nil=>rfl
 |_,_,.cons n t h=>by simp[KR h]
theorem VE{vs:List Value}{ns:List Int}(h:IntsAre vs ns):∀{ls:List Nat},(∀i∈ls,i<vs.length)->IntsAre (ls.map λi=>vs.getD i .none) (ls.map λi=>ns.getD i 0)
 |[],_=>.nil
 |i::ls,hl=>by
  obtain⟨t,e⟩:=ints_at h (hl i (zo ..));rw[zu,zu,e];exact .cons _ t (VE h λj hj=>hl j (zc _ hj))
theorem zd6:∀{vs:List Value}{ns:List Int},IntsAre vs ns->2<=vs.length->keyKind' vs.toArray=pure oneType'
 |_::_::_,_,h,_=>keyKind_ints h
 |[],_,_,h=>by simp at h
 |[_],_,_,h=>by simp at h
section
variable {prog:Program}{w:World}{A:Around}{E:Value->Shared->Prop}{s:Shared}
def WI{l:Addr}{vs:List Value}{ns:List Int}{Q:Value->Shared->Prop}(hl:Srt.Col prog w s l vs)(hI:IntsAre vs ns)(h9:vs.length<2000)
    (h:∀(out:Array Value) (ns':List Int),IntsAre out.toList ns'->ns'.Perm ns->ns'.Pairwise (·<=·)->Q (.ref (s.heap.objs.size+1)) { s with heap:=sortedAll s.heap vs out }) :
    wpAny (model prog w) A (call (.builtin "sorted") [.ref l]) Q E s:=by
  have len:=KR hI;refine Srt.Xm (kd:=oneType') (r:=λa b=>decide (ns.getD a 0<ns.getD b 0)) hl h9 (λh2 h' o B hB E Q q=>?_) (λh2 h' o B hB=>⟨λa b _ _ z=>?_,λa b c _ _ _ z1 z2=>?_,λa b ha hb _ E Q q=>?_⟩) λls hp hs=>?_
  · rw [zd6 hI h2]
    exact zg q
  · simp at z ⊢;lia
  · simp at z1 z2 ⊢;lia
  · obtain ⟨t, e1⟩ := ints_at hI ha
    obtain⟨u,e2⟩:=ints_at hI hb;show wpAny (model prog w) B (keyLt' oneType' (vs.getD a .none) (vs.getD b .none)) Q E _;rw[e1,e2,keyLt'_oneType];exact oneLt_int q
  · have hm : ∀ i ∈ ls.toList, i < vs.length := λi hi => Srt.XW hp hi
    have hsz:ls.size=vs.length:=by rw[hp.size_eq,wP]
    refine h _ (ls.toList.map λi=>ns.getD i 0) (by rw[Array.toList_map];exact VE hI hm) ?_ ?_
    · have e : (List.range vs.length).map (λi => ns.getD i 0) = ns := by
        refine List.ext_getElem (by simp[len]) λi h1 h2=>?_
        rw[List.getElem_map,List.getElem_range,xf,zk h2];rfl
      have:=(xN.mp hp).map λi=>ns.getD i 0;rw[yo,e] at this;exact this
    · rw [xQ]
      refine xD.mpr λi j hi hj hij=>?_;rw[zf] at hi hj
      have z:=hs i j q5 hij q5
      have ei:=Srt.yF (ls:=ls) hi;have ej:=Srt.yF (ls:=ls) hj
      rw[<- zB,zk (by rw[zf];exact hi)] at ei
      rw[<- zB,zk (by rw[zf];exact hj)] at ej
      rw[zy ei,zy ej];simp at z;exact z
end
section
variable {X:Cx}{A:AC}
end
end L2
namespace L2.Srt
open PySem PyProof.Rows PySem.SeqAt
section
variable {prog:Program}{w:World}{M:Model}{A:Around}{E:Value->Shared->Prop}{s:Shared}
theorem Qq{α β:Type}{f:α->Sem β}{g:α->β}:∀{l:List α}{Q:List β->Shared->Prop},(∀a∈l,∀Q:β->Shared->Prop,Q (g a) s->wpAny M A (f a) Q E s)->Q (l.map g) s->wpAny M A (l.mapM f) Q E s
 |[],Q,_,q=>by rw[List.mapM_nil];exact zg q
 |a::l,Q,h,q=>by
  rw[List.mapM_cons];refine zb (h a (zo ..) _ (zb (Qq (λb hb=>h b (zc _ hb)) (zg q))))
def Qr{α β:Type}{f:α->Sem β}{g:α->β}{l:List α}{Q:Array β->Shared->Prop}(h:∀a∈l,∀Q:β->Shared->Prop,Q (g a) s->wpAny M A (f a) Q E s)(q:Q (l.map g).toArray s):wpAny M A (l.toArray.mapM f) Q E s:=by
 rw[List.mapM_toArray];show wpAny M A (List.toArray <$> l.mapM f) Q E s;rw[map_eq_pure_bind];exact zb (Qq h (zg q))
def ZG(v:Value):firstOfTuple' v=(do
  if (<- typeOf v) != .type "tuple" then return none
  return (<- Builtin.List.listItems v)[0]?):=rfl
def Tup(h:Heap)(v:Value)(p:Value)(rest:List Value):Prop:=∃a,v=.ref a/\IsTup h a (p::rest).toArray
def Tup.type{v p:Value}{rest:List Value}(t:Tup s.heap v p rest):s.TypeIs v "tuple" := by
 obtain⟨a,rfl,o,ho,hc,_⟩:=t;exact⟨o,ho,hc⟩
def Tup.items{v p:Value}{rest:List Value}(t:Tup s.heap v p rest){Q:Array Value->Shared->Prop}(q:Q (p::rest).toArray s):wpAny M A (Builtin.List.listItems v) Q E s:=by
 obtain⟨a,rfl,o,ho,hc,n,hd⟩:=t;exact listItems_at ho hd q
def UI{vs:List Value}{fst:Value->Value}{T:String}(h2:2<=vs.length)(ht:∀v∈vs,∃rest,Tup s.heap v (fst v) rest)(hT:∀v∈vs,s.TypeIs (fst v) T){Q:SortKind->Shared->Prop}(q:Q (tuples' (Value.type T != Value.type "tuple")) s):wpAny M A (keyKind' vs.toArray) Q E s:=by
  rw[keyKind'_eq];refine zb (Qr (g:=λv=>some (fst v)) (λv hv Q q=>?_) ?_)
  · obtain ⟨rest, t⟩ := ht v hv
    rw[ZG];refine zb (wpAny_typeOf t.type ?_)
    have e:(Value.type "tuple" != Value.type "tuple")=false:=by rfl
    rw[e];exact zb (t.items (zg q))
  · have e : (vs.map λv => some (fst v)).toArray.all (·.isSome) = true := by simp
    rw[if_pos e];refine zb (yi ?_)
    have e2:((vs.map λv=>some (fst v)).toArray.filterMap id)=(vs.map fst).toArray:=by
      simp[List.filterMap_map]
    rw[e2,oneTypeOnly'_eq];refine zb (zb (Qr (g:=λ_=>Value.type T) (λv hv Q q=>?_) ?_))
    · obtain ⟨u, hu, rfl⟩ := zD.mp hv
      exact wpAny_typeOf (hT u hu) q
    · have e3 : ((vs.map fst).map λ_ => Value.type T).toArray[0]? = some (Value.type T) := by
        cases vs with
        |nil=>simp at h2
        |cons v vs=>simp
      have e4:(((vs.map fst).map λ_=>Value.type T).toArray.all (· == Value.type T))=true:=by
        simp only[List.all_toArray,List.all_map,yg];intro _ _;show(Value.type T == Value.type T)=true;simp
      rw[e3];dsimp only;rw[e4];exact zg (zg q)
def Wi(f:Bool)(x y:Value):keyLt' (tuples' f) x y=(do
  let xs <- Builtin.List.listItems x
  let ys <- Builtin.List.listItems y
  for ((p,q),i) in (xs.toList.zip ys.toList).zipIdx do
   if !(<- eqBool p q) then return <- oneLt' (f&&i == 0) p q
  return xs.size<ys.size):=rfl
inductive Lex(A:Around)(s:Shared)(f:Bool)(b:Bool):Nat->List Value->List Value->Prop
 |alike {i:Nat}{p q:Value}{ps qs:List Value}:EqAt A s p q true->Lex A s f b (i+1) ps qs->Lex A s f b i (p::ps) (q::qs)
 |here {i:Nat}{p q:Value}{ps qs:List Value}:EqAt A s p q false->(∀(prog:Program) (w:World) (E:Value->Shared->Prop) (Q:Bool->Shared->Prop),Q b s->wpAny (model prog w) A (oneLt' (f&&i == 0) p q) Q E s)->Lex A s f b i (p::ps) (q::qs)
def zd7{f b:Bool}{x y p q:Value}{ps qs:List Value}(tx:Tup s.heap x p ps)(ty:Tup s.heap y q qs)(L:Lex A s f b 0 (p::ps) (q::qs)){Q:Bool->Shared->Prop}(h:Q b s):wpAny (model prog w) A (keyLt' (tuples' f) x y) Q E s:=by
 rw[Wi];refine zb (tx.items (zb (ty.items ?_)))
 refine zb (wpAny_forIn_list _ (λrest c s'=>s'=s/\c.1=none/\∃i xs ys,rest=(xs.zip ys).zipIdx i/\Lex A s f b i xs ys) (λc s'=>s'=s/\c.1=some b) ?turn ?fin _ _ ⟨rfl,rfl,0,p::ps,q::qs,by simp,L⟩ |> λz=>xT z ?post λ_ _ e=>e)
 case turn=>
  rintro⟨⟨u,v⟩,k⟩ rest c s' ⟨rfl,hc,i,xs,ys,e,L⟩
  cases L with
  |alike he L=>
   rw[ym,zipIdx_cons] at e;injection e with e1 e2;injection e1 with e1 e3;injection e1 with e4 e5;subst e3 e4 e5;refine zb (he prog w _ _ ?_);simp only[Bool.not_true,xW,if_false];exact zg ⟨rfl,rfl,_,_,_,e2,L⟩
  |here he ho=>
   rw[ym,zipIdx_cons] at e;injection e with e1 e2;injection e1 with e1 e3;injection e1 with e4 e5;subst e3 e4 e5;refine zb (he prog w _ _ ?_);simp only[Bool.not_false,if_true];exact zb (ho prog w _ _ (zg ⟨rfl,rfl⟩))
 case fin=>
  rintro c s' ⟨_,_,i,xs,ys,e,L⟩
  cases L<;>(rw[ym,zipIdx_cons] at e;cases e)
 case post=>
  rintro c s' ⟨rfl,hc⟩;obtain⟨c1,c2⟩:=c;simp only at hc;subst hc;exact zg h
def YA{i j:Int}{t u:Tok}{Q:Bool->Shared->Prop}(h:Q (decide (i<j)) s):wpAny (model prog w) A (oneLt' false (.int i t) (.int j u)) Q E s:=by
 rw[oneLt'_eq];simp only[xW,if_false];exact zb (show wpAny (model prog w) A (compareOp .Lt (.int i t) (.int j u)) _ _ _ from PyProof.Rows.lt_int (yz h))
def Yz{a b:Addr}{xs ys:Array Value}{ns ms:List Int}(ha:IsTup s.heap a xs)(hb:IsTup s.heap b ys)(hi:IntsAre xs.toList ns)(hj:IntsAre ys.toList ms)(hu:A.units<cLine){Q:Bool->Shared->Prop}(h:Q (HT.kU ns ms) s):wpAny (model prog w) A (oneLt' false (.ref a) (.ref b)) Q E s:=by
 rw[oneLt'_eq];simp only[xW,if_false];exact zb (show wpAny (model prog w) A (compareOp .Lt (.ref a) (.ref b)) _ _ _ from HT.JR ha hb hi hj hu (yz h))
def qm(f:Bool){i j:Int}{t u:Tok}{Q:Bool->Shared->Prop}(h:Q (decide (i<j)) s):wpAny (model prog w) A (oneLt' f (.int i t) (.int j u)) Q E s:=by
 cases f with
 |true=>exact oneLt_int h
 |false=>exact YA h
end
end L2.Srt
namespace L2
open PySem PySem.Spec PyProof.Rows PySem.SeqAt
def xu2(X:Cx)(H:Hp)(f:Bool)(y:V):Prop:=∀pins s σ v,Inv X pins σ H s->RelV y v->∃p rest,Srt.Tup s.heap v p rest/\s.TypeIs p (if f then "int" else "tuple")
def xu4(X:Cx)(H:Hp)(f:Bool)(y z:V)(b:Bool):Prop:=∀pins s σ u v,Inv X pins σ H s->RelV y u->RelV z v->∀A:Around,A.units+60<cLine->∃p ps q qs,Srt.Tup s.heap u p ps/\Srt.Tup s.heap v q qs/\Srt.Lex A s f b 0 (p::ps) (q::qs)
def QV(X:Cx):List V->Hp->VK->Prop:=λxs H Q=>∃(p:Addr) (ys:List V) (f:Bool) (r:Nat->Nat->Bool),xs=[.ref p]/\SqL X.K H p ys/\ys.length<900 /\
 (∀a b,a<ys.length->b<ys.length->a≠b->r a b=!r b a)/\(∀a b c,a<ys.length->b<ys.length->c<ys.length->r a b=true->r b c=true->r a c=true) /\
 (∀a,a<ys.length->xu2 X H f (ys.getD a .non))/\(∀a b,a<ys.length->b<ys.length->a≠b->xu4 X H f (ys.getD a .non) (ys.getD b .non) (r a b)) /\
 ∀ls:Array Nat,ls.Perm (Array.range ys.length)->Srt.Up r ls ys.length->∀l,H l=none->Q (.ref l) (upd H l (.lst (ls.toList.map λi=>ys.getD i .non)))
def Vals.getD{xs:List V}{us:List Value}(h:Vals xs us){i:Nat}(hi:i<xs.length):RelV (xs.getD i .non) (us.getD i .none):=by
 obtain⟨u,e,r⟩:=h.get (zk hi);rw[xf,xf,e,zk hi];exact r
theorem WA{xs:List V}{us:List Value}(h:Vals xs us):∀{ls:List Nat},(∀i∈ls,i<xs.length)->Vals (ls.map λi=>xs.getD i .non) (ls.map λi=>us.getD i .none)
 |[],_=>.nil
 |i::ls,hl=>.cons (h.getD (hl i (zo ..))) (WA h λj hj=>hl j (zc _ hj))
section
variable {X:Cx}
def Zx{n:Nat}(hr:Room n X.A):qd X (.builtin "sorted") (QV X):=by
 classical
 intro pins s σ H xs us Q I r h;obtain⟨p,ys,f,rr,rfl,hq,hn,tot,tr,row,cmp,q⟩:=h;obtain⟨u,rfl,hu⟩:=jG r;have hu':u=.ref p:=hu;subst hu';obtain⟨its,rv,pl,_⟩:=I.list hq;have len:=rv.length;have un:=hr.un
 have ixd:∀v∈its,∃i,i<ys.length/\v=its.getD i .none:=λv hv=>by
  obtain⟨i,hi,e⟩:=List.getElem_of_mem hv
  exact⟨i,q5,by rw[xf,zk hi,e];rfl⟩
 refine Srt.QP (r:=rr) (kd:=tuples' f) pl.isList q5 (λh2 h' keep B hB E Q q=>?_) (λh2 h' keep B hB=>?_) (λls hp hU=>?_)
 ·have I' : Inv X pins σ H { s with heap := h' } := I.kept (t' := s.toks) keep
  have each:∀v∈its,∃p rest,Srt.Tup h' v p rest/\Shared.TypeIs { s with heap:=h' } p (if f then "int" else "tuple"):=λv hv=>by
   obtain⟨i,hi,rfl⟩:=ixd v hv;exact row i hi pins _ σ _ I' (rv.getD hi)
  refine Srt.UI (s:={ s with heap:=h' }) (T:=if f then "int" else "tuple") (fst:=λv=>if h:∃p rest,Srt.Tup h' v p rest/\Shared.TypeIs { s with heap:=h' } p (if f then "int" else "tuple") then h.choose else v) q5 (λv hv=>?_) (λv hv=>?_) ?_
  ·have e := each v hv;obtain⟨rest,t,_⟩:=e.choose_spec
   exact⟨rest,by rw[dif_pos e];exact t⟩
  ·have e := each v hv;obtain⟨rest,_,t⟩:=e.choose_spec
   show Shared.TypeIs _ (if h:_ then _ else _) _
   rw[dif_pos e];exact t
  ·cases f
   ·exact q
   ·exact q
 ·have I' : Inv X pins σ H { s with heap := h' } := I.kept (t' := s.toks) keep
  refine⟨λa b ha hb=>tot a b q5 q5,λa b c ha hb hc=>tr a b c q5 q5 q5,λa b ha hb hab E Q q=>?_⟩
  obtain⟨p1,ps,p2,qs,t1,t2,L⟩:=cmp a b q5 q5 hab pins _ σ _ _ I' (rv.getD q5) (rv.getD q5) B q5
  exact Srt.zd7 t1 t2 L q
 ·obtain ⟨e, he⟩ := sortedAll_at s.heap its (ls.map λi => its.getD i .none);have hf:H (s.heap.objs.size+1)=none:=I.hok.fresh (xY _)
  have hls:∀i∈ls.toList,i<ys.length:=λi hi=>by
   have:=(hp.mem_iff).mp (Array.mem_toList_iff.mp hi);rw[Array.mem_range] at this;lia
  rw[<- len] at hp hU;refine⟨.ref (s.heap.objs.size+1),_,I.laid (t':=s.toks) (o:=.lst (ls.toList.map λi=>ys.getD i .non)) (λb u e=>sortedAll_old e) (xY _) ?_,rfl,q ls hp hU _ hf⟩;refine⟨?_,(ls.toList.map λi=>its.getD i .none),e,WA rv hls,?_⟩
  ·rw [zm, zf, hp.size_eq, wP]
   exact zF (xJ hn) q9
  ·have ea : (ls.toList.map λi => its.getD i .none).toArray = ls.map λi => its.getD i .none := by rw [<- Array.toList_map, Array.toArray_toList]
   rw[ea];exact he
end
inductive SKey where
 |n (i:Int) |t (ns:List Int)
 deriving DecidableEq
def SKey.d:SKey->D
 |.n i=>.int i
 |.t ns=>.tup (ns.map D.int)
def SKey.num:SKey->Bool
 |.n _=>true
 |.t _=>false
def SKey.lt:SKey->SKey->Bool
 |.n i,.n j=>decide (i<j)
 |.t ns,.t ms=>HT.kU ns ms
 |_,_=>false
structure SRow where
 key:SKey
 name:Int
 rest:List D
def SRow.d(x:SRow):D:=.tup (x.key.d::.int x.name::x.rest)
def SRow.lt(x y:SRow):Bool:=if x.key=y.key then decide (x.name<y.name) else x.key.lt y.key
theorem KM:∀(xs ys:List Int),xs≠ys->HT.kU xs ys=!HT.kU ys xs
 |[],[],h=>absurd rfl h
 |[],y::ys,_=>rfl
 |x::xs,[],_=>rfl
 | x :: xs, y :: ys, h => by
  rw[HT.kT,HT.kT]
  by_cases e:x=y
  ·subst e;rw[if_pos rfl,if_pos rfl]
   exact KM xs ys λz=>h (by rw[z])
  ·rw [if_neg e, if_neg (Ne.symm e)]
   by_cases l:x<y
   ·rw[xv l,zW q5];rfl
   ·rw[zW l,xv q5];rfl
theorem zd0:∀(xs:List Int),HT.kU xs xs=false
 |[]=>rfl
 |x::xs=>by rw[HT.kT,if_pos rfl];exact zd0 xs
theorem Vx:∀(xs ys zs:List Int),HT.kU xs ys=true->HT.kU ys zs=true->HT.kU xs zs=true
 |[],[],_,h,_=>by cases h
 |[],_::_,[],_,h=>by cases h
 |[],_::_,_::_,_,_=>rfl
 |_::_,[],_,h,_=>by cases h
 |_::_,_::_,[],_,h=>by cases h
 | x :: xs, y :: ys, z :: zs, h1, h2 => by
  rw[HT.kT] at h1 h2 ⊢
  by_cases e1:x=y
  ·subst e1;rw[if_pos rfl] at h1
   by_cases e2:x=z
   ·subst e2;rw[if_pos rfl] at h2 ⊢;exact Vx xs ys zs h1 h2
   ·rw[if_neg e2] at h2 ⊢;exact h2
  ·rw [if_neg e1] at h1;have l1:=of_decide_eq_true h1
   by_cases e2:y=z
   ·subst e2;rw[if_neg e1];exact h1
   ·rw [if_neg e2] at h2;have l2:=of_decide_eq_true h2
    rw[if_neg q5]
    exact xv q5
def SKey.lt_anti{x y:SKey}(hn:x.num=y.num)(h:x≠y):x.lt y=!y.lt x:=by
 cases x with
 | n i =>
  cases y with
  |n j=>
   have:i≠j:=λz=>h (by rw[z])
   simp only[SKey.lt]
   by_cases l:i<j
   ·rw[xv l,zW q5];rfl
   ·rw[zW l,xv q5];rfl
  |t ms=>cases hn
 |t ns=>
  cases y with
  |n j=>cases hn
  |t ms=>exact KM ns ms λz=>h (by rw[z])
def SKey.lt_irr(x:SKey):x.lt x=false:=by
 cases x with
 |n i=>simp[SKey.lt]
 |t ns=>exact zd0 ns
def SKey.lt_trans{x y z:SKey}(h1:x.lt y=true)(h2:y.lt z=true):x.lt z=true:=by
 cases x<;>cases y<;>cases z<;>first
  |(cases h1;done) |(cases h2;done)
  |(simp only[SKey.lt,yA] at h1 h2 ⊢;lia)
  |exact Vx _ _ _ h1 h2
def SRow.lt_anti{x y:SRow}(hn:x.key.num=y.key.num)(h:x.name≠y.name):x.lt y=!y.lt x:=by
 unfold SRow.lt
 by_cases e:x.key=y.key
 ·rw [if_pos e, if_pos e.symm]
  by_cases l:x.name<y.name
  ·rw[xv l,zW q5];rfl
  ·rw[zW l,xv q5];rfl
 ·rw[if_neg e,if_neg (Ne.symm e)];exact SKey.lt_anti hn e
def SRow.lt_trans{x y z:SRow}(h1:x.lt y=true)(h2:y.lt z=true):x.lt z=true:=by
 unfold SRow.lt at *
 by_cases e1:x.key=y.key
 ·rw [if_pos e1] at h1
  by_cases e2:y.key=z.key
  ·rw[if_pos e2] at h2;rw[if_pos (e1.trans e2)];simp only[yA] at *;lia
  ·rw [if_neg e2] at h2
   rw[if_neg (by rw[e1];exact e2),e1]
   exact h2
 ·rw [if_neg e1] at h1
  by_cases e2:y.key=z.key
  ·rw [if_neg (by rw [<- e2]; exact e1), <- e2]
   exact h1
  ·rw [if_neg e2] at h2;have h3:=SKey.lt_trans h1 h2
   by_cases e3:x.key=z.key
   ·rw[e3,SKey.lt_irr] at h3;cases h3
   ·rw[if_neg e3];exact h3
def Qm:SRow:=⟨.n 0,0,[]⟩
def zS5:List D->(D->Prop)->Prop:=λes k=>∃(rows:List SRow) (f:Bool),es=[.lst (rows.map SRow.d)]/\rows.length<900/\(∀x∈rows,x.key.num=f)/\(rows.map SRow.name).Nodup/\∀rows':List SRow,rows'.Perm rows->rows'.Pairwise (λx y=>x.lt y=true)->k (.lst (rows'.map SRow.d))
theorem VI:∀(xs ys:List Int),YZ (xs.map D.int) (ys.map D.int)=decide (xs=ys)
 |[],[]=>by unfold YZ;rfl
 |[],y::ys=>by unfold YZ;simp
 |x::xs,[]=>by unfold YZ;simp
 |x::xs,y::ys=>by
  rw[zu,zu];unfold YZ;rw[VI xs ys];unfold eqD
  by_cases e:x=y
  ·subst e;simp
  ·simp[e]
def zH6{x y:SKey}(h:x.num=y.num):eqD x.d y.d=decide (x=y):=by
 cases x with
 | n i =>
  cases y with
  |n j=>
   show eqD (.int i) (.int j)=_;unfold eqD
   by_cases e:i=j
   ·subst e;simp
   ·simp[e]
  |t ms=>cases h
 | t ns =>
  cases y with
  |n j=>cases h
  |t ms=>
   show eqD (.tup _) (.tup _)=_;unfold eqD;rw[VI]
   by_cases e:ns=ms
   ·subst e;simp
   ·simp[e]
def zc2(x:SKey):okE x.d 20=true:=by
 cases x with
 |n i=>exact qo
 |t ns=>
  refine(kL (k:=19)).mpr λd hd=>?_;obtain⟨x,_,rfl⟩:=zD.mp hd;exact qo
section
variable {X:Cx}{pins:List (Addr × Obj)}{σ:St}{H:Hp}{s:Shared}{G:Option Addr}{Z:Addr->Prop}
def zk7{a b:V}{xs:List V}{its:List Value}(h:Vals (a::b::xs) its):∃p q r,its=p::q::r/\RelV a p/\RelV b q:=by
 cases h with
 |cons h0 t=>
  cases t with
  |cons h1 t1=>exact⟨_,_,_,rfl,h0,h1⟩
structure RowAt(X:Cx)(G:Option Addr)(Z:Addr->Prop)(H:Hp)(s:Shared)(x:SRow)(u p:Value)(rest:List Value):Prop where
 tup:∃q,Srt.Tup s.heap u p (q::rest)/\∃t,q=.int x.name t
 key:∃z,Rep X.K G Z H x.key.d z/\RelV z p
def QU(I:Inv X pins σ H s){x:SRow}{v:V}{u:Value}(r:Rep X.K G Z H x.d v)(q:RelV v u):∃p rest,RowAt X G Z H s x u p rest:=by
 unfold SRow.d at r;obtain⟨a,xs,rfl,sq,rs⟩:=r.tup_inv;have e:u=.ref a:=q;subst e;obtain⟨its,rv,pl,_⟩:=I.tuple sq.sq;obtain⟨z0,xs1,rfl,r0,rs1⟩:=rs.split;obtain⟨z1,xs2,rfl,r1,rs2⟩:=rs1.split;have e1:=r1.int_inv;subst e1;obtain⟨p0,p1,its2,rfl,h0,t,rfl⟩:=zk7 rv;exact⟨p0,its2,⟨_,⟨a,rfl,pl⟩,t,rfl⟩,z0,r0,h0⟩
def zl7(I:Inv X pins σ H s){x:SRow}{u p:Value}{rest:List Value}(R:RowAt X G Z H s x u p rest):s.TypeIs p (if x.key.num then "int" else "tuple"):=by
 obtain⟨z,r,q⟩:=R.key
 cases h:x.key with
 |n i=>
  rw[h] at r;have e:z=.int i:=r.int_inv;subst e;obtain⟨t,rfl⟩:=q;exact typeIs_int s i t
 |t ns=>
  rw[h] at r;obtain⟨a,xs,rfl,sq,rs⟩:=Rep.tup_inv (show Rep X.K G Z H (.tup (ns.map D.int)) z from r);have e:p=.ref a:=q;subst e;obtain⟨its,rv,⟨o,ho,hc,_⟩,_⟩:=I.tuple sq.sq;exact⟨o,ho,hc⟩
def zz5(I:Inv X pins σ H s){x y:SRow}{u v p q:Value}{ps qs:List Value}(hn:x.key.num=y.key.num)(hd:x.name≠y.name)(R:RowAt X G Z H s x u p ps)(R':RowAt X G Z H s y v q qs){A:Around}(hu:A.units+60<cLine) :
  ∃p ps q qs,Srt.Tup s.heap u p ps/\Srt.Tup s.heap v q qs/\Srt.Lex A s x.key.num (x.lt y) 0 (p::ps) (q::qs):=by
 obtain⟨n1,t1,tk1,rfl⟩:=R.tup;obtain⟨n2,t2,tk2,rfl⟩:=R'.tup;obtain⟨z1,r1,q1⟩:=R.key;obtain⟨z2,r2,q2⟩:=R'.key
 have E:=(zw6 I 20 x.key.d y.key.d z1 z2 p q A (zc2 _) (zc2 _) r1 r2 q1 q2 q5).1
 rw[zH6 hn] at E;refine⟨p,_,q,_,t1,t2,?_⟩
 by_cases e:x.key=y.key
 ·rw [xv e] at E;refine .alike E (.here ?_ ?_)
  ·have := EqAt.int_int (A := A) (s := s) x.name tk1 y.name tk2
   have e2:(x.name == y.name)=false:=by simpa using hd
   rw[e2] at this;exact this
  ·intro prog w E Q h;unfold SRow.lt at h;rw[if_pos e] at h;exact Srt.qm _ h
 ·rw [zW e] at E;refine .here E ?_;intro prog w E Q h;unfold SRow.lt at h;rw[if_neg e] at h
  cases hx:x.key with
  | n i =>
   cases hy:y.key with
   |n j=>
    rw[hx] at r1 h;rw[hy] at r2 h;have e1:z1=.int i:=r1.int_inv;have e2:z2=.int j:=r2.int_inv;subst e1 e2;obtain⟨a1,rfl⟩:=q1;obtain⟨a2,rfl⟩:=q2;exact Srt.qm _ h
   |t ms=>rw[hx,hy] at hn;cases hn
  | t ns =>
   cases hy:y.key with
   |n j=>rw[hx,hy] at hn;cases hn
   |t ms=>
    rw[hx] at r1 h;rw[hy] at r2 h;obtain⟨a,xs,rfl,sq,rs⟩:=Rep.tup_inv (show Rep X.K G Z H (.tup (ns.map D.int)) z1 from r1);obtain⟨b,ys,rfl,sq',rs'⟩:=Rep.tup_inv (show Rep X.K G Z H (.tup (ms.map D.int)) z2 from r2);have e1:p=.ref a:=q1;have e2:q=.ref b:=q2;subst e1 e2;obtain⟨its,rv,pl,_⟩:=I.tuple sq.sq;obtain⟨its',rv',pl',_⟩:=I.tuple sq'.sq;rw[vD rs] at rv;rw[vD rs'] at rv';show wpAny _ _ (oneLt' (false&&_) _ _) _ _ _
    exact Srt.Yz pl pl' (qU rv) (qU rv') q5 h
end
def Reps.getD{K:W.Frag}{G:Option Addr}{Z:Addr->Prop}{H:Hp}{α:Type}{enc:α->D}{rows:List α}{a0:α}{xs:List V}(rs:Reps K G Z H (rows.map enc) xs){i:Nat}(hi:i<rows.length):Rep K G Z H (enc (rows.getD i a0)) (xs.getD i .non):=by
 obtain⟨v,e,r⟩:=rs.get (i:=i) (d:=enc rows[i]) (by rw[zE,zk hi];rfl)
 rw[xf,xf,e,zk hi];exact r
theorem Ym{K:W.Frag}{G:Option Addr}{Z:Addr->Prop}{H:Hp}{α:Type}{enc:α->D}{rows:List α}{a0:α}{xs:List V}(rs:Reps K G Z H (rows.map enc) xs):∀{ls:List Nat},(∀i∈ls,i<rows.length)->Reps K G Z H ((ls.map λi=>rows.getD i a0).map enc) (ls.map λi=>xs.getD i .non)
 |[],_=>.nil
 |i::ls,hl=>.cons (rs.getD (hl i (zo ..))) (Ym rs λj hj=>hl j (zc _ hj))
def Vu{α:Type}(a0:α)(rows:List α):(List.range rows.length).map (λi=>rows.getD i a0)=rows:=by
 apply List.ext_getElem
 ·simp
 ·intro i h1 h2;simp[xf,h2]
def zt2{A:AC}{X:Cx}(hK:X.K=A.K):vf A (QV X) zS5:=by
 rintro os n rho sg H ds vs es ws k Q I rs ⟨rows,f,rfl,hl,hf,hnd,q⟩ hQ;obtain⟨v,rfl,r⟩:=kK rs;obtain⟨a,xs,rfl,sq,rr⟩:=r.lst_inv
 have len:xs.length=rows.length:=by rw[rr.length,zm]
 have mem:∀i,i<rows.length->rows.getD i Qm∈rows:=λi hi=>by
  rw[xf,zk hi];exact getElem_mem hi
 have dist:∀i j,i<rows.length->j<rows.length->i≠j->(rows.getD i Qm).name≠(rows.getD j Qm).name:=λi j hi hj hij e=>by
  have g:∀i (hi:i<rows.length),(rows.map SRow.name)[i]'(by simpa using hi)=(rows.getD i Qm).name:=λi hi=>by
   rw[List.getElem_map,xf,zk hi];rfl
  have f:=xD.mp hnd
  rcases Nat.lt_or_gt_of_ne hij with l |l
  ·exact f i j (by simpa using hi) (by simpa using hj) l (by rw[g i hi,g j hj,e])
  ·exact f j i (by simpa using hj) (by simpa using hi) l (by rw[g i hi,g j hj,e])
 have num:∀i,i<rows.length->(rows.getD i Qm).key.num=f:=λi hi=>hf _ (mem i hi);rw[<- hK] at rr
 refine⟨a,xs,f,λi j=>(rows.getD i Qm).lt (rows.getD j Qm),rfl,by rw[hK];exact sq.sq,q5,λi j hi hj hij=>SRow.lt_anti (by rw[num i q5,num j q5]) (dist i j q5 q5 hij),λi j l _ _ _ h1 h2=>SRow.lt_trans h1 h2,λi hi=>?_,λi j hi hj hij=>?_,λls hp hU l hl'=>?_⟩
 ·intro pins s σ u J ru
  obtain⟨p,rest,R⟩:=QU J (rr.getD (enc:=SRow.d) (a0:=Qm) q5) ru
  obtain⟨z,t,_⟩:=R.tup;have ty:=zl7 J R
  rw[num i q5] at ty
  exact⟨p,_,t,ty⟩
 ·intro pins s σ u v J ru rv B hB
  obtain⟨p,ps,R⟩:=QU J (rr.getD (enc:=SRow.d) (a0:=Qm) q5) ru
  obtain⟨p',ps',R'⟩:=QU J (rr.getD (enc:=SRow.d) (a0:=Qm) q5) rv
  have c:=zz5 J (by rw[num i q5,num j q5]) (dist i j q5 q5 hij) R R' hB
  rw[num i q5] at c
  exact c
 ·rw [len] at hp hU
  have hls:∀i∈ls.toList,i<rows.length:=λi hi=>by
   have:=(hp.mem_iff).mp (Array.mem_toList_iff.mp hi)
   rwa [Array.mem_range] at this
  have hsz:ls.size=rows.length:=by rw[hp.size_eq,wP]
  rw[hK] at rr;refine hQ _ _ _ ⟨os,I.newLst (Ym (a0:=Qm) rr hls) hl'⟩ (q _ ?_ ?_)
  ·have p1 : ls.toList.Perm (List.range rows.length) := by
    have:=xN.mp hp
    rwa [yo] at this
   have p2:=p1.map λi=>rows.getD i Qm
   rwa [Vu] at p2
  ·rw [xQ, xD];intro i j hi hj hij
   have hi':i<ls.size:=by simpa using hi
   have hj':j<ls.size:=by simpa using hj
   have u:=hU i j hij q5
   have g:∀i (hi:i<ls.size),Srt.lab ls i=ls.toList[i]'(by simpa using hi):=λi hi=>by
    refine Srt.vE ?_
    rw[<- zB,zk (by simpa using hi)]
   rw[g i hi',g j hj'] at u;exact u
section
variable {A:AC}{X:Cx}{a:Expr}{ta:TD}{pos:Pos}
end
section
variable {X:Cx}{pins:List (Addr × Obj)}{σ:St}{H:Hp}{s:Shared}{G:Option Addr}{Z:Addr->Prop}
end
end L2
namespace L2
section
variable {X:Cx}{A:AC}
end
end L2
namespace L2.Srt
open PySem PyProof.Rows
section
variable {prog:Program}{w:World}{A:Around}{E:Value->Shared->Prop}{s:Shared}
def UT{l:Addr}{vs:List Value}{Q:List Value->Shared->Prop}(hl:IsTup s.heap l vs.toArray)
    (h:Q vs { s with heap:=(s.heap.push (seqObj "list" #[] 0)).update s.heap.objs.size (Obj.mapSeq (·++vs.toArray)) }) (hsz:vs.length<=sizeLine) :
    wpAny (model prog w) A (collect (.ref l)) Q E s:=by
  obtain⟨o,ho,hc,n,hd⟩:=id hl;unfold collect;refine zb (wpAny_runValue (codeAny_builtin entry_proto_collect' ?_))
  show wpAny _ _ (do again (.builtin "list.__iadd__" ⟨[<- newList [],.ref l],[]⟩)) _ _ s
  refine zb (wpAny_newList (zg ⟨Code.quiet_builtin _ w5,codeAny_builtin entry_list_iadd' ?_⟩))
  show wpAny _ _ (Builtin.List.listExtendWith (.ref s.heap.objs.size) (.ref l) (.ref s.heap.objs.size)) _ _ { s with heap:=s.heap.push (seqObj "list" #[] 0) };unfold Builtin.List.listExtendWith;have ho':(s.heap.push (seqObj "list" #[] 0)).get? l=some o:=zh _ ho;refine zb (wpAny_typeOf (T := "tuple") ⟨o,ho',hc⟩ ?_)
  have ht:(Value.type "tuple" == Value.type "tuple")=true:=by rfl
  rw[if_pos (by rw[ht];simp)]
  refine zb (listItems_at ho' hd ?_);refine zb (listItems_at (xs:=#[]) (n:=0) (zQ _ rfl) rfl ?_)
  rw[if_neg (by simp)]
  refine zb (listUpdate_at (xs:=#[]) (n:=0) (zQ _ rfl) rfl ?_ (wT _) (by show(#[]++vs.toArray).size<=sizeLine+1;simp only[Array.size_append,zJ,ya];lia))
  refine zg ?_
  show wpAny (model prog w) A (do
      let o <- load s.heap.objs.size
      match o.data with
      |.seq xs _=>pure xs.toList
      |_=>unsupported "internal:collect") Q E { s with heap:=(s.heap.push (seqObj "list" #[] 0)).update s.heap.objs.size (Obj.mapSeq (·++vs.toArray)) }
  refine zb (wpAny_load (get?_update_seq (zQ _ rfl) _) ?_);show wpAny _ _ (pure ((#[]:Array Value)++vs.toArray).toList) Q E _
  rw[show((#[]:Array Value)++vs.toArray).toList=vs by simp]
  exact zg h
end
end L2.Srt
namespace L2
section
variable {X:Cx}{A:AC}{pos:Pos}{e:Expr}{t1:TAD}
def Kz(X:Cx):List V->Hp->VK->Prop:=λxs H Q=>∃(p:Addr) (ns:List Int),xs=[.ref p]/\SqL X.K H p (ns.map V.int)/\ns.length<64/\∀ms:List Int,ms.Perm ns->ms.Pairwise (·>=·)->∀l,H l=none->Q (.ref l) (upd H l (.lst (ms.map V.int)))
def KP:List D->(D->Prop)->Prop:=λes k=>∃ns:List Int,es=[.lst (ns.map D.int)]/\ns.length<64/\∀ms:List Int,ms.Perm ns->ms.Pairwise (·>=·)->k (.lst (ms.map D.int))
def Qe(hK:X.K=A.K):vf A (Kz X) KP:=by
 rintro os n rho sg H ds vs es ws k Q I rs ⟨ns,rfl,hn,q⟩ hQ;obtain⟨v,rfl,r⟩:=kK rs;obtain⟨a,xs,rfl,sq,rr⟩:=r.lst_inv;have e:=vD rr;subst e
 exact⟨a,ns,rfl,by rw[hK];exact sq.sq,hn,λms h1 h2 l hl=>hQ _ _ _ ⟨os,I.newLst kn hl⟩ (q ms h1 h2)⟩
def JB{t:TA}{p kp cp:Pos}{j:Nat}(hg:Gl X "sorted")(hm:X.mg "sorted" = none)(ha:PA X [e] t)(he:starEach [e] X.env=(false,eval e X.env)::starEach [] X.env:=by rfl)(hpl:(backTo pos (starEach [e] X.env)).any (·.1)=false:=by rfl) :
  PE X (.Call (.Name "sorted" p) [e] [⟨some "reverse",.Constant (.bool true) j cp,kp⟩] pos) (tCB (Kz X) t):=by
 intro pins s σ H Q I h
 refine wz (Vy I hg hm kZ ?_ q9 q9)
 refine callWith_kw (env:=X.env) (e:=e) (rest:=[]) (thn (ha pos pins s σ H _ I h) λus s1 ⟨vs,H1,I1,r1,q1⟩=>?_) (by rw[he];rfl) hpl rfl rfl
 refine kws_cons (Constant_bool (kws_nil ?_));obtain⟨a,ns,rfl,hq,hn,q⟩:=q1
 cases r1 with
 |cons r rr=>
  cases rr;cases r;obtain⟨its,rv,pl,_⟩:=I1.list hq;have hl:=pl.isList
  have hsz:its.length=ns.length:=by have:=rv.length;simpa using this.symm
  refine sorted_ints_rev (b:=true) hl (qU rv) q5 λout ms hi hp hs=>?_
  obtain⟨e,he⟩:=sortedAll_at s1.heap its out;have hml:ms.length=ns.length:=hp.length_eq;have hf:H1 (s1.heap.objs.size+1)=none:=I1.hok.fresh (xY _);refine⟨.ref (s1.heap.objs.size+1),_,I1.laid (t':=s1.toks) (o:=.lst (ms.map V.int)) (λb u e=>sortedAll_old e) (xY _) ?_,rfl,q ms hp hs _ hf⟩
  exact⟨by rw[zm];exact zF q5 (yL (k:=64) q5),out.toList,e,kD hi,he⟩
def JD{p kp cp:Pos}{j:Nat}(hK:X.K=A.K)(hm:X.mg "sorted" = none)(ha:PAD A X [e] t1)(hg:Gl X "sorted" := by rfl)(he:starEach [e] X.env=(false,eval e X.env)::starEach [] X.env:=by rfl)(hpl:(backTo pos (starEach [e] X.env)).any (·.1)=false:=by rfl) :
  PD A X (.Call (.Name "sorted" p) [e] [⟨some "reverse",.Constant (.bool true) j cp,kp⟩] pos) (zh4 KP t1):=by
 exists 
   (JB hg hm ha he hpl).imp λ_ _ _=>QM (Qe hK)
end
mutual
def Xs:D->Bool
 |.st=>false
 |.own _=>false
 |.tup ds=>Zl ds
 |.lst ds=>Zl ds
 |.fz ds=>Zl ds
 |.dct _ ds=>Zl ds
 |_=>true
def Zl:List D->Bool
 |[]=>true
 |d::ds=>Xs d&&Zl ds
end
theorem Vo:∀{ds:List D},Zl ds=true↔∀d∈ds,Xs d=true
 |[]=>by simp[Zl]
 |d::ds=>by simp[Zl,Vo (ds:=ds)]
def KI{d:D}(h:Xs d=true):yr d=true:=by
 cases d<;>first |rfl |(simp[Xs] at h;done)
section
variable {K:W.Frag}{G G':Option Addr}{Z:Addr->Prop}{H:Hp}
mutual
theorem Rep.reG:∀(d:D) (v:V),Xs d=true->Rep K G Z H d v->Rep K G' Z H d v
 |.st,v,hn,h=>by simp[Xs] at hn
 |.own _,v,hn,h=>by simp[Xs] at hn
 |.tup ds,v,hn,h=>by
  unfold Rep at h ⊢;obtain⟨a,xs,e,q,r⟩:=h
  exact⟨a,xs,e,q,Reps.reG ds xs (by simpa [Xs] using hn) r⟩
 |.lst ds,v,hn,h=>by
  unfold Rep at h ⊢;obtain⟨a,xs,e,q,r⟩:=h
  exact⟨a,xs,e,q,Reps.reG ds xs (by simpa [Xs] using hn) r⟩
 |.fz ds,v,hn,h=>by
  unfold Rep at h ⊢;obtain⟨a,xs,e,q,r⟩:=h
  exact⟨a,xs,e,q,Reps.reG ds xs (by simpa [Xs] using hn) r⟩
 |.non,v,hn,h=>by unfold Rep at h ⊢;exact h
 |.bl b,v,hn,h=>by unfold Rep at h ⊢;exact h
 |.int b,v,hn,h=>by unfold Rep at h ⊢;exact h
 |.str b,v,hn,h=>by unfold Rep at h ⊢;exact h
 |.ty b,v,hn,h=>by unfold Rep at h ⊢;exact h
 |.dic,v,hn,h=>by unfold Rep at h ⊢;exact h
 |.exc _,v,hn,h=>by unfold Rep at h ⊢;exact h
 |.dct ks ds,v,hn,h=>by
  unfold Rep at h ⊢;obtain⟨a,xs,e,q,r⟩:=h
  exact⟨a,xs,e,q,Reps.reG ds xs (by simpa [Xs] using hn) r⟩
 |.rf a,v,hn,h=>by unfold Rep at h ⊢;exact h
theorem Reps.reG:∀(ds:List D) (vs:List V),Zl ds=true->Reps K G Z H ds vs->Reps K G' Z H ds vs
 |[],vs,hn,h=>by unfold Reps at h ⊢;exact h
 |d::ds,vs,hn,h=>by
  unfold Reps at h ⊢;obtain⟨v,r,e,q,t⟩:=h
  have hn':Xs d=true/\Zl ds=true:=by simpa [Zl] using hn
  exact⟨v,r,e,Rep.reG d v hn'.1 q,Reps.reG ds r hn'.2 t⟩
end
end
def VB:Option D->Option D
 |some d=>if Xs d=true then some d else none
 |none=>none
def ze0{d:D}(h:Xs d=true):VB (some d)=some d:=by show(if Xs d=true then some d else none)=_;rw[if_pos h]
def vc(rho:Rho):Rho:=rho.map VB
def Xv{rho:Rho}{j:Nat}{d:D}(h:(vc rho)[j]?=some (some d)):rho[j]?=some (some d)/\Xs d=true:=by
 unfold vc at h;rw[zE] at h
 cases q:rho[j]? with
 |none=>rw[q] at h;cases h
 | some o =>
  rw[q] at h
  cases o with
  |none=>cases h
  |some c=>
   have h':(if Xs c=true then some c else none)=some d:=zy h
   by_cases hc:Xs c=true
   ·rw[if_pos hc] at h';cases h';exact⟨rfl,hc⟩
   ·rw[if_neg hc] at h';cases h'
def zM1(i:Nat)(t:TF)(t1:TAD)(t2:TSD):TSD:=λF rho n=>∃ns:List Int,i<rho.length/\n<64/\t1 rho n λes n1=>∃j:Int,es=[yD ns,.int j]/\n1=n/\t es n λd n2=>∃zs:List Int,d=.lst (zs.map D.int)/\zs.length=n/\(∀x∈zs,0<=x)/\(∀x,zs[1]?=some x->x<2147483647) /\
 t2 { nx:=λrho' _=>F.nx (vc rho') n,rt:=λd _=>kI d=true/\F.rt d n,bk:=λrho' _=>F.bk (vc rho') n,ct:=λrho' _=>F.ct (vc rho') n } ((vc rho).set i (some .st)) n
def JM{i:Nat}{t:TF}{t1:TAD}{t2:TSD}{F:EndsD}{rho:Rho}{n:Nat}(ns:List Int)(hi:i<rho.length)(j:Int)(ht:t1 rho n λes n1=>es=[yD ns,.int j]/\n1=n)
  (ht1:∀(P P':List D->Nat->Prop),(∀es n1,P es n1->P' es n1)->t1 rho n P->t1 rho n P')
  (h : t [yD ns, .int j] n λd n2 => ∃ zs : List Int, d = .lst (zs.map D.int) /\ zs.length = n /\ (∀ x ∈ zs, 0 <= x) /\ (∀ x, zs[1]? = some x -> x < 2147483647) /\
   t2 { nx:=λrho' _=>F.nx (vc rho') n,rt:=λd _=>kI d=true/\F.rt d n,bk:=λrho' _=>F.bk (vc rho') n,ct:=λrho' _=>F.ct (vc rho') n } ((vc rho).set i (some .st)) n) (h64:n<64:=by decide):zM1 i t t1 t2 F rho n:=
 ⟨ns,hi,h64,ht1 _ _ (λes n1 ⟨e1,e2⟩=>⟨j,e1,e2,by rw[e1];exact h⟩) ht⟩
section
variable {A:AC}{X:Cx}{e:Expr}{es:List Expr}{t1:TAD}{t2:TSD}{pos p:Pos}
def za2{x g:Str}{i:Nat}{t:TF}{kk:Nat}{pos' spos:Pos}{rest:List Stmt}(hG:A.G=none)(hN:X.N.Nodup)(hi:X.N[i]?=some x)(hx:Loc X.env.scope x)(F:Fn X.prog X.w X.K X.mg X.base g kk 2 t)(hr:Room kk X.A)(hK:X.K=A.K)
  (ha:PAD A X (e::es) t1) (h2:∀(c:Addr) (Z:Addr->Prop) (H0:Hp),VZ ⟨A.K,some c,Z,H0⟩ X rest t2) (hg:Gl X g:=by rfl) (hdb:(g == ("__debug__" : Str))=false:=by decide) (he:starEach (e::es) X.env=(false,eval e X.env)::starEach es X.env:=by rfl) (hpl:(backTo pos (starEach es X.env)).any (·.1)=false:=by rfl)
  (hs:swapsWith (.Call (.Name g p) (e::es) [] pos) (some (.Name x pos')) spos.line X.env=pure false:=by rfl) (hf:X.fn x=true\/X.env.scope.names.lookup x=some .local:=by first |exact .inl rfl |exact .inr rfl |assumption) :
  VZ A X (.Assign [.Name x pos'] (.Call (.Name g p) (e::es) [] pos) spos::rest) (zM1 i t t1 t2):=by
 exists (by
   obtain⟨f,fd,ps,f1,f2,f3,f4⟩:=F.ex;have c1:=zv1 (pos:=spos) hN hi hx (zb2 (p:=p) f1 hr hg f2 f3 f4 .nil JF ha hdb he hpl) hs hf
   have c2:PSs X rest (λE' sg' H'=>∃c Z H0,sOf ⟨A.K,some c,Z,H0⟩ t2 E' sg' H'):=λpins s' sg' H' D I q=>by
    obtain⟨c,Z,H0,q⟩:=q;exact h2 c Z H0 pins s' sg' H' D I q
   refine(KB c1 c2).imp λE sg H h=>?_;obtain⟨rho,n,F,ds,vs,I,⟨ns,hi',h64,ht⟩,ok⟩:=h;refine⟨rho,n,_,ds,vs,I,ht,λws H' n' es' ⟨os',J⟩ hl k=>?_⟩;obtain⟨j,rfl,rfl,k⟩:=k;obtain⟨J1,rs⟩:=J.split hl;obtain⟨v1,v2,rfl,r1,r2⟩:=zm2 rs;have r1':Rep A.K none (λa=>H' a≠none/\¬ ∃o u,H' a=some (.frz o u)) H' (yD ns) v1:=Jy r1 λa o u _ e=>⟨λz=>z.2 ⟨o,u,e⟩,e⟩
   have r2':Rep A.K none (λa=>H' a≠none/\¬ ∃o u,H' a=some (.frz o u)) H' (.int j) v2:=by rw[r2.int_inv];exact Rep.ofS (d:=.int j) rfl
   rw[xG,hK]
   refine⟨none,λa=>H' a≠none/\¬ ∃o u,H' a=some (.frz o u),n',_,_,rfl,.cons r1' (.cons r2' .nil),⟨λb e=>(by cases e),λa c e=>(by rw[kY h64] at e;cases e)⟩,λb e=>(by cases e),⟨λb z=>z.1,λP q t=>⟨(J1.zO.2 P q t).1,by simp⟩⟩,k,λv H2 n2 d fr st gw r q=>?_⟩
   have fr:∀a o,none≠some a->H' a=some o->H2 a=some o:=λa o g=>fr a o g (kY h64);obtain⟨zs,rfl,q1,q2,q3,q⟩:=q;obtain⟨c,xs,rfl,sq,rr⟩:=r.lst_inv;rw[qj rr] at sq
   have hc:H' c=none:=by
    cases z:H' c with
    |none=>rfl
    |some o=>
     have z2:=fr c o (by simp) z
     rw[sq.2] at z2;cases z2
     exact absurd ⟨by rw[z];simp,fun⟨o,u,z3⟩=>by rw[z] at z3;cases z3⟩ λz=>sq.1 (.inl z)
   have ne:∀{a:Addr}{o:HO},H' a=some o->a≠c:=λ{a o} e h=>by rw[h,hc] at e;cases e
   have back:∀{m:Nat}{os:List (Nat × Addr)}{rho' rho2:Rho}{sg':St}{H3:Hp}{ds3:List D}{vs3:List V},AmO ⟨A.K,some c,λb=>Zof A os' b\/b=c,H2⟩ os m rho' sg' H3 ds3 vs3->rho2.length=sg'.length->(∀j d,rho2[j]?=some (some d)->∃v,sg'[j]?=some (some v)/\Rep A.K A.G (Zof A []) H3 d v)->AmO A [] n' rho2 sg' H3 ds vs:=λ{m os rho' rho2 sg' H3 ds3 vs3} I3 hl2 hs2=>by
    have keep:∀a o,H' a=some o->H3 a=some o:=λa o e=>I3.fr a o (λz=>ne e (zy z).symm) (fr a o (by simp) e)
    refine⟨hl2,λj d e=>?_,?_,.nil,λp hp=>(by simp at hp),⟨λb e=>(by rw[hG] at e;cases e),λa c e=>(by rw[kY h64] at e;cases e)⟩,J1.gz,λa o z e=>keep a o (J1.fr a o z e),J1.z0⟩
    ·obtain⟨v,e1,e2⟩:=hs2 j d e;exact⟨v,e1,SlotR.of e2⟩
    ·refine Reps.mono (λa _ z => ?_) (λa o _ e => keep a o e) _ _ J1.pend
     rcases z with z |⟨p,hp,_⟩
     ·exact .inl z
     ·simp at hp
   have scr:∀{m:Nat}{os:List (Nat × Addr)}{rho':Rho}{sg':St}{H3:Hp}{ds3:List D}{vs3:List V},AmO ⟨A.K,some c,λb=>Zof A os' b\/b=c,H2⟩ os m rho' sg' H3 ds3 vs3->AmO A [] n' (vc rho') sg' H3 ds vs:=λ{m os rho' sg' H3 ds3 vs3} I3=>by
    refine back I3 (by unfold vc;rw[zm];exact I3.len) λj d e=>?_
    obtain⟨e,hn⟩:=Xv e;obtain⟨v,e1,e2⟩:=I3.slot j d e;have e3:=SlotR.rep (KI hn) e2;refine⟨v,e1,Rep.reG d v hn (Rep.mono (λa _ z=>?_) (λa o _ e=>e) d v e3)⟩
    rcases z with z |⟨p,hp,_⟩
    ·exact .inl (.inl (.inl z))
    ·simp at hp
   have hl0:rho.length=sg.length:=J1.len;refine⟨c,λb=>Zof A os' b\/b=c,H2,(vc rho).set i (some .st),n',_,[],[],⟨[],?_⟩,q,?_⟩
   ·refine ⟨by simp [vc, hl0], λj d e => ?_, .nil, .nil, λp hp => by simp at hp, ⟨λb e => ?_, λa c e => (by rw [kY h64] at e; cases e)⟩, λb e => ?_, λb o _ e => e, ?_⟩
    ·by_cases hj : j = i
     ·subst hj
      rw[xt (by simp[vc];lia)] at e
      cases e
      exact⟨.ref c,xt q5,SlotR.of (by unfold Rep;exact⟨c,rfl,rfl⟩)⟩
     ·rw [xI (Ne.symm hj)] at e;obtain⟨e,hn⟩:=Xv e;obtain⟨v,e1,e2⟩:=J1.slot j d e;have e3:=SlotR.rep (KI hn) e2
      refine⟨v,by rw[xI (Ne.symm hj)];exact e1,SlotR.of (Rep.reG d v hn (Rep.mono (λa ha z=>?_) (λa o _ e=>fr a _ (by simp) e) d v e3))⟩
      rcases z with (z |z) |⟨p,hp,_⟩
      ·exact z
      ·exact absurd (z ▸ hc) ha
      ·simp at hp
    ·cases e
     exact⟨zs,0,0,sq.2,by rw[ze1 h64];exact q1,q2,q3⟩
    ·exact .inr (zy e).symm
    ·refine ⟨λb e => .inl ?_, λP q t => ⟨fr P _ (by simp) (J1.zO.2 P q t).1, λz => ne (J1.zO.2 P q t).1 (zy z).symm⟩⟩
     rcases e with e |e
     ·have := J1.zH b e
      cases z:H' b with
      |none=>exact absurd z this
      |some o=>
       show H2 b≠none
       rw[fr b o (by simp) z];simp
     ·show H2 b≠none;rw[e,sq.2];simp
   ·refine ⟨λrho3 n3 sg3 H3 ⟨os3, I3⟩ q => ?_, λd n3 v rho3 sg3 H3 ⟨os3, I3⟩ q => ?_, λrho3 n3 sg3 H3 ⟨os3, I3⟩ q => ?_, λrho3 n3 sg3 H3 ⟨os3, I3⟩ q => ?_⟩
    ·skip
     exact ok.nx _ _ _ _ ⟨[],scr I3⟩ q
    ·obtain ⟨hd, q⟩ := q
     have I4:AmO A [] n' (replicate sg3.length none) sg3 H3 ds vs:=back I3 (by simp) λj d e=>by
      rw[we] at e
      split at e<;>cases e
     refine ok.rt _ _ _ _ _ _ ⟨[],I4.push ?_⟩ q;rw[I3.pop.2.toS hd];exact Rep.ofS hd
    ·skip
     exact ok.bk _ _ _ _ ⟨[],scr I3⟩ q
    ·skip
     exact ok.ct _ _ _ _ ⟨[],scr I3⟩ q)
end
def zr4(ks:List Key)(k:Key):Bool:=ks.any λj=>decide (j=k)
def XS(ks:List Key)(k:Key):List Key:=if zr4 ks k=true then ks else ks++[k]
def za0{α:Type}(ks:List Key)(xs:List α)(k:Key)(x:α):List α:=if zr4 ks k=true then List.zipWith (λj y=>if j=k then x else y) ks xs else xs++[x]
theorem zd4:∀(ks:List Key) (xs:List V) (k:Key),ks.length=xs.length->((YJ ks xs).any λkv=>decide (kv.1=k))=zr4 ks k
 |[],xs,k,_=>rfl
 |j::ks,[],k,h=>by simp at h
 |j::ks,x::xs,k,h=>by
  have ih:=zd4 ks xs k (by simpa using h)
  show(decide (j=k)||(YJ ks xs).any _)=(decide (j=k)||zr4 ks k);rw[ih]
theorem zd3:∀(ks:List Key) (xs:List V) (k:Key) (v:V),(YJ ks xs).map (λkv=>if kv.1=k then(kv.1,v) else kv)=YJ ks (List.zipWith (λj y=>if j=k then v else y) ks xs)
 |[],xs,k,v=>by simp[YJ]
 |j::ks,[],k,v=>by simp[YJ]
 |j::ks,x::xs,k,v=>by
  have ih:=zd3 ks xs k v
  show(if j=k then(j,v) else(j,x))::(YJ ks xs).map _=(j,if j=k then v else x)::YJ ks _
  rw[ih]
  by_cases e:j=k<;>simp[e]
def zq9{ks:List Key}{xs:List V}(k:Key)(v:V)(h:ks.length=xs.length):YJ ks xs++[(k,v)]=YJ (ks++[k]) (xs++[v]):=by
 unfold YJ;rw[List.zipWith_append h];rfl
def zG3{ks:List Key}{xs:List V}(k:Key)(v:V)(h:ks.length=xs.length):Wx (YJ ks xs) k v=YJ (XS ks k) (za0 ks xs k v):=by
 unfold Wx XS za0;rw[zd4 ks xs k h]
 by_cases e:zr4 ks k=true
 ·rw[if_pos e,if_pos e,if_pos e,zd3]
 ·rw[if_neg e,if_neg e,if_neg e,zq9 k v h]
def put_len{α:Type}{ks:List Key}{xs:List α}(k:Key)(x:α)(h:ks.length=xs.length):(XS ks k).length=(za0 ks xs k x).length:=by
 unfold XS za0
 split
 ·rw[List.length_zipWith,<- h];lia
 ·simp[h]
def zO0{α:Type}{ks:List Key}{xs:List α}(k:Key)(x:α)(h:ks.length=xs.length):(XS ks k).length<=ks.length+1:=by
 unfold XS
 split<;>simp
section
variable {K:W.Frag}{G:Option Addr}{Z:Addr->Prop}{H:Hp}
theorem Reps.zipPut{d:D}{v:V}(r:Rep K G Z H d v)(k:Key):∀{ks:List Key}{es:List D}{xs:List V},Reps K G Z H es xs->Reps K G Z H (List.zipWith (λj y=>if j=k then d else y) ks es) (List.zipWith (λj y=>if j=k then v else y) ks xs)
 |[],es,xs,h=>.nil
 |j::ks,[],xs,h=>by rw[h.nil_inv];exact .nil
 |j::ks,e::es,xs,h=>by
  obtain⟨x,xr,rfl,q,t⟩:=h.split;have ih:=Reps.zipPut r k (ks:=ks) t
  show Reps K G Z H ((if j=k then d else e)::_) ((if j=k then v else x)::_)
  by_cases z:j=k
  ·rw[if_pos z,if_pos z];exact .cons r ih
  ·rw[if_neg z,if_neg z];exact .cons q ih
def Reps.put{d:D}{v:V}{ks:List Key}{es:List D}{xs:List V}(h:Reps K G Z H es xs)(r:Rep K G Z H d v)(k:Key):Reps K G Z H (za0 ks es k d) (za0 ks xs k v):=by
 unfold za0
 split
 ·exact Reps.zipPut r k h
 ·exact h.append (.cons r .nil)
end
def JT:D->Option Key
 |.int i=>some (Sum.inl i)
 |.str x=>some (Sum.inr x)
 |_=>none
@[simp] theorem zS4{i:Int}:JT (.int i)=some (Sum.inl i):=rfl
@[simp] theorem zS3{i:Str}:JT (.str i)=some (Sum.inr i):=rfl
def VA{K:W.Frag}{G:Option Addr}{Z:Addr->Prop}{H:Hp}{d:D}{v:V}{k:Key}(h:Rep K G Z H d v)(e:JT d=some k):v=kV k:=by
 cases d with
 |int i=>cases e;exact h.int_inv
 |str i=>cases e;exact h.toS rfl
 |_=>simp[JT] at e
section
variable {A:AC}{X:Cx}{tg iter kx vx:Expr}{ifs:List Expr}{scope:Scope}{own M:List Str}{pos:Pos}{it:TID}{g:TGD}{tt:TBD}{tk tv:TD}
def zg6(own:Nat)(g:TGD)(tt:TBD)(tk tv:TD)(rho:Rho)(P:D->Nat->Prop)(items:List D)(n1:Nat):Prop:=items.length<=sizeLine/\∃J:Nat->List Key->List D->Nat->Prop,J 0 [] [] n1 /\
 (∀i d ks es n,items[i]?=some d->J i ks es n->g d (replicate own none++rho) λrho'=>rho'.drop own=rho/\tt rho' n λc n2=>if c=true then tk rho' n2 λdk n3=>tv rho' n3 λdv n4=>∃k,JT dk=some k/\J (i+1) (XS ks k) (za0 ks es k dv) n4 else J (i+1) ks es n2) /\
 ∀ks es n,J items.length ks es n->P (.dct ks es) n
def zh1(it:TID)(own:Nat)(g:TGD)(tt:TBD)(tk tv:TD):TD:=λrho n P=>it rho n (zg6 own g tt tk tv rho P)
@[simp] theorem zX6{it own g tt tk tv rho n P}:zh1 it own g tt tk tv rho n P=it rho n (zg6 own g tt tk tv rho P):=rfl
def AmO.newDct{os n rho sg H ds vs}{ks:List Key}{es:List D}{xs:List V}{p:Addr}(I:AmO A os n rho sg H ds vs)(r:Reps A.K A.G (Zof A os) H es xs)(hp:H p=none):AmO A os n rho sg (upd H p (.dK (YJ ks xs))) (.dct ks es::ds) (.ref p::vs):=by
 have hf:∀a u,H a=some u->upd H p (.dK (YJ ks xs)) a=some u:=λa u e=>by
  rw[xS λz=>by rw[z,hp] at e;cases e];exact e
 refine⟨I.len,λi d e=>?_,?_,I.nd,λq hq=>?_,I.st.mono (λ_ _ z=>z) (λa u _ e=>hf a u e) (λa u _ e=>hf a u e) (λ_ _ z=>z) (λa u _ e=>hf a u e),I.gz,λa u h e=>hf a u (I.fr a u h e),I.z0⟩
 ·obtain⟨v,e1,e2⟩:=I.slot i d e;exact⟨v,e1,SlotR.mono (λ_ _ z=>z) (λa u _ e=>hf a u e) (λa xs m q=>⟨m,hf a _ q⟩) _ _ e2⟩
 ·refine .cons ?_ (Reps.mono (λ_ _ z=>z) (λa u _ e=>hf a u e) _ _ I.pend);unfold Rep;refine⟨p,xs,rfl,⟨λz=>?_,yd⟩,Reps.mono (λ_ _ z=>z) (λa u _ e=>hf a u e) _ _ r⟩;exact absurd hp (I.zH p z)
 ·obtain ⟨f1, f2, f3⟩ := I.fresh q hq;refine⟨f1,f2,?_⟩
  cases e:H q.2 with
  |none=>exact absurd e f3
  |some u=>rw[hf _ _ e];simp
def QI{sg:St}{H:Hp}{Q:VK}{m:Nat}(h:tOf A (zh1 it m g tt tk tv) sg H Q):zt9 (iOf A it) m (gOf A m g) (Ua A tt) (tOf A tk) (tOf A tv) sg H Q:=by
 obtain⟨rho,n,P,ds,vs,I,ht,hQ⟩:=h;refine⟨rho,n,_,ds,vs,I,ht,λJ H' n' items es ws I1 hl hJ k=>?_⟩;obtain⟨hsz,W,w0,turn,fin⟩:=k
 refine⟨λi mm acc H=>mm=items.length-i/\i<=items.length/\∃ks accD xs n,acc=YJ ks xs/\ks.length=xs.length/\ks.length<=i/\xs.length=accD.length/\Am A n rho sg H (es++(accD++ds)) (ws++(xs++vs))/\W i ks accD n,
  ⟨items.length,rfl,wT _,[],[],[],n',rfl,rfl,zj _,rfl,I1,w0⟩,?_⟩
 rintro i mm acc H3 ⟨rfl,hi,ks,accD,xs,n3,rfl,hkl,hai,hal,⟨os,I3⟩,w3⟩
 have hlk:(YJ ks xs).length=ks.length:=by unfold YJ;rw[List.length_zipWith];lia
 obtain⟨j1,j2⟩:=hJ n3 rho sg H3 (accD++ds) (xs++vs) i ⟨os,I3⟩
 by_cases hlt:i<items.length
 ·refine .inr ⟨(j1 items[i] (by simp [hlt])).1, by lia, λx H4 y => ?_⟩
  obtain⟨os4,I4⟩:=(j1 items[i] (by simp[hlt])).2 x H4 y
  refine⟨replicate m none++rho,n3,_,items[i],es++(accD++ds),ws++(xs++vs),⟨_,I4.front m⟩,turn i items[i] ks accD n3 (by simp[hlt]) w3,λrho' sg' ⟨os5,I5⟩ e5 k5=>?_⟩
  obtain⟨k5,k6⟩:=k5
  have e6:sg'.drop m=sg:=by rw[e5,yb (by simp)]
  refine⟨e6,rho',n3,_,es++(accD++ds),ws++(xs++vs),⟨os5,I5⟩,k6,λc H6 n6 ⟨os6,I6⟩ k7=>?_⟩
  cases c with
  |false=>
   obtain⟨os7,I7⟩:=I6.back k5 e6
   exact⟨items.length-(i+1),q5,rfl,hlt,ks,accD,xs,n6,rfl,hkl,q5,hal,⟨os7,I7⟩,k7⟩
  |true=>
   rw[if_pos rfl] at k7 ⊢;refine⟨rho',n6,_,es++(accD++ds),ws++(xs++vs),⟨os6,I6⟩,k7,λvk H8 n8 dk I8 k8=>?_⟩;refine⟨rho',n8,_,dk::(es++(accD++ds)),vk::(ws++(xs++vs)),I8,k8,λv H9 n9 d ⟨os9,I9⟩ k9=>?_⟩;obtain⟨kk,ek,w9⟩:=k9;obtain⟨os10,I10⟩:=I9.back k5 e6;obtain⟨I11,rv⟩:=I10.pop;obtain⟨I12,rk⟩:=I11.pop;obtain⟨I13,r1⟩:=I12.split hl;obtain⟨I14,r2⟩:=I13.split hal
   refine⟨kk,items.length-(i+1),VA rk ek,q5,rfl,hlt,XS ks kk,za0 ks accD kk d,za0 ks xs kk v,n9,zG3 kk v hkl,put_len kk v hkl,?_,?_,⟨os10,(I14.join (r2.put rv kk)).join r1⟩,w9⟩
   ·have:=zO0 kk v hkl;lia
   ·rw[<- put_len kk v hkl,<- put_len kk d q5]
 ·have e : i = items.length := by lia
  subst e
  refine .inl ⟨j2 (zj _),q5,λD hD=>?_⟩
  obtain⟨I4,r1⟩:=I3.split hl;obtain⟨I5,r2⟩:=I4.split hal;exact hQ _ _ n3 _ ⟨os,I5.newDct r2 hD⟩ (fin ks accD n3 w3)
def zo8(ok:CompOk X scope M)(hc:X.calm=true)(hi:PID A X tg iter it)(hg:∀C s2 H2 fp,PGD A (wO X scope own M C s2 H2 fp) own.length tg g)(ht:∀C s2 H2 fp,PTs (wO X scope own M C s2 H2 fp) ifs (Ua A tt))
  (hk:∀C s2 H2 fp,PD A (wO X scope own M C s2 H2 fp) kx tk) (he:∀C s2 H2 fp,PD A (wO X scope own M C s2 H2 fp) vx tv) (hs:∀x,foldedSetIterable iter X.env x=pure x:=by intro _;rfl):PD A X (.DictComp kx vx [⟨tg,iter,ifs,0⟩] scope pos) (zh1 it own.length g tt tk tv):=by exists (zo3 ok hc hi hg ht hk he hs).imp λ_ _ _=>QI
end
def atK:List Key->List D->Key->Option D
 |k::ks,d::ds,x=>if k=x then some d else atK ks ds x
 |_,_,_=>none
def zj7{K:W.Frag}{G:Option Addr}{Z:Addr->Prop}{H:Hp}:∀{ks:List Key}{ds:List D}{xs:List V}{x:Key},Reps K G Z H ds xs ->
  (∀d,atK ks ds x=some d->∃v,Xa (YJ ks xs) x=some v/\Rep K G Z H d v)/\(atK ks ds x=none->Xa (YJ ks xs) x=none)
 |[],ds,xs,x,r=>⟨λd h=>by simp[atK] at h,λ_=>rfl⟩
 |k::ks,[],xs,x,r=>by rw[r.nil_inv];exact⟨λd h=>by simp[atK] at h,λ_=>rfl⟩
 | k :: ks, e :: ds, xs, x, r => by
  obtain⟨v,rs,rfl,q,t⟩:=r.split;obtain⟨i1,i2⟩:=zj7 (ks:=ks) (x:=x) t;unfold atK
  by_cases c:k=x
  ·rw [if_pos c]
   exact⟨λd h=>by cases h;exact⟨v,jH (p:=(k,v)) c,q⟩,λh=>by cases h⟩
  ·rw[if_neg c];have e2:Xa (YJ (k::ks) (v::rs)) x=Xa (YJ ks rs) x:=jI (p:=(k,v)) c;rw[e2];exact⟨i1,i2⟩
section
variable {A:AC}{X:Cx}{a b:Expr}{ta tb:TD}{pos:Pos}
def rDx:R2:=λx y H Q=>∃a v,x=.ref a/\DGet H a y (some v)/\Q v H
def xa5:RD2:=λd1 d2 k=>∃ks ds x d,d1=.dct ks ds/\JT d2=some x/\atK ks ds x=some d/\k d
@[simp] theorem QY{ks ds x k}:xa5 (.dct ks ds) (.int x) k↔∃d,atK ks ds (Sum.inl x)=some d/\k d:=⟨fun⟨_,_,_,d,e,e',h⟩=>by cases e;cases e';exact⟨d,h⟩,fun⟨d,h⟩=>⟨_,_,_,d,rfl,rfl,h⟩⟩
def xa4:qb A rDx xa5:=by
 rintro os n rho sg H ds vs d1 d2 v1 v2 k Q I ⟨ks,es,x,d,rfl,hk,hx,q⟩ hQ;obtain⟨I1,r2⟩:=I.pop;obtain⟨I2,r1⟩:=I1.pop;have e2:=VA r2 hk;subst e2;unfold Rep at r1;obtain⟨a,xs,rfl,⟨hz,hH⟩,rs⟩:=r1;obtain⟨v,hv,rv⟩:=(zj7 rs).1 d hx
 exact⟨a,v,rfl,by rw[<- hv];exact DGet.k hH,hQ _ _ _ ⟨os,I2.push rv⟩ q⟩
def zv4(hu:X.A.units+1<cLine)(ha:PD A X a ta)(hb:PD A X b tb)(hs:zY2 b):PD A X (.Subscript a b pos) (dOp xa5 ta tb):=by exists (zb0 hu ha hb hs).imp λ_ _ _=>WE (r:=rDx) xa4
def xa8(neg:Bool):R2:=λy x H Q=>∃a o,x=.ref a/\DGet H a y o/\Q (.bl (o.isSome != neg)) H
def zv7(hu:X.A.units+1<cLine):OpR X (compareOp .In) (xa8 false):=by
 intro pins s σ H x y v u Q I rx ry h;obtain⟨a,o,rfl,g,q⟩:=h;cases(show u=Value.ref a from ry)
 exact xt4 hu I g rx λs' I'=>⟨.bl (o.isSome != false),H,I',by simp;rfl,q⟩
def zb8(hu:X.A.units+1<cLine):OpR X (compareOp .NotIn) (xa8 true):=by
 intro pins s σ H x y v u Q I rx ry h;obtain⟨a,o,rfl,g,q⟩:=h;cases(show u=Value.ref a from ry)
 exact zH9 hu I g rx λs' I'=>⟨.bl (o.isSome != true),H,I',by simp;rfl,q⟩
end
section
variable {X:Cx}{A:AC}
end
section
variable {A:AC}{X:Cx}{a b c:Expr}{ta tb tc:TD}{pos:Pos}
end
section
variable {A:AC}{X:Cx}{b:Expr}{tb:TD}{pos:Pos}
end
end L2
namespace L2
open PySem PySem.Spec PyProof.Rows PySem.SeqAt
section
variable {A:AC}{X:Cx}{a b c e:Expr}{ta tb tc te:TD}{pos:Pos}
end
section
variable {X:Cx}{pins:List (Addr × Obj)}{σ:St}{H:Hp}{s:Shared}{G:Option Addr}{Z:Addr->Prop}
end
end L2
namespace L2
section
variable {A:AC}{X:Cx}{a1 a2 b1 b2:Expr}{ta:TAD}{tb1 tb2:TD}{pos:Pos}
end
end L2
namespace PySem
open PySem.Sem (wp)
namespace F
end F
section
variable {prog:Program}{w:World}{K:Type} [DecidableEq K] {knd:KeyKind prog w K}{A:Around}{R:Result->Shared->Prop}
end
section
variable {prog:Program}{w:World}{K:Type} [DecidableEq K] {knd:KeyKind prog w K}{A:Around}{E:Value->Shared->Prop}{s:Shared}
end
end PySem
namespace L2
section
variable {X:Cx}{A:AC}
end
end L2
namespace L2
open PySem PySem.Spec PyProof.Rows PySem.SeqAt
section
variable {A:AC}{X:Cx}
end
end L2
namespace L2
section
variable {A:AC}
end
section
variable {A:AC}{X:Cx}{pos:Pos}{m:Nat}
end
section
variable {A:AC}{X:Cx}
end
def lo{sc:Scope}{x:Str}(h:(match sc.names.lookup x with |some .local=>true |some .cell=>true |_=>false)=true):Loc sc x:=by
 unfold Loc
 split at h
 ·exact .inl (by assumption)
 ·exact .inr (by assumption)
 ·cases h
end L2
namespace L2
open PySem PySem.Spec PyProof.Rows PySem.SeqAt
section
variable {A:AC}{X:Cx}
def zV5(te:TD):TD:=λrho n P=>te rho n λd n1=>∃x:Int,d=.int x/\P (.int ((Builtin.Int.intBits x:Nat):Int)) n1
@[simp] theorem xf8{te:TD}{rho:Rho}{n:Nat}{P:D->Nat->Prop}:zV5 te rho n P=te rho n λd n1=>∃x:Int,d=.int x/\P (.int ((Builtin.Int.intBits x:Nat):Int)) n1:=rfl
def zF4:MtR X "int.bit_length" (λx vs H Q=>∃z,x=.int z/\vs=[]/\Q (.int ((Builtin.Int.intBits z:Nat):Int)) H):=by
 intro pins s σ H x vs v us Q I rx rv h;obtain⟨z,rfl,rfl,q⟩:=h;obtain⟨t,rfl⟩:=rx;cases rv;exact PySem.call_gives PySem.F.slot_int_bit_length (typeIs_int _ _ _) PySem.F.entry_int_bit_length (PySem.F.args_int_bit_length_1 _) (PySem.AutoIntG2.int_bit_length_int_0 z t) ⟨.int _,H,I.tok _,⟨_,rfl⟩,q⟩
def zD6{o:Expr}{te:TD}{apos cpos:Pos}(ho:PD A X o te)(hbase:attributeBase o "bit_length" X.env (eval o X.env)=eval o X.env:=by rfl)(hline:(apos.endLine == cpos.line)=true:=by rfl):PD A X (.Call (.Attribute o "bit_length" apos) [] [] cpos) (zV5 te):=by
 exists (zP7 PySem.F.plainAttrs_int PySem.F.slot_int_bit_length PySem.F.type_int_bit_length zF4 ho hbase hline).imp λsg H Q h=>by
   obtain⟨rho,n,P,ds',vs,I,ht,hQ⟩:=h;refine⟨rho,n,_,ds',vs,I,ht,λv H' n' d J k=>?_⟩;obtain⟨x,rfl,k⟩:=k;obtain⟨os,J⟩:=J;obtain⟨J1,r⟩:=J.pop;have e:=r.toS rfl;subst e;exact⟨rfl,x,rfl,rfl,hQ _ _ _ _ ⟨os,J1.push (Rep.ofS rfl)⟩ k⟩
end
end L2
namespace L2
mutual
theorem jP:∀d:D,plD d=true->Xs d=true
 |.non,_=>rfl
 |.bl _,_=>rfl
 |.int _,_=>rfl
 |.rf _,_=>rfl
 |.tup ds,h=>Yq ds h
 |.lst ds,h=>Yq ds h
 |.str _,h=>by simp[plD] at h
 |.ty _,h=>by simp[plD] at h
 |.fz _,h=>by simp[plD] at h
 |.st,h=>by simp[plD] at h
 |.own _,h=>by simp[plD] at h
 |.dic,h=>by simp[plD] at h
 |.dct _ _,h=>by simp[plD] at h
 |.exc _,h=>by simp[plD] at h
theorem Yq:∀ds:List D,jO ds=true->Zl ds=true
 |[],_=>rfl
 |d::ds,h=>by
  have h':plD d=true/\jO ds=true:=by simpa [jO] using h
  simp[Zl,jP d h'.1,Yq ds h'.2]
end
theorem yQ:∀{ds:List D},jO ds=true↔∀d∈ds,plD d=true
 |[]=>by simp[jO]
 |d::ds=>by simp[jO,yQ (ds:=ds)]
section
variable {A:AC}{os:List (Nat × Addr)}{n:Nat}{rho:Rho}{sg:St}{H:Hp}{ds:List D}{vs:List V}{a:Addr}{c:Cell}{o:HO}
def AmO.cell(I:AmO A os n rho sg H ds vs)(h:xb n a=some c):A.G≠some a/\Zof A os a/\CellR A.K (Zof A os) H a c:=by
 obtain⟨h1,h2,h3⟩:=I.st.2 a c h;refine⟨h2,?_,h3⟩
 rcases h1 with z |⟨p,hp,e,_⟩
 ·exact .inl z.1
 ·exact .inr ⟨p,hp,e⟩
def Wok(A:AC)(os:List (Nat × Addr))(n:Nat)(H:Hp)(a:Addr):Prop:=A.G≠some a/\((Zof A os a/\xb n a≠none)\/H a=none)
def AmO.wok(I:AmO A os n rho sg H ds vs)(h:xb n a=some c):Wok A os n H a:=⟨(I.cell h).1,.inl ⟨(I.cell h).2.1,by rw[h];simp⟩⟩
def AmO.wokNew(I:AmO A os n rho sg H ds vs)(h:H a=none):Wok A os n H a:=by
 refine⟨λe=>?_,.inr h⟩;obtain⟨x,y,z,w,_⟩:=I.st.1 a e;rw[w] at h;cases h
def AmO.noCell(I:AmO A os n rho sg H ds vs)(h:H a=none):xb n a=none:=by
 cases q:xb n a with
 |none=>rfl
 |some c=>exact absurd h (I.cell q).2.2.ne
def Wok.z(w:Wok A os n H a)(hp:plC c=true)(I:AmO A os n rho sg H ds vs):∀b,H b≠none->jz (Zof A os) (vA n a c) b->Zof A os b:=λb hb z=>by
 rcases z with z |z
 ·exact z
 ·rw [vG hp] at z
  by_cases e:b=a
  ·rcases w.2 with y | y
   ·rw[e];exact y.1
   ·rw[e] at hb;exact absurd y hb
  ·rw [if_neg e] at z
   cases q:xb n b with
   |none=>exact absurd q z
   |some c=>exact(I.cell q).2.1
def Wok.f(w:Wok A os n H a):∀b u,¬ Zof A os b->H b=some u->upd H a o b=some u:=λb u nz e=>by
 refine(xS λz=>?_).trans e
 rcases w.2 with y |y
 ·exact nz (by rw[z];exact y.1)
 ·rw[z,y] at e;cases e
def Wok.rep(w:Wok A os n H a)(hp:plC c=true)(I:AmO A os n rho sg H ds vs){d:D}{v:V}(hs:plD d=true)(r:Rep A.K A.G (Zof A os) H d v):Rep A.K none (jz (Zof A os) (vA n a c)) (upd H a o) d v:=
 Rep.mono (w.z hp I) w.f _ _ (Rep.reG _ _ (jP _ hs) r)
def Wok.kv(w:Wok A os n H a)(hp:plC c=true)(I:AmO A os n rho sg H ds vs){l:List (Int × D)}{r:List (Key × V)}(h:KvR A.K (Zof A os) H l r):KvR A.K (jz (Zof A os) (vA n a c)) (upd H a o) l r:=h.mono (w.z hp I) w.f
def Wok.fs(w:Wok A os n H a)(hp:plC c=true)(I:AmO A os n rho sg H ds vs){l:List (Str × D)}{r:List (Str × V)}(h:FsR A.K (Zof A os) H l r):FsR A.K (jz (Zof A os) (vA n a c)) (upd H a o) l r:=h.mono (w.z hp I) w.f
def AmO.wrote(I:AmO A os n rho sg H ds vs)(w:Wok A os n H a)(hp:plC c=true)(hc:CellR A.K (jz (Zof A os) (vA n a c)) (upd H a o) a c) :
  ∃os',AmO A os' (vA n a c) rho sg (upd H a o) ds vs/\∀b,Zof A os' b->jz (Zof A os) (vA n a c) b:=by
 refine I.calledX (λb u g cn e=>?_) ⟨λb e=>?_,λb c' e=>?_⟩ ⟨λb h=>?_,λb h=>?_⟩
 ·refine (xS λz => ?_).trans e
  rcases w.2 with y |y
  ·exact y.2 (by rw[<- z];exact cn)
  ·rw[z,y] at e;cases e
 ·obtain ⟨zs, u, v, q, r⟩ := I.st.1 b e
  exact⟨zs,u,v,by rw[xS λz=>w.1 (by rw[<- z];exact e)];exact q,by rw[vQ hp];exact r⟩
 ·have ne : xb (vA n a c) b ≠ none := by rw [e]; simp
  rw[vG hp] at e
  by_cases q:b=a
  ·rw [if_pos q] at e;cases e
   exact⟨.inr ne,by rw[q];exact w.1,by rw[q];exact hc⟩
  ·rw [if_neg q] at e;obtain⟨h1,h2,h3⟩:=I.cell e
   exact⟨.inl h2,h1,h3.mono (w.z hp I) w.f λo' e'=>by rw[xS q];exact e'⟩
 ·rw [vG hp] at h
  by_cases q:b=a
  ·rcases w.2 with y | y
   ·exact .inl (by rw[q];exact y.2)
   ·exact .inr (by rw[q];exact y)
  ·rw[if_neg q] at h;exact .inl h
 ·rw [vG hp]
  by_cases q:b=a
  ·rw[if_pos q];simp
  ·rw[if_neg q];exact h
end
def vd{α:Type}(k:Int):List (Int × α)->Option α
 |[]=>none
 |p::l=>if p.1=k then some p.2 else vd k l
def vO{α:Type}(k:Int)(x:α)(l:List (Int × α)):List (Int × α):=if (vd k l).isSome=true then l.map λp=>if p.1=k then(p.1,x) else p else l++[(k,x)]
def vS{α:Type}(k:Int)(l:List (Int × α)):List (Int × α):=l.filter λp=>decide (p.1≠k)
def qe{α:Type}(f:Str):List (Str × α)->Option α
 |[]=>none
 |p::l=>if p.1=f then some p.2 else qe f l
def XT{α:Type}(f:Str)(x:α):List (Str × α)->List (Str × α)
 |[]=>[(f,x)]
 |p::l=>if p.1=f then(f,x)::l else p::XT f x l
section
variable {K:W.Frag}{G:Option Addr}{Z:Addr->Prop}{H:Hp}{d:D}{v:V}
def KS{a b:Int}(h:¬ a=b):¬ (Sum.inl a:Key)=Sum.inl b:=λe=>h (Sum.inl.inj e)
theorem KvR.get:∀{l:List (Int × D)}{r:List (Key × V)}{k:Int},KvR K Z H l r->(∀d,vd k l=some d->∃v,Xa r (.inl k)=some v/\Rep K none Z H d v)/\(vd k l=none->Xa r (.inl k)=none)
 |[],[],k,_=>⟨λd h=>by simp[vd] at h,λ_=>rfl⟩
 | p :: l, q :: r, k, h => by
  obtain⟨h1,h2,h3⟩:=h;obtain⟨i1,i2⟩:=KvR.get (k:=k) h3;unfold vd
  by_cases e:p.1=k
  ·rw [if_pos e, jH (by rw [h1, e])]
   exact⟨λd h=>by cases h;exact⟨_,rfl,h2⟩,λh=>by cases h⟩
  ·rw [if_neg e, jI (by rw [h1]; exact KS e)]
   exact⟨i1,i2⟩
theorem KvR.length:∀{l:List (Int × D)}{r:List (Key × V)},KvR K Z H l r->r.length=l.length
 |[],[],_=>rfl
 |_::_,_::_,h=>by rw[zt,zt,KvR.length h.2.2]
def KvR.has:∀{l:List (Int × D)}{r:List (Key × V)}{k:Int},KvR K Z H l r->(Xa r (.inl k)).isSome=(vd k l).isSome:=λ{l r k} h=>by
 obtain⟨i1,i2⟩:=h.get (k:=k)
 cases e:vd k l with
 |none=>rw[i2 e];rfl
 |some d=>obtain⟨v,hv,_⟩:=i1 d e;rw[hv];rfl
def ze8{a b:Int}:(Sum.inl a:Key)=Sum.inl b↔a=b:=⟨λe=>Sum.inl.inj e,λe=>by rw[e]⟩
theorem KvR.snoc(rv:Rep K none Z H d v){k:Int}:∀{l:List (Int × D)}{r:List (Key × V)},KvR K Z H l r->KvR K Z H (l++[(k,d)]) (r++[(.inl k,v)])
 |[],[],_=>⟨rfl,rv,trivial⟩
 |_::_,_::_,h=>⟨h.1,h.2.1,KvR.snoc rv h.2.2⟩
theorem KvR.repl(rv:Rep K none Z H d v){k:Int}:∀{l:List (Int × D)}{r:List (Key × V)},KvR K Z H l r->KvR K Z H (l.map λp=>if p.1=k then(p.1,d) else p) (r.map λkv=>if kv.1=(.inl k:Key) then(kv.1,v) else kv)
 |[],[],_=>trivial
 |p::l,q::r,h=>by
  rw[zu,zu]
  refine⟨?_,?_,KvR.repl rv h.2.2⟩<;>rw[h.1]<;>by_cases c:p.1=k
  ·rw[if_pos c,if_pos (ze8.mpr c)]
  ·rw[if_neg c,if_neg (KS c)];exact h.1
  ·rw[if_pos c,if_pos (ze8.mpr c)];exact rv
  ·rw[if_neg c,if_neg (KS c)];exact h.2.1
def KvR.put{l:List (Int × D)}{r:List (Key × V)}{k:Int}(h:KvR K Z H l r)(rv:Rep K none Z H d v):KvR K Z H (vO k d l) (Wx r (.inl k) v):=by
 unfold Wx vO;rw[XB,h.has]
 cases(vd k l).isSome with
 |true=>rw[if_pos rfl,if_pos rfl];exact h.repl rv
 |false=>rw[if_neg zT,if_neg zT];exact h.snoc rv
theorem KvR.drop{k:Int}:∀{l:List (Int × D)}{r:List (Key × V)},KvR K Z H l r->KvR K Z H (vS k l) (Zu r (.inl k))
 |[],[],_=>trivial
 | p :: l, q :: r, h => by
  by_cases c:p.1=k
  ·rw [show vS k (p :: l) = vS k l from yf (by simpa using c), zf9 (by rw [h.1, c])]
   exact KvR.drop h.2.2
  ·rw [show vS k (p :: l) = p :: vS k l from ye (by simpa using c), zg0 (by rw [h.1]; exact KS c)]
   exact⟨h.1,h.2.1,KvR.drop h.2.2⟩
theorem FsR.get:∀{l:List (Str × D)}{r:List (Str × V)}{f:Str},FsR K Z H l r->(∀d,qe f l=some d->∃v,r.lookup f=some v/\Rep K none Z H d v)/\(qe f l=none->r.lookup f=none)
 |[],[],f,_=>⟨λd h=>by simp[qe] at h,λ_=>rfl⟩
 | p :: l, q :: r, f, h => by
  obtain⟨h1,h2,h3⟩:=h;obtain⟨i1,i2⟩:=FsR.get (f:=f) h3;obtain⟨q1,q2⟩:=q;have h1:q1=p.1:=h1;subst h1;unfold qe
  by_cases e:p.1=f
  ·rw [if_pos e]
   exact⟨λd h=>by cases h;exact⟨q2,by rw[List.lookup,beq_iff_eq.mpr e.symm],h2⟩,λh=>by cases h⟩
  ·rw[if_neg e];have hb:(f == p.1)=false:=beq_eq_false_iff_ne.mpr λz=>e z.symm;rw[List.lookup,hb];exact⟨i1,i2⟩
theorem FsR.put:∀{l:List (Str × D)}{r:List (Str × V)}{f:Str},FsR K Z H l r->Rep K none Z H d v->FsR K Z H (XT f d l) (Xc f v r)
 |[],[],f,_,rv=>⟨rfl,rv,trivial⟩
 |p::l,q::r,f,h,rv=>by
  obtain⟨h1,h2,h3⟩:=h;obtain⟨q1,q2⟩:=q;have h1:q1=p.1:=h1;subst h1;unfold XT Xc
  by_cases e:p.1=f
  ·rw[if_pos e,if_pos e];exact⟨e,rv,h3⟩
  ·rw[if_neg e,if_neg e];exact⟨rfl,h2,FsR.put h3 rv⟩
theorem FsR.length:∀{l:List (Str × D)}{r:List (Str × V)},FsR K Z H l r->r.length=l.length
 |[],[],_=>rfl
 |_::_,_::_,h=>by rw[zt,zt,FsR.length h.2.2]
end
theorem zw1:∀{l:List (Addr × Cell)}{a:Addr}{c:Cell},l.lookup a=some c->(a,c)∈l
 |[],_,_,h=>by simp at h
 | p :: l, a, c, h => by
  obtain⟨b,e⟩:=p
  by_cases q:a=b
  ·subst q;simp at h;rw[h];exact zo
  ·refine zc _ (zw1 ?_)
   simpa [List.lookup,beq_eq_false_iff_ne.mpr q] using h
def vy{n:Nat}{a:Addr}{c:Cell}(h:xb n a=some c):plC c=true:=zg4 n (a,c) (zw1 h)
theorem KW{α:Type}{k:Int}:∀{l:List (Int × α)}{x:α},vd k l=some x->(k,x)∈l
 |[],_,h=>by simp[vd] at h
 |p::l,x,h=>by
  unfold vd at h
  by_cases c:p.1=k
  ·rw[if_pos c] at h;cases h;rw[<- c];exact zo
  ·rw[if_neg c] at h;exact zc _ (KW h)
theorem KY{α:Type}{f:Str}:∀{l:List (Str × α)}{x:α},qe f l=some x->(f,x)∈l
 |[],_,h=>by simp[qe] at h
 |p::l,x,h=>by
  unfold qe at h
  by_cases c:p.1=f
  ·rw[if_pos c] at h;cases h;rw[<- c];exact zo
  ·rw[if_neg c] at h;exact zc _ (KY h)
def za7{n:Nat}{a:Addr}{kv:List (Int × D)}{k:Int}{x:D}(h:xb n a=some (.dic kv))(e:vd k kv=some x):plD x=true:=
 yQ.mp (show jO (kv.map (·.2))=true from vy h) x (zG (KW e))
def zC6{n:Nat}{a C:Addr}{fs:List (Str × D)}{f:Str}{x:D}(h:xb n a=some (.ins C fs))(e:qe f fs=some x):plD x=true:=
 yQ.mp (show jO (fs.map (·.2))=true from vy h) x (zG (KY e))
def Uv{kv:List (Int × D)}{k:Int}{d:D}(h:plC (.dic kv)=true)(hd:plD d=true):plC (.dic (vO k d kv))=true:=by
 refine yQ.mpr λx hx=>?_;have h':=yQ.mp (show jO (kv.map (·.2))=true from h);obtain⟨p,hp,rfl⟩:=zD.mp hx;unfold vO at hp
 split at hp
 ·obtain ⟨q, hq, rfl⟩ := zD.mp hp
  by_cases c:q.1=k
  ·rw[if_pos c];exact hd
  ·rw[if_neg c];exact h' _ (zG hq)
 ·rcases zI.mp hp with hp | hp
  ·exact h' _ (zG hp)
  ·rw[zq.mp hp];exact hd
def KC{kv:List (Int × D)}{k:Int}(h:plC (.dic kv)=true):plC (.dic (vS k kv))=true:=by
 refine yQ.mpr λx hx=>?_;obtain⟨p,hp,rfl⟩:=zD.mp hx;exact yQ.mp (show jO (kv.map (·.2))=true from h) _ (zG (xh.mp hp).1)
def za6{C:Addr}{f:Str}{d:D}(hd:plD d=true):∀{fs:List (Str × D)},plC (.ins C fs)=true->plC (.ins C (XT f d fs))=true:=λ{fs} h=>by
 refine yQ.mpr ?_;have h':=yQ.mp (show jO (fs.map (·.2))=true from h);clear h
 induction fs with
 |nil=>intro x hx;rw[zq.mp hx];exact hd
 | cons p fs ih =>
  intro x hx;obtain⟨q,hq,rfl⟩:=zD.mp hx;unfold XT at hq
  split at hq
  ·rcases zd.mp hq with rfl | hq
   ·exact hd
   ·exact h' _ (zG (zc _ hq))
  ·rcases zd.mp hq with rfl | hq
   ·exact h' _ (zG zo)
   ·exact ih (λx hx=>h' x (by rw[zu];exact zc _ hx)) _ (zG hq)
def XQ(d:D)(k:Addr->Prop):Prop:=∃a,d=.rf a/\k a
@[simp] theorem xk2{a k}:XQ (.rf a) k↔k a:=⟨fun⟨_,e,h⟩=>by cases e;exact h,λh=>⟨_,rfl,h⟩⟩
def Zp(d:D)(k:Int->Prop):Prop:=∃i,d=.int i/\k i
@[simp] theorem xd7{i k}:Zp (.int i) k↔k i:=⟨fun⟨_,e,h⟩=>by cases e;exact h,λh=>⟨_,rfl,h⟩⟩
def qK(C:Addr)(n:Nat)(a:Addr)(k:List (Str × D)->Prop):Prop:=∃fs,xb n a=some (.ins C fs)/\k fs
def qA(n:Nat)(a:Addr)(k:List (Int × D)->Prop):Prop:=∃kv,xb n a=some (.dic kv)/\k kv
def xn{C n a fs k}(h:xb n a=some (.ins C fs))(q:k fs):qK C n a k:=⟨fs,h,q⟩
def wo{n a kv k}(h:xb n a=some (.dic kv))(q:k kv):qA n a k:=⟨kv,h,q⟩
def Wb{α:Type}(o:Option α)(k:α->Prop):Prop:=∃x,o=some x/\k x
@[simp] theorem xd4{α:Type}{x:α}{k:α->Prop}:Wb (some x) k↔k x:=⟨fun⟨_,e,h⟩=>by cases e;exact h,λh=>⟨_,rfl,h⟩⟩
section
variable {A:AC}{X:Cx}{C:Addr}{a b e:Expr}{ta tb te:TD}{t1:TAD}{es:List Expr}{pos pos' p:Pos}{f:Str}
def Rep.rf_inv{K:W.Frag}{G:Option Addr}{Z:Addr->Prop}{H:Hp}{v:V}{a:Addr}(h:Rep K G Z H (.rf a) v):v=.ref a:=by unfold Rep at h;exact h
def Rep.rf_mk{K:W.Frag}{G:Option Addr}{Z:Addr->Prop}{H:Hp}{a:Addr}:Rep K G Z H (.rf a) (.ref a):=by unfold Rep;rfl
def zV1:TD:=λ_ n P=>∀a,xb n a=none->P (.rf a) (vA n a (.dic []))
def XY:PD A X (.Dict [] [] pos) zV1:=by
 exists zo2.imp λsg H Q h=>by
   obtain⟨rho,n,P,ds,vs,⟨os,I⟩,k,hQ⟩:=h;intro p hp;obtain⟨os',J,_⟩:=I.wrote (o:=.dK []) (I.wokNew hp) (c:=.dic []) rfl ⟨[],yd,trivial⟩;exact hQ _ _ _ _ ⟨os',J.push Rep.rf_mk⟩ (k p (I.noCell hp))
def zV4(C:Addr)(f:Str)(t:TD):TD:=λrho n P=>t rho n λd n'=>XQ d λa=>qK C n' a λfs=>Wb (qe f fs) λx=>P x n'
def yE(c:Cls X.K C)(na:NoAttr X.K C f)(ha:PD A X a ta)(hb:attributeBase a f X.env (eval a X.env)=eval a X.env:=by rfl):PD A X (.Attribute a f pos) (zV4 C f ta):=by
 exists (zP6 ha hb).imp λsg H Q h=>by
   obtain⟨rho,n,P,ds,vs,I,ht,hQ⟩:=h;refine⟨rho,n,_,ds,vs,I,ht,λv H' n' d ⟨os,J⟩ k=>?_⟩;obtain⟨q,rfl,fs,hc,x,hx,k⟩:=k;obtain⟨J1,r⟩:=J.pop;obtain⟨_,_,dx,gs,hp,hf⟩:=J1.cell hc;obtain⟨u,hu,ru⟩:=hf.get.1 x hx;exact⟨q,C,dx,gs,u,r.rf_inv,hp,c,na,hu,hQ u H' n' x ⟨os,J1.push (Rep.reG _ _ (jP _ (zC6 hc hx)) ru)⟩ k⟩
def zM3(C:Addr)(f:Str)(ta te:TD):TSD:=λF rho n=>te rho n λd n1=>ta rho n1 λx n2=>XQ x λa=>qK C n2 a λfs=>plD d=true/\fs.length<1000/\F.nx rho (vA n2 a (.ins C (XT f d fs)))
def kG(c:Cls X.K C)(na:NoAttr X.K C f)(ha:PD A X a ta)(he:PD A X e te)(hs:swapsWith e (some (.Attribute a f pos')) pos.line X.env=pure false:=by rfl):PSD A X (.Assign [.Attribute a f pos'] e pos) (zM3 C f ta te):=by
 exists (zO6 ha he hs).imp λE sg H h=>by
   obtain⟨rho,n,F,ds,vs,I,ht,ok⟩:=h;refine⟨rho,n,_,ds,vs,I,ht,λv H' n' d J k=>⟨rho,n',_,d::ds,v::vs,J,k,λv2 H2 n2 x ⟨os,J2⟩ k2=>?_⟩⟩;obtain⟨q,rfl,fs,hc,hd,hl,k2⟩:=k2;obtain⟨J3,r2⟩:=J2.pop;obtain⟨J4,r1⟩:=J3.pop;obtain⟨_,_,dx,gs,hp,hf⟩:=J4.cell hc;have w:=J4.wok hc;have pl:=za6 (C:=C) (f:=f) hd (vy hc)
   refine⟨q,C,dx,gs,r2.rf_inv,hp,c,na,by rw[hf.length];exact hl,?_⟩
   obtain⟨os',J5,_⟩:=J4.wrote (o:=.ins C dx (Xc f v gs)) w pl ⟨dx,_,yd,(w.fs pl J4 hf).put (w.rep pl J4 hd r1)⟩;exact ok.nx _ _ _ _ ⟨os',J5⟩ k2
def Kv(C:Addr)(f:Str)(ta te:TD):TSD:=λF rho n=>ta rho n λx n1=>XQ x λa=>qK C n1 a λfs=>Wb (qe f fs) λy=>Zp y λi=>te rho n1 λd n2=>Zp d λj=>qK C n2 a λfs2=>fs2.length<1000/\F.nx rho (vA n2 a (.ins C (XT f (.int (i+j)) fs2)))
def Uu(c:Cls X.K C)(na:NoAttr X.K C f)(ha:PD A X a ta)(he:PD A X e te):PSD A X (.AugAssign (.Attribute a f pos') .Add e pos) (Kv C f ta te):=by
 exists (za4 ha he zT8).imp λE sg H h=>by
   obtain⟨rho,n,F,ds,vs,I,ht,ok⟩:=h;refine⟨rho,n,_,ds,vs,I,ht,λv H' n' d ⟨os,J⟩ k=>?_⟩;obtain⟨q,rfl,fs,hc,_,hx,i,rfl,k⟩:=k;obtain⟨J1,r⟩:=J.pop;obtain⟨_,_,dx,gs,hp,hf⟩:=J1.cell hc;obtain⟨u,hu,ru⟩:=hf.get.1 _ hx;refine⟨q,C,dx,gs,u,r.rf_inv,hp,c,na,hu,rho,n',_,ds,vs,⟨os,J1⟩,k,λv2 H2 n2 d2 ⟨os2,J2⟩ k2=>?_⟩;obtain⟨j,rfl,fs2,hc2,hl,k2⟩:=k2;obtain⟨J3,r2⟩:=J2.pop;obtain⟨_,_,dx2,gs2,hp2,hf2⟩:=J3.cell hc2;have w:=J3.wok hc2;have pl:=za6 (C:=C) (f:=f) (d:=.int (i+j)) rfl (vy hc2)
   refine⟨i,j,ru.int_inv,r2.int_inv,dx2,gs2,hp2,by rw[hf2.length];exact hl,?_⟩
   obtain⟨os',J5,_⟩:=J3.wrote (o:=.ins C dx2 (Xc f (.int (i+j)) gs2)) w pl ⟨dx2,_,yd,(w.fs pl J3 hf2).put (Rep.ofS (d:=.int (i+j)) rfl)⟩;exact ok.nx _ _ _ _ ⟨os',J5⟩ k2
structure MthC(P:Program)(w:World)(K:W.Frag)(mg:Str->Option Value)(base:Heap)(C:Addr)(m:Str)(kk k:Nat)(t:TF):Prop where
 ex:∃(g:Addr) (fd:FuncData) (ps:List Str),FnOk P w K mg base CX0 kk g fd ps (spD K (k+1) t)/\Meth K C m g/\Cls K C/\Binds K fd ps []
def Jj(C:Addr)(m:Str)(k:Nat)(t:TF)(ta:TD)(t1:TAD):TD:=λrho n P=>ta rho n λd n1=>XQ d λa=>qK C n1 a λfs=>qe m fs=none/\t1 rho n1 λes n2=>es.length=k/\t (.rf a::es) n2 P
def zF9{m:Str}{k:Nat}{t:TF}(hK:X.K=A.K){sg:St}{H:Hp}{Q:VK}(h:tOf A (Jj C m k t ta t1) sg H Q):zz0 C m (spD X.K (k+1) t) [] E0 (tOf A ta) (zY5 A t1) sg H Q:=by
 obtain⟨rho,n,R,ds,vs,I,ht,hQ⟩:=h;refine⟨rho,n,_,ds,vs,I,ht,λv H' n' d ⟨os,J⟩ k=>?_⟩;obtain⟨q,rfl,fs,hc,hn,k⟩:=k;obtain⟨J1,r⟩:=J.pop;obtain⟨_,_,dx,gs,hp,hf⟩:=J1.cell hc;cases r.rf_inv;refine⟨q,dx,gs,rfl,hp,hf.get.2 hn,rho,n',_,ds,vs,⟨os,J1⟩,k,λws H2 n2 es2 ⟨os2,J2⟩ hl2 k2=>?_⟩;obtain⟨J3,rs2⟩:=J2.split hl2;rw[xG,hK]
 exact⟨A.G,Zof A os2,n2,R,.rf q::es2,by rw[zt,k2.1],.cons Rep.rf_mk rs2,J3.stZ,λa z=>.inl (J3.gz a z),J3.zO,k2.2,λv H3 n3 d fr st gw r q=>hQ v H3 n3 d (J3.called fr st gw r) q⟩
def ZR{m:Str}{kk k:Nat}{t:TF}{b:Expr}{apos:Pos}{pl:Sem Bool}(M:MthC X.prog X.w X.K X.mg X.base C m kk k t)(hr:Room kk X.A)(hK:X.K=A.K)(ha:PD A X a ta)(h1:PAD A X (b::es) t1)
  (hst:starEach (b::es) X.env=(false,eval b X.env)::starEach es X.env:=by rfl) (hpl:(backTo pos (starEach es X.env)).any (·.1)=false:=by rfl)
  (ht : eval (.Call (.Attribute a m apos) (b :: es) [] pos) X.env = (do
   let ov <- eval a X.env
   standAt apos.atName
   let (f,first) <- holding [ov] (getMethod ov m pl)
   callWith pos f first (backTo pos (starEach (b::es) X.env)) (backToKw pos (keywordEach [] X.env))):=by rfl) :
  PD A X (.Call (.Attribute a m apos) (b::es) [] pos) (Jj C m k t ta t1):=by
 obtain⟨g,fd,ps,F,hm,c,hb⟩:=M.ex
 exists (za9 (pl:=pl) ha c hm F hr hb .nil JF h1 hst hpl ht).imp λsg H Q h=>zF9 hK h
def vK{m:Str}{kk:Nat}{t:TF}{apos:Pos}{pl:Sem Bool}(M:MthC X.prog X.w X.K X.mg X.base C m kk 0 t)(hr:Room kk X.A)(hK:X.K=A.K)(ha:PD A X a ta)
  (ht : eval (.Call (.Attribute a m apos) [] [] pos) X.env = (do
   let ov <- eval a X.env
   standAt apos.atName
   let (f,first) <- holding [ov] (getMethod ov m pl)
   callWith pos f first (backTo pos (starEach [] X.env)) (backToKw pos (keywordEach [] X.env))):=by rfl) :
  PD A X (.Call (.Attribute a m apos) [] [] pos) (Jj C m 0 t ta zY0):=by
 obtain⟨g,fd,ps,F,hm,c,hb⟩:=M.ex
 exists (zo0 (pl:=pl) ha c hm F hr hb .nil JF ht).imp λsg H Q h=>by
   obtain⟨rho,n,R,ds,vs,I,ht,hQ⟩:=h;refine⟨rho,n,_,ds,vs,I,ht,λv H' n' d ⟨os,J⟩ k=>?_⟩;obtain⟨q,rfl,fs,hc,hn,k⟩:=k;obtain⟨J1,r⟩:=J.pop;obtain⟨_,_,dx,gs,hp,hf⟩:=J1.cell hc;cases r.rf_inv;refine⟨q,dx,gs,rfl,hp,hf.get.2 hn,?_⟩;have z:spD A.K (0+1) t (.ref q::([]++[])) H' Q E0:=⟨A.G,Zof A os,n',R,[.rf q],rfl,.cons Rep.rf_mk .nil,J1.stZ,λa z=>.inl (J1.gz a z),J1.zO,k.2,λv H3 n3 d fr st gw r q=>hQ v H3 n3 d (J1.called fr st gw r) q⟩;rw[hK];exact z
structure MkeC(P:Program)(w:World)(K:W.Frag)(mg:Str->Option Value)(base:Heap)(C:Addr)(x:Str)(kk k:Nat)(t:TF):Prop where
 ex:∃(f:Addr) (fd:FuncData) (ps:List Str),FnOk P w K mg base CX0 kk f fd ps (spD K (k+1) t)/\Mk K C f/\mg x=some (.ref C)/\Binds K fd ps []
def zx2(C:Addr)(k:Nat)(t:TF)(t1:TAD):TD:=λrho n P=>t1 rho n λes n1=>es.length=k/\∀a,xb n1 a=none->t (.rf a::es) (vA n1 a (.ins C [])) λd n2=>d=.non/\P (.rf a) n2
def KF{x:Str}{kk k:Nat}{t:TF}(M:MkeC X.prog X.w X.K X.mg X.base C x kk k t)(hr:Room (kk+1) X.A)(hK:X.K=A.K)(ha:PAD A X (e::es) t1)(hg:Gl X x:=by rfl)(hdb:(x == ("__debug__" : Str))=false:=by decide)
  (he:starEach (e::es) X.env=(false,eval e X.env)::starEach es X.env:=by rfl) (hpl:(backTo pos (starEach es X.env)).any (·.1)=false:=by rfl):PD A X (.Call (.Name x p) (e::es) [] pos) (zx2 C k t t1):=by
 obtain⟨f,fd,ps,F,M,hm,hb⟩:=M.ex
 exists (zD0 M F hr hg hm hb .nil JF ha hdb he hpl).imp λsg H Q h=>by
   obtain⟨rho,n,R,ds,vs,I,ht,hQ⟩:=h;refine⟨rho,n,_,ds,vs,I,ht,λws H1 n1 es1 ⟨os,J⟩ hl k=>?_⟩;intro x dx nx ndx nxd;rw[xG,hK];have J1:=J.grow (o:=.own x) ndx
   have nx1:upd H1 dx (.own x) x=none:=by rw[xS (Ne.symm nxd)];exact nx
   obtain⟨os',J2,_⟩:=J1.wrote (o:=.ins C dx []) (J1.wokNew nx1) (c:=.ins C []) rfl ⟨dx,[],yd,trivial⟩;obtain⟨J3,rs⟩:=J2.split hl
   refine⟨A.G,Zof A os',vA n1 x (.ins C []),_,.rf x::es1,by rw[zt,k.1],.cons Rep.rf_mk rs,J3.stZ,λa z=>.inl (J3.gz a z),J3.zO,k.2 x (J.noCell nx),λv H3 n3 d fr st gw r q=>?_⟩
   obtain⟨rfl,q⟩:=q;exact⟨r.toS rfl,hQ _ H3 n3 _ (J3.called fr st gw Rep.rf_mk) q⟩
def zI0(ta tb:TD):TD:=λrho n P=>ta rho n λd1 n1=>tb rho n1 λd2 n2=>XQ d1 λa=>Zp d2 λk=>qA n2 a λkv=>Wb (vd k kv) λx=>P x n2
def XZ(hu:X.A.units+1<cLine)(ha:PD A X a ta)(hb:PD A X b tb)(hs:zY2 b):PD A X (.Subscript a b pos) (zI0 ta tb):=by
 exists (zb0 hu ha hb hs).imp λsg H Q h=>by
   obtain⟨rho,n,P,ds,vs,I,ht,hQ⟩:=h;refine⟨rho,n,_,ds,vs,I,ht,λv H' n' d J k=>⟨rho,n',_,d::ds,v::vs,J,k,λv2 H2 n2 x ⟨os,J2⟩ k2=>?_⟩⟩;obtain⟨q,rfl,j,rfl,kv,hc,y,hy,k2⟩:=k2;obtain⟨J3,r2⟩:=J2.pop;obtain⟨J4,r1⟩:=J3.pop;obtain⟨_,_,kvs,hp,hf⟩:=J4.cell hc;obtain⟨u,hu,ru⟩:=hf.get.1 y hy;rw[r1.rf_inv,r2.int_inv]
   exact⟨q,u,rfl,by rw[<- hu];exact DGet.k (k:=.inl j) hp,hQ u H2 n2 y ⟨os,J4.push (Rep.reG _ _ (jP _ (za7 hc hy)) ru)⟩ k2⟩
def zV3(neg:Bool)(ta tb:TD):TD:=λrho n P=>ta rho n λd1 n1=>tb rho n1 λd2 n2=>Zp d1 λk=>XQ d2 λa=>qA n2 a λkv=>P (.bl ((vd k kv).isSome != neg)) n2
def ze9{neg:Bool}{sg:St}{H:Hp}{Q:VK}(h:tOf A (zV3 neg ta tb) sg H Q):tOp (xa8 neg) (tOf A ta) (tOf A tb) sg H Q:=by
 obtain⟨rho,n,P,ds,vs,I,ht,hQ⟩:=h;refine⟨rho,n,_,ds,vs,I,ht,λv H' n' d J k=>⟨rho,n',_,d::ds,v::vs,J,k,λv2 H2 n2 x ⟨os,J2⟩ k2=>?_⟩⟩;obtain⟨j,rfl,q,rfl,kv,hc,k2⟩:=k2;obtain⟨J3,r2⟩:=J2.pop;obtain⟨J4,r1⟩:=J3.pop;obtain⟨_,_,kvs,hp,hf⟩:=J4.cell hc;rw[r2.rf_inv,r1.int_inv];refine⟨q,Xa kvs (.inl j),rfl,DGet.k (k:=.inl j) hp,?_⟩;rw[hf.has];exact hQ _ H2 n2 _ ⟨os,J4.push (Rep.ofS (d:=.bl _) rfl)⟩ k2
def zQ0(hu:X.A.units+1<cLine)(ha:PD A X a ta)(hb:PD A X b tb)(hm:behindInMarks .In b=false):PD A X (.Compare a [.In] [b] pos) (zV3 false ta tb):=by exists (zb1 (zv7 hu) ha hb hm).imp λ_ _ _=>ze9
def Ur(hu:X.A.units+1<cLine)(ha:PD A X a ta)(hb:PD A X b tb)(hm:behindInMarks .In b=false):PTD A X (.Compare a [.In] [b] pos) (Qb (zV3 false ta tb)):=by exists (Us (zv7 hu) ha hb hm).imp λ_ _ _=>ZK λ_ _ _=>ze9
def Zh(hu:X.A.units+1<cLine)(ha:PD A X a ta)(hb:PD A X b tb)(hm:behindInMarks .NotIn b=false):PTD A X (.Compare a [.NotIn] [b] pos) (Qb (zV3 true ta tb)):=by exists (Us (zb8 hu) ha hb hm).imp λ_ _ _=>ZK λ_ _ _=>ze9
def zL9(ta tb te:TD):TSD:=λF rho n=>te rho n λd n1=>ta rho n1 λx n2=>tb rho n2 λy n3=>XQ x λa=>Zp y λk=>qA n3 a λkv=>plD d=true/\kv.length<sizeLine/\F.nx rho (vA n3 a (.dic (vO k d kv)))
def ZM(hu:X.A.units+1<cLine)(ha:PD A X a ta)(hb:PD A X b tb)(he:PD A X e te)(hs:swapsWith e (some (.Subscript a b pos')) pos.line X.env=pure false:=by rfl):PSD A X (.Assign [.Subscript a b pos'] e pos) (zL9 ta tb te):=by
 exists (zC0 hu ha hb he hs).imp λE sg H h=>by
   obtain⟨rho,n,F,ds,vs,I,ht,ok⟩:=h;refine⟨rho,n,_,ds,vs,I,ht,λv H' n' d J k=>⟨rho,n',_,d::ds,v::vs,J,k,λv2 H2 n2 x J2 k2=>⟨rho,n2,_,x::d::ds,v2::v::vs,J2,k2,λv3 H3 n3 y ⟨os,J3⟩ k3=>?_⟩⟩⟩;obtain⟨q,rfl,k,rfl,kv,hc,hd,hl,k3⟩:=k3;obtain⟨J4,r3⟩:=J3.pop;obtain⟨J5,r2⟩:=J4.pop;obtain⟨J6,r1⟩:=J5.pop;obtain⟨_,_,kvs,hp,hf⟩:=J6.cell hc;have w:=J6.wok hc;have pl:=Uv (k:=k) (vy hc) hd;rw[r2.rf_inv,r3.int_inv]
   refine⟨q,_,rfl,DPut.k (k:=.inl k) hp (by rw[hf.length];exact hl),?_⟩
   obtain⟨os',J7,_⟩:=J6.wrote (o:=.dK (Wx kvs (.inl k) v)) w pl ⟨_,yd,(w.kv pl J6 hf).put (w.rep pl J6 hd r1)⟩;exact ok.nx _ _ _ _ ⟨os',J7⟩ k3
def zV0(ta tb:TD):TD:=λrho n P=>ta rho n λd1 n1=>XQ d1 λa=>qA n1 a λ_=>tb rho n1 λd2 n2=>Zp d2 λk=>qA n2 a λkv=>Wb (vd k kv) λx=>P x (vA n2 a (.dic (vS k kv)))
def XX{apos:Pos}(ha:PD A X a ta)(hb:PD A X b tb)(m:M1 X a "pop" apos b pos):PD A X (.Call (.Attribute a "pop" apos) [b] [] pos) (zV0 ta tb):=by
 exists (zo1 ha hb m).imp λsg H Q h=>by
   obtain⟨rho,n,P,ds,vs,I,ht,hQ⟩:=h;refine⟨rho,n,_,ds,vs,I,ht,λv H' n' d ⟨os,J⟩ k=>?_⟩;obtain⟨q,rfl,kv0,hc,k⟩:=k;obtain⟨J1,r⟩:=J.pop;obtain⟨_,_,kvs,hp,_⟩:=J1.cell hc;refine⟨q,r.rf_inv,.inl ⟨kvs,.inl hp⟩,rho,n',_,ds,vs,⟨os,J1⟩,k,λv2 H2 n2 d2 ⟨os2,J2⟩ k2=>?_⟩;obtain⟨k,rfl,kv,hc2,x,hx,k2⟩:=k2;obtain⟨J3,r2⟩:=J2.pop;obtain⟨_,_,kvs2,hp2,hf2⟩:=J3.cell hc2;obtain⟨u,hu,ru⟩:=hf2.get.1 x hx;have w:=J3.wok hc2;have pl:=KC (k:=k) (vy hc2);have px:=za7 hc2 hx;have J4:=J3.push (Rep.reG (G':=A.G) _ _ (jP _ px) ru);obtain⟨os',J5,_⟩:=J4.wrote (o:=.dK (Zu kvs2 (.inl k))) (J4.wok hc2) pl ⟨_,yd,((J4.wok hc2).kv pl J4 hf2).drop⟩;exact⟨kvs2,.inl k,u,hp2,r2.int_inv,hu,hQ u _ _ x ⟨os',J5⟩ k2⟩
def zV2(t:TAD):TD:=λrho n P=>t rho n λes n1=>∃a,es=[.rf a]/\qA n1 a λkv=>P (.int (kv.length:Int)) n1
def zD4{np:Pos}(hm:X.mg "len" = none)(ha:PAD A X [a] t1)(hg:Gl X "len" := by rfl)
  (he:starEach [a] X.env=(false,eval a X.env)::starEach [] X.env:=by rfl) (hpl:(backTo pos (starEach [] X.env)).any (·.1)=false:=by rfl):PD A X (.Call (.Name "len" np) [a] [] pos) (zV2 t1):=by
 exists (jR zj0 hg hm rfl ha q9 q9 he hpl).imp λsg H Q h=>by
   obtain⟨rho,n,P,ds,vs,I,ht,hQ⟩:=h;refine⟨rho,n,_,ds,vs,I,ht,λws H' n' es' ⟨os,J⟩ hl k=>?_⟩;obtain⟨q,rfl,kv,hc,k⟩:=k;obtain⟨J1,rs⟩:=J.split hl;obtain⟨v,rfl,r⟩:=kK rs;obtain⟨_,_,kvs,hp,hf⟩:=J1.cell hc;cases r.rf_inv
   exact⟨q,kvs,rfl,hp,by rw[hf.length];exact hQ _ H' n' _ ⟨os,J1.push (Rep.ofS (d:=.int _) rfl)⟩ k⟩
end
@[simp] theorem xf1{rho n P}:zV1 rho n P=∀a,xb n a=none->P (.rf a) (vA n a (.dic [])):=rfl
@[simp] theorem xf4{C f t rho n P}:zV4 C f t rho n P=t rho n λd n'=>XQ d λa=>qK C n' a λfs=>Wb (qe f fs) λx=>P x n':=rfl
@[simp] theorem xc1{C f ta te F rho n}:zM3 C f ta te F rho n=te rho n λd n1=>ta rho n1 λx n2=>XQ x λa=>qK C n2 a λfs=>plD d=true/\fs.length<1000/\F.nx rho (vA n2 a (.ins C (XT f d fs))):=rfl
@[simp] theorem zK1{C f ta te F rho n}:Kv C f ta te F rho n=ta rho n λx n1=>XQ x λa=>qK C n1 a λfs=>Wb (qe f fs) λy=>Zp y λi=>te rho n1 λd n2=>Zp d λj=>qK C n2 a λfs2=>fs2.length<1000/\F.nx rho (vA n2 a (.ins C (XT f (.int (i+j)) fs2))):=rfl
@[simp] theorem zX3{C m k t ta t1 rho n P}:Jj C m k t ta t1 rho n P=ta rho n λd n1=>XQ d λa=>qK C n1 a λfs=>qe m fs=none/\t1 rho n1 λes n2=>es.length=k/\t (.rf a::es) n2 P:=rfl
@[simp] theorem zX4{C k t t1 rho n P}:zx2 C k t t1 rho n P=t1 rho n λes n1=>es.length=k/\∀a,xb n1 a=none->t (.rf a::es) (vA n1 a (.ins C [])) λd n2=>d=.non/\P (.rf a) n2:=rfl
@[simp] theorem xf5{ta tb rho n P}:zI0 ta tb rho n P=ta rho n λd1 n1=>tb rho n1 λd2 n2=>XQ d1 λa=>Zp d2 λk=>qA n2 a λkv=>Wb (vd k kv) λx=>P x n2:=rfl
@[simp] theorem xl1{neg ta tb rho n P}:zV3 neg ta tb rho n P=ta rho n λd1 n1=>tb rho n1 λd2 n2=>Zp d1 λk=>XQ d2 λa=>qA n2 a λkv=>P (.bl ((vd k kv).isSome != neg)) n2:=rfl
@[simp] theorem xb9{ta tb te F rho n}:zL9 ta tb te F rho n=te rho n λd n1=>ta rho n1 λx n2=>tb rho n2 λy n3=>XQ x λa=>Zp y λk=>qA n3 a λkv=>plD d=true/\kv.length<sizeLine/\F.nx rho (vA n3 a (.dic (vO k d kv))):=rfl
@[simp] theorem xf0{ta tb rho n P}:zV0 ta tb rho n P=ta rho n λd1 n1=>XQ d1 λa=>qA n1 a λ_=>tb rho n1 λd2 n2=>Zp d2 λk=>qA n2 a λkv=>Wb (vd k kv) λx=>P x (vA n2 a (.dic (vS k kv))):=rfl
@[simp] theorem xf2{t rho n P}:zV2 t rho n P=t rho n λes n1=>∃a,es=[.rf a]/\qA n1 a λkv=>P (.int (kv.length:Int)) n1:=rfl
structure OnlyC(n n':Nat)(l:List Addr):Prop where
 k:kOf n'=kOf n
 o:∀b,b ∉ l->xb n' b=xb n b
def OnlyC.rfl'{n:Nat}{l:List Addr}:OnlyC n n l:=⟨rfl,λ_ _=>rfl⟩
def OnlyC.trans{n n1 n2:Nat}{l r:List Addr}(h:OnlyC n n1 l)(g:OnlyC n1 n2 r):OnlyC n n2 (l++r):=⟨g.k.trans h.k,λb hb=>(g.o b λz=>hb (zr _ z)).trans (h.o b λz=>hb (xR _ z))⟩
def OnlyC.mono{n n1:Nat}{l r:List Addr}(h:OnlyC n n1 l)(s:∀a∈l,a∈r):OnlyC n n1 r:=⟨h.k,λb hb=>h.o b λz=>hb (s b z)⟩
def OnlyC.set{n:Nat}{a:Addr}{c:Cell}(h:plC c=true):OnlyC n (vA n a c) [a]:=⟨vQ h,λb hb=>by rw[vG h,if_neg (by simpa using hb)]⟩
def wQ{n:Nat}{a:Addr}{c:Cell}(h:plC c=true):xb (vA n a c) a=some c:=by rw[vG h,if_pos rfl]
def vF{n:Nat}{a b:Addr}{c:Cell}(h:plC c=true)(hb:b≠a):xb (vA n a c) b=xb n b:=by rw[vG h,if_neg hb]
section
variable {X:Cx}{e st:Expr}{te:TE}{lo:Option Expr}{pos p2:Pos}
end
section
variable {A:AC}{X:Cx}{a:Expr}{ta:TD}{pos p2 p3 p4:Pos}
end
section
variable {X:Cx}{e:Expr}{te:TE}{pos p2:Pos}
end
section
variable {A:AC}{X:Cx}{a:Expr}{ta:TD}{pos p2 p3 p4:Pos}
end
end L2
namespace L2
open PySem PySem.Spec PyProof.Rows PySem.SeqAt
abbrev NRow:=Int × List D
def NRow.d(x:NRow):D:=.tup (.int x.1::x.2)
def zS6:List D->(D->Prop)->Prop:=λes k=>∃rows:List NRow,es=[.lst (rows.map NRow.d)]/\rows.length<900/\(rows.map (·.1)).Nodup/\∀rows':List NRow,rows'.Perm rows->rows'.Pairwise (λx y=>x.1<y.1)->k (.lst (rows'.map NRow.d))
def Uz{X:Cx}{pins:List (Addr × Obj)}{σ:St}{H:Hp}{s:Shared}{G:Option Addr}{Z:Addr->Prop}(I:Inv X pins σ H s){x:NRow}{v:V}{u:Value}(r:Rep X.K G Z H x.d v)(q:RelV v u):∃t rest,Srt.Tup s.heap u (.int x.1 t) rest:=by
 unfold NRow.d at r;obtain⟨a,xs,rfl,sq,rs⟩:=r.tup_inv;have e:u=.ref a:=q;subst e;obtain⟨its,rv,pl,_⟩:=I.tuple sq.sq;obtain⟨z0,xs1,rfl,r0,_⟩:=rs.split;have e1:=r0.int_inv;subst e1
 cases rv with
 |cons h0 t0=>
  obtain⟨t,rfl⟩:=h0;exact⟨t,_,a,rfl,pl⟩
def Jl{A:AC}{X:Cx}(hK:X.K=A.K):vf A (QV X) zS6:=by
 rintro os n rho sg H ds vs es ws k Q I rs ⟨rows,rfl,hl,hnd,q⟩ hQ;obtain⟨v,rfl,r⟩:=kK rs;obtain⟨a,xs,rfl,sq,rr⟩:=r.lst_inv
 have len:xs.length=rows.length:=by rw[rr.length,zm]
 have dist:∀i j,i<rows.length->j<rows.length->i≠j->(rows.getD i (0,[])).1≠(rows.getD j (0,[])).1:=λi j hi hj hij e=>by
  have g:∀i (hi:i<rows.length),(rows.map (·.1))[i]'(by simpa using hi)=(rows.getD i (0,[])).1:=λi hi=>by
   rw[List.getElem_map,xf,zk hi];rfl
  have f:=xD.mp hnd
  rcases Nat.lt_or_gt_of_ne hij with l |l
  ·exact f i j (by simpa using hi) (by simpa using hj) l (by rw[g i hi,g j hj,e])
  ·exact f j i (by simpa using hj) (by simpa using hi) l (by rw[g i hi,g j hj,e])
 rw[<- hK] at rr
 refine⟨a,xs,true,λi j=>decide ((rows.getD i (0,[])).1<(rows.getD j (0,[])).1),rfl,by rw[hK];exact sq.sq,q5,λi j hi hj hij=>?_,λi j l _ _ _ h1 h2=>?_,λi hi=>?_,λi j hi hj hij=>?_,λls hp hU l hl'=>?_⟩
 ·have := dist i j q5 q5 hij
  dsimp only
  by_cases c:(rows.getD i (0,[])).1<(rows.getD j (0,[])).1
  ·rw[xv c,zW q5];rfl
  ·rw[zW c,xv q5];rfl
 ·have h1 := of_decide_eq_true h1;have h2:=of_decide_eq_true h2
  exact xv q5
 ·intro pins s σ u J ru
  obtain⟨t,rest,T⟩:=Uz J (rr.getD (enc:=NRow.d) (a0:=(0,[])) q5) ru
  exact⟨_,_,T,typeIs_int s _ t⟩
 ·intro pins s σ u v J ru rv B hB
  obtain⟨t,ps,T⟩:=Uz J (rr.getD (enc:=NRow.d) (a0:=(0,[])) (i:=i) q5) ru
  obtain⟨t',ps',T'⟩:=Uz J (rr.getD (enc:=NRow.d) (a0:=(0,[])) (i:=j) q5) rv
  refine⟨_,_,_,_,T,T',.here ?_ ?_⟩
  ·have := EqAt.int_int (A := B) (s := s) (rows.getD i (0, [])).1 t (rows.getD j (0, [])).1 t'
   have e2:((rows.getD i (0,[])).1 == (rows.getD j (0,[])).1)=false:=by simpa using dist i j q5 q5 hij
   rw[e2] at this;exact this
  ·intro prog w E Q h;exact Srt.qm _ h
 ·rw [len] at hp hU
  have hls:∀i∈ls.toList,i<rows.length:=λi hi=>by
   have:=(hp.mem_iff).mp (Array.mem_toList_iff.mp hi)
   rwa [Array.mem_range] at this
  have hsz:ls.size=rows.length:=by rw[hp.size_eq,wP]
  rw[hK] at rr;refine hQ _ _ _ ⟨os,I.newLst (Ym (a0:=((0,[]):NRow)) rr hls) hl'⟩ (q _ ?_ ?_)
  ·have p1 : ls.toList.Perm (List.range rows.length) := by
    have:=xN.mp hp
    rwa [yo] at this
   have p2:=p1.map λi=>rows.getD i (0,[])
   rwa [Vu] at p2
  ·rw [xQ, xD];intro i j hi hj hij
   have hi':i<ls.size:=by simpa using hi
   have hj':j<ls.size:=by simpa using hj
   have u:=hU i j hij q5
   have g:∀i (hi:i<ls.size),Srt.lab ls i=ls.toList[i]'(by simpa using hi):=λi hi=>by
    refine Srt.vE ?_
    rw[<- zB,zk (by simpa using hi)]
   rw[g i hi',g j hj'] at u;exact of_decide_eq_true u
section
variable {X:Cx}{A:AC}
def Ky(X:Cx):List V->Hp->VK->Prop:=λxs H Q=>∃(p:Addr) (ns:List Int),xs=[.ref p]/\SqT X.K H p (ns.map V.int)/\ns.length<2000/\∀ms:List Int,ms.Perm ns->ms.Pairwise (·<=·)->∀l,H l=none->Q (.ref l) (upd H l (.lst (ms.map V.int)))
def VO:qd X (.builtin "sorted") (Ky X):=by
 intro pins s σ H xs us Q I r h;obtain⟨p,ns,rfl,hq,hn,q⟩:=h
 cases r with
 |cons r rr=>
  cases rr;cases r;obtain⟨its,rv,pl,_⟩:=I.tuple hq
  have hsz:its.length=ns.length:=by have:=rv.length;simpa using this.symm
  refine WI (λ_ _ _ hz h=>Srt.UT pl h hz) (qU rv) q5 λout ms hi hp hs=>?_
  obtain⟨e,he⟩:=sortedAll_at s.heap its out;have hml:ms.length=ns.length:=hp.length_eq;have hf:H (s.heap.objs.size+1)=none:=I.hok.fresh (xY _);refine⟨.ref (s.heap.objs.size+1),_,I.laid (t':=s.toks) (o:=.lst (ms.map V.int)) (λb u e=>sortedAll_old e) (xY _) ?_,rfl,q ms hp hs _ hf⟩
  exact⟨by rw[zm];exact zF (show ms.length<=2000 by lia) q9,out.toList,e,kD hi,he⟩
def zr1:List D->(D->Prop)->Prop:=λes k=>∃ns:List Int,es=[.tup (ns.map D.int)]/\ns.length<2000/\∀ms:List Int,ms.Perm ns->ms.Pairwise (·<=·)->k (.lst (ms.map D.int))
def Qd(hK:X.K=A.K):vf A (Ky X) zr1:=by
 rintro os n rho sg H ds vs es ws k Q I rs ⟨ns,rfl,hn,q⟩ hQ;obtain⟨v,rfl,r⟩:=kK rs;obtain⟨a,xs,rfl,sq,rr⟩:=r.tup_inv;have e:=vD rr;subst e;rw[hK.symm] at sq;exact⟨a,ns,rfl,sq.sq,hn,λms h1 h2 l hl=>hQ _ _ _ ⟨os,I.newLst kn hl⟩ (q ms h1 h2)⟩
end
end L2
namespace L2
theorem Qu:∀{xs:List V}{us:List Value},us.length=xs.length->(∀(j:Nat) (u:Value),us[j]?=some u->∃x,xs[j]?=some x/\RelV x u)->Vals xs us
 |[],[],_,_=>.nil
 |x::xs,u::us,hl,h=>by
  obtain⟨y,e,r⟩:=h 0 u rfl;cases e
  exact .cons r (Qu (by simpa using hl) λj v e=>h (j+1) v e)
def zF5{P:Program}{w:World}{k:Key}{v:Value}(h:(yT P w).is k v=true):RelV (kV k) v:=by
 rcases yI (k:=k) (v:=v) h with ⟨i,t,rfl,rfl⟩ |⟨x,t,rfl,rfl⟩
 ·exact⟨t,rfl⟩
 ·exact⟨t,rfl⟩
theorem zd5{κ:Type}:∀{a:List (κ × V)}{b:List (κ × Value)},KV a b->b.map (·.1)=a.map (·.1)
 |[],_,h=>by cases h;rfl
 |p::a,_,h=>by
  cases h with
  |@cons _ q _ qs h1 h2=>rw[zu,zu,h1.1,zd5 h2]
section
variable {X:Cx}{A:AC}{pos p:Pos}
def UY(hh:X.A.handled=none):qd X (.type "list") (λxs H Q=>∃a kvs,xs=[.ref a]/\H a=some (.dK kvs)/\∀l,H l=none->Q (.ref l) (upd H l (.lst (kvs.map λp=>kV p.1)))):=by
 intro pins s σ H xs us Q I r h;obtain⟨a,kvs,rfl,e,q⟩:=h;obtain⟨u,rfl,rx⟩:=jG r;cases rx;obtain⟨z,hd,vs,rel,dd⟩:=zs8 I.hok e;obtain⟨o,es,ep,dd⟩:=dd;have hl:=rel.length;have ek:=zd5 rel
 refine W.kdl_call (W.kdl_dict (knd:=yT _ _) (kvs:=vs) (ep:=ep) hd) hh ⟨o,es,dd⟩ (by rw[<- hl];exact z) λh' tk acc c' hk hS hacc=>?_
 have hv:Vals (kvs.map λp=>kV p.1) acc.toList:=by
  refine Qu (by rw[zf,hacc.1,zm,<- hl]) λj u hj=>?_
  rw[zB] at hj;obtain⟨k,x,hx,hi⟩:=hacc.2 j u hj
  have e1:(vs.map (·.1))[j]?=some k:=by rw[zE,hx];rfl
  rw[ek,zE] at e1;obtain⟨y,hy,rfl⟩:=wM.mp e1
  exact⟨kV y.1,by rw[zE,hy];rfl,zF5 hi⟩
 refine⟨.ref s.heap.objs.size,_,I.laid (t':=tk) (o:=.lst (kvs.map λp=>kV p.1)) hk (zj _) ?_,rfl,q _ (I.hok.fresh (zj _))⟩
 exact⟨by rw[zm];exact z,acc.toList,c',hv,by rw[Array.toArray_toList];exact hS⟩
theorem KvR.keys{K:W.Frag}{Z:Addr->Prop}{H:Hp}:∀{l:List (Int × D)}{r:List (Key × V)},KvR K Z H l r->(r.map λp=>kV p.1)=(l.map λp=>V.int p.1)
 |[],[],_=>rfl
 |p::l,q::r,h=>by rw[zu,zu,KvR.keys h.2.2,h.1];rfl
def zx3(t:TAD):TD:=λrho n P=>t rho n λes n1=>∃a,es=[.rf a]/\qA n1 a λkv=>P (.lst (kv.map λp=>.int p.1)) n1
@[simp] theorem zX5{t rho n P}:zx3 t rho n P=t rho n λes n1=>∃a,es=[.rf a]/\qA n1 a λkv=>P (.lst (kv.map λp=>.int p.1)) n1:=rfl
def KG{l:Nat}{a:Expr}{t1:TAD}(hr:Room l X.A)(hm:X.mg "list" = none)(ha:PAD A X [a] t1)(hg:Gl X "list" := by rfl)
  (he:starEach [a] X.env=(false,eval a X.env)::starEach [] X.env:=by rfl) (hpl:(backTo pos (starEach [] X.env)).any (·.1)=false:=by rfl):PD A X (.Call (.Name "list" p) [a] [] pos) (zx3 t1):=by
 exists (Ve (UY hr.hd) hg hm zJ0 ha q9 q9 he hpl).imp λsg H Q h=>by
   obtain⟨rho,n,P,ds,vs,I,ht,hQ⟩:=h;refine⟨rho,n,_,ds,vs,I,ht,λws H' n' es' ⟨os,J⟩ hl k=>?_⟩;obtain⟨q,rfl,kv,hc,k⟩:=k;obtain⟨J1,rs⟩:=J.split hl;obtain⟨v,rfl,r⟩:=kK rs;obtain⟨_,_,kvs,hp,hf⟩:=J1.cell hc;cases r.rf_inv;refine⟨q,kvs,rfl,hp,λl hl'=>hQ _ _ n' _ ⟨os,?_⟩ k⟩;rw[hf.keys];refine J1.newLst ?_ hl'
   have e1:(kv.map λp=>D.int p.1)=(kv.map (·.1)).map D.int:=by rw[xi];rfl
   have e2:(kv.map λp=>V.int p.1)=(kv.map (·.1)).map V.int:=by rw[xi];rfl
   rw[e1,e2];exact kn
end
section
variable {X:Cx}{pins:List (Addr × Obj)}{σ:St}{H:Hp}{s:Shared}
def FpOk.reH{b:Addr}{H':Hp}(h:FpOk X pins H b)(hn:H' b=none):FpOk X pins H' b:=⟨hn,h.2⟩
def FpOk.more{b:Addr}{q:Addr × Obj}(h:FpOk X pins H b)(hq:q.1≠b):FpOk X (q::pins) H b:=
 ⟨h.1,h.2.1,h.2.2.1,h.2.2.2.1,h.2.2.2.2.1,λp hp=>by
  rcases zI.mp hp with hp |hp
  ·exact h.2.2.2.2.2 p (xR _ hp)
  ·rcases zd.mp hp with rfl | hp
   ·exact hq
   ·exact h.2.2.2.2.2 p (zr _ hp)⟩
end
abbrev Ww(elt tg1 it1:Expr)(ifs1:List Expr)(tg2 it2:Expr)(ifs2:List Expr)(scope:Scope)(pos:Pos):Expr:=.ListComp elt [⟨tg1,it1,ifs1,0⟩,⟨tg2,it2,ifs2,0⟩] scope pos
def Qy(elt tg1 it1:Expr)(ifs1:List Expr)(tg2 it2:Expr)(ifs2:List Expr)(scope:Scope)(pos:Pos)(it acc:Value)(env:Env) :
  compTurn (Ww elt tg1 it1 ifs1 tg2 it2 ifs2 scope pos) 0 it acc env=(do
   standAt it1.pos
   match <- pyNext it with
   |none=>pure (.done .next)
   | some v =>
    letOwnedTupleGo tg1 it v
    assign tg1 env v
    let ok <- ZF ifs1 env
    if ok then
     let x <- eval it2 env
     standAt it2.pos
     let x <- foldedSetIterable it2 env x
     let _ <- runOwn (.compStart (Ww elt tg1 it1 ifs1 tg2 it2 ifs2 scope pos) 1 (<- holding [x] (pyIter x)) acc env) env
    again (.compLoop (Ww elt tg1 it1 ifs1 tg2 it2 ifs2 scope pos) 0 it acc env)):=by rfl
def Qx(elt tg1 it1:Expr)(ifs1:List Expr)(tg2 it2:Expr)(ifs2:List Expr)(scope:Scope)(pos:Pos)(it acc:Value)(env:Env) :
  compTurn (Ww elt tg1 it1 ifs1 tg2 it2 ifs2 scope pos) 1 it acc env=(do
   standAt it2.pos
   match <- pyNext it with
   |none=>pure (.done .next)
   | some v =>
    letOwnedTupleGo tg2 it v
    assign tg2 env v
    let ok <- ZF ifs2 env
    if ok then
     (do let _ <- call (.builtin "list.append") [acc,<- eval elt env])
    again (.compLoop (Ww elt tg1 it1 ifs1 tg2 it2 ifs2 scope pos) 1 it acc env)):=by rfl
section
variable {prog:Program}{w:World}{A:Around}{R:Result->Shared->Prop}{s:Shared}{elt tg1 it1 tg2 it2:Expr}{ifs1 ifs2:List Expr}{scope:Scope}{pos:Pos}{it acc:Value}{env:Env}
def upF{α:Type}{t:Sem α}{Q Q':α->Shared->Prop}{E:Value->Shared->Prop}{s:Shared}(h:wpAny (model prog w) A t Q (λ_ _=>False) s)(f:∀a s,Q a s->Q' a s):wpAny (model prog w) A t Q' E s:=xT h f λ_ _ z=>False.elim z
def Qh(J:Nat->Shared->Prop)(hs:∀x,foldedSetIterable it2 env x=pure x)
  (turn : ∀ n s, J n s -> wpAny (model prog w) A (pyNext it) (λr s1 => match r with
   |none=>R (.ok .next) s1
   | some v => wpAny (model prog w) A (letOwnedTupleGo tg1 it v) (λ_ s2 => wpAny (model prog w) A (assign tg1 env v) (λ_ s3 => wpAny (model prog w) A (ZF ifs1 env) (λok s4 =>
     if ok=true then wpAny (model prog w) A (eval it2 env) (λx s5=>wpAny (model prog w) A (pyIter x) (λitv s6=>codeAny (model prog w) A (.compStart (Ww elt tg1 it1 ifs1 tg2 it2 ifs2 scope pos) 1 itv acc env) (λr s7=>(∃f,r=.ok f)/\∃m,m<n/\J m s7) s6) (λ_ _=>False) s5) (λ_ _=>False) s4
     else ∃m,m<n/\J m s4) (λ_ _=>False) s3) (λ_ _=>False) s2) (λ_ _=>False) s1) (λ_ _=>False) s)
  (n:Nat) (h:J n s):codeAny (model prog w) A (.compLoop (Ww elt tg1 it1 ifs1 tg2 it2 ifs2 scope pos) 0 it acc env) R s:=by
 refine codeAny_loop rfl J (λn s hJ=>?_) n h
 show wpAny _ A ((compTurn (Ww elt tg1 it1 ifs1 tg2 it2 ifs2 scope pos) 0 it acc env).onRaise (λx=>do noteFrame x env;theTreesLotGoes x)) _ _ s
 refine wpAny_noted ?_;rw[Qy];refine zb (wl (zb (upF (turn n s hJ) λr s1 h1=>?_)))
 cases r with
 |none=>exact zg h1
 | some v =>
  refine zb (upF h1 λ_ s2 h2=>?_);refine zb (upF h2 λ_ s3 h3=>?_);refine zb (upF h3 λok s4 h4=>?_)
  cases ok with
  |false=>exact zg ⟨rfl,h4⟩
  |true=>
   refine zb (upF h4 λx s5 h5=>?_);refine zb (wl (zb (wpAny_of_eq (hs x) ?_)));refine zb (wm (upF h5 λitv s6 h6=>?_));refine zb (wpAny_runOwn (codeAny_mono (show codeAny (model prog w) (A.mark none) _ _ _ from h6) λr s7 h7=>?_));obtain⟨⟨f,rfl⟩,h7⟩:=h7;exact zg ⟨rfl,h7⟩
def Qg(J:Nat->Shared->Prop)
  (turn : ∀ n s, J n s -> wpAny (model prog w) A (pyNext it) (λr s1 => match r with
   |none=>R (.ok .next) s1
   | some v => wpAny (model prog w) A (letOwnedTupleGo tg2 it v) (λ_ s2 => wpAny (model prog w) A (assign tg2 env v) (λ_ s3 => wpAny (model prog w) A (ZF ifs2 env) (λok s4 =>
     if ok=true then wpAny (model prog w) A (eval elt env) (λx s5=>wpAny (model prog w) A (call (.builtin "list.append") [acc,x]) (λ_ s6=>∃m,m<n/\J m s6) (λ_ _=>False) s5) (λ_ _=>False) s4
     else ∃m,m<n/\J m s4) (λ_ _=>False) s3) (λ_ _=>False) s2) (λ_ _=>False) s1) (λ_ _=>False) s)
  (n:Nat) (h:J n s):codeAny (model prog w) A (.compLoop (Ww elt tg1 it1 ifs1 tg2 it2 ifs2 scope pos) 1 it acc env) R s:=by
 refine codeAny_loop rfl J (λn s hJ=>?_) n h
 show wpAny _ A ((compTurn (Ww elt tg1 it1 ifs1 tg2 it2 ifs2 scope pos) 1 it acc env).onRaise (λx=>do noteFrame x env;theTreesLotGoes x)) _ _ s
 refine wpAny_noted ?_;rw[Qx];refine zb (wl (zb (upF (turn n s hJ) λr s1 h1=>?_)))
 cases r with
 |none=>exact zg h1
 |some v=>
  refine zb (upF h1 λ_ s2 h2=>?_);refine zb (upF h2 λ_ s3 h3=>?_);refine zb (upF h3 λok s4 h4=>?_)
  cases ok with
  |false=>exact zg ⟨rfl,h4⟩
  |true=>exact zb (zb (upF h4 λx s5 h5=>zb (upF h5 λ_ s6 h6=>zg (zg ⟨rfl,h6⟩))))
def WG{d:Nat}(hd:d=0\/d=1)
  (h0:codeAny (model prog w) A (.compLoop (Ww elt tg1 it1 ifs1 tg2 it2 ifs2 scope pos) d it acc env) R s)
  (h:wpAny (model prog w) A (pyIter it) (λit' s'=>codeAny (model prog w) A (.compLoop (Ww elt tg1 it1 ifs1 tg2 it2 ifs2 scope pos) d it' acc env) R s') (λ_ _=>False) s) :
  codeAny (model prog w) A (.compStart (Ww elt tg1 it1 ifs1 tg2 it2 ifs2 scope pos) d it acc env) R s:=by
 refine codeAny_of_tree ?_
 show wpAny _ _ ((compStart (Ww elt tg1 it1 ifs1 tg2 it2 ifs2 scope pos) d it acc env).onRaise (λx=>do noteFrame x env;standAt theWindowsPlace)) _ _ s
 refine wpAny_notedAt ?_;unfold compStart
 rcases hd with rfl |rfl
 ·show wpAny _ _ (ask >>= _) _ _ s;refine zb (wpAny_askSetting (wpAny_ite ?_))
  split
  ·first
    |exact zb (zg (zg ⟨rfl,h0⟩))
    |exact zg ⟨rfl,h0⟩
  ·refine zb (yi ?_);show wpAny _ _ (standAt it1.pos >>= _) _ _ s;exact zb (wl (zb (upF h λit' s' h'=>zg ⟨rfl,h'⟩)))
 ·show wpAny _ _ (ask >>= _) _ _ s;refine zb (wpAny_askSetting (wpAny_ite ?_))
  split
  ·first
    |exact zb (zg (zg ⟨rfl,h0⟩))
    |exact zg ⟨rfl,h0⟩
  ·refine zb (yi ?_);show wpAny _ _ (standAt it2.pos >>= _) _ _ s;exact zb (wl (zb (upF h λit' s' h'=>zg ⟨rfl,h'⟩)))
end
section
variable {X':Cx}{P5:List (Addr × Obj)}{σ6:St}{H8:Hp}{s8:Shared}{elt tg1 it1 tg2 it2:Expr}{ifs1 ifs2:List Expr}{scope:Scope}{pos:Pos}{g2:TG}{tt2:TT}{te:TE}
def zk2(J2:It)(g2:TG)(tt2:TT)(te:TE)(Qs:List V->St->Hp->Prop)(W2:Nat->Nat->List V->St->Hp->Prop):Prop:=∀i n acc σ H,W2 i n acc σ H ->
 (J2.stop i H /\ Qs acc σ H) \/ (J2.go i H /\ acc.length < sizeLine /\ ∀ y H6, J2.yld i H y H6 -> g2 y σ H6 λσ3 H7 => tt2 σ3 H7 λc H8 =>
  if c=true then te σ3 H8 λv H9=>∃n',n'<n/\W2 (i+1) n' (acc++[v]) σ3 H9 else ∃n',n'<n/\W2 (i+1) n' acc σ3 H8)
section
variable {X':Cx}{P5:List (Addr × Obj)}{σ6:St}{H8:Hp}{s8:Shared}{elt tg1 it1 tg2 it2:Expr}{ifs1 ifs2:List Expr}{scope:Scope}{pos:Pos}{g2:TG}{tt2:TT}{te:TE}
def JW(xc:X'.calm=true)(xe:X'.xe=λ_ _=>False)(gg:PG X' tg2 g2)(gt:PTs X' ifs2 tt2)(ge:PE X' elt te){D:Addr}{ob0:Obj}{acc:List V}(I:Inv X' ((D,ob0)::P5) σ6 H8 s8)(d:LstO acc ob0)(fD:∀{H:Hp},H D=none->FpOk X' P5 H D)
  {it:Addr}{fp:List Addr}{tn:Nat->Heap->Prop}{J2:It} (T:Turn X'.prog X'.w X'.K tg2 J2 fp it tn) (st:tn 0 s8.heap) (f:∀b∈fp,FpOk X' ((D,ob0)::P5) H8 b) {W2:Nat->Nat->List V->St->Hp->Prop} (w0:∃n,W2 0 n acc σ6 H8) {Qs:List V->St->Hp->Prop} (turns:zk2 J2 g2 tt2 te Qs W2) {post:Shared->Prop}
  (fin:∀{σ' acc2 ob' H' s'},Inv X' ((D,ob')::P5) σ' H' s'->LstO acc2 ob'->Qs acc2 σ' H'->post s') :
  codeAny (model X'.prog X'.w) X'.A (.compStart (Ww elt tg1 it1 ifs1 tg2 it2 ifs2 scope pos) 1 (.ref it) (.ref D) X'.env) (λr s'=>(∃f,r=.ok f)/\post s') s8:=by
 have main:codeAny (model X'.prog X'.w) X'.A (.compLoop (Ww elt tg1 it1 ifs1 tg2 it2 ifs2 scope pos) 1 (.ref it) (.ref D) X'.env) (λr s'=>(∃f,r=.ok f)/\post s') s8:=by
  obtain⟨n0,w0⟩:=w0;refine Qg (λn s'=>∃i acc σ' H' ob,Inv X' ((D,ob)::P5) σ' H' s'/\tn i s'.heap/\(∀b∈fp,H' b=none)/\LstO acc ob/\W2 i n acc σ' H') ?_ n0 ⟨0,acc,σ6,H8,ob0,I,st,λb hb=>(f b hb).1,d,w0⟩;rintro n s3 ⟨i,acc,σ3,H3,ob,I3,st3,fr3,d,w3⟩
  have ff:∀{H:Hp},(∀b∈fp,H b=none)->∀b∈fp,FpOk X' ((D,ob)::P5) H b:=λ{H} hn b hb=>by
   obtain⟨_,z2,z3,z4,z5,z6⟩:=f b hb;refine⟨hn b hb,z2,z3,z4,z5,λp hp=>?_⟩
   rcases zI.mp hp with hp |hp
   ·exact z6 p (xR _ hp)
   ·rcases zd.mp hp with rfl | hp
    ·exact z6 (D,ob0) (zr _ (.head _))
    ·exact z6 p (zr _ (.tail _ hp))
  rcases turns i n acc σ3 H3 w3 with ⟨stop,q⟩ |⟨go,hsz,step⟩
  ·refine thn (T.done X' rfl rfl rfl xc i _ s3 σ3 H3 (λ_ _=>False) I3 (ff fr3) st3 stop) λr s4 ⟨hr,I5⟩=>?_;subst hr;exact⟨⟨_,rfl⟩,fin I5 d q⟩
  ·refine thn (T.item X' rfl rfl rfl xc i _ s3 σ3 H3 (λ_ _ => False) I3 (ff fr3) st3 go) λr s4 ⟨u, hr, h4⟩ => ?_;subst hr;refine thn h4 λ_ s5 ⟨y,H5,I5,r5,y5,st5,fr5⟩=>?_;have a1:=gg _ s5 _ H5 y u _ (I5.pinned (ff fr5) (T.obj _ _ st5)) r5 (step y H5 y5);rw[xe] at a1;refine thn a1 λ_ s6 ⟨σ7,H6,I6,q6⟩=>?_;have a2:=gt _ s6 σ7 H6 _ I6 q6;rw[xe] at a2;refine thn a2 λb s7 ⟨H7,I7,q7⟩=>?_
   have back:∀{H:Hp}{s:Shared}{ob:Obj},Inv X' ((D,ob)::(P5++ZD fp s5.heap)) σ7 H s->(Inv X' ((D,ob)::P5) σ7 H s/\tn (i+1) s.heap/\∀b∈fp,H b=none):=λ{H s ob} I=>by
    refine⟨I.unpinned (pins:=(D,ob)::P5),T.keep _ _ _ st5 λb hb o e=>(I.pinAt (.tail _ (zr _ (kf hb e)))).1,λb hb=>?_⟩;obtain⟨o,e,d⟩:=T.obj _ _ st5 b hb;exact(I.pinAt (q:=(b,o)) (.tail _ (zr _ (kf hb e)))).2
   cases b with
   |false=>
    obtain⟨m',hm,w7⟩:=q7;obtain⟨p1,p2,p3⟩:=back I7;exact⟨m',hm,i+1,acc,σ7,H7,ob,p1,p2,p3,d,w7⟩
   | true =>
    rw[if_pos rfl] at q7 ⊢;have a3:=ge _ s7 σ7 H7 _ I7 q7;rw[xe] at a3;refine thn a3 λz s8 ⟨v,H8,I8,r8,m',hm,w8⟩=>KJ I8 (λ{H} hn=>?_) d hsz r8 λ{ob' s'} d' I'=>?_
    ·refine ⟨hn, (fD hn).2.1, (fD hn).2.2.1, (fD hn).2.2.2.1, (fD hn).2.2.2.2.1, λp hp => ?_⟩
     replace hp:p∈X'.pn++(P5++ZD fp s5.heap):=hp
     rw[<- wb] at hp
     rcases zI.mp hp with hp |hp
     ·exact(fD hn).2.2.2.2.2 p hp
     ·exact λz=>(f _ (YB hp).1).2.2.2.2.2 (D,ob0) (zr _ (.head _)) z.symm
    ·obtain⟨p1,p2,p3⟩:=back I';exact⟨m',hm,i+1,acc++[v],σ7,H8,ob',p1,p2,p3,d',w8⟩
 exact WG (.inr rfl) main (T.self X'.A 0 s8 (λit' s'=>codeAny (model X'.prog X'.w) X'.A (.compLoop (Ww elt tg1 it1 ifs1 tg2 it2 ifs2 scope pos) 1 it' (.ref D) X'.env) (λr s'=>(∃f,r=.ok f)/\post s') s') (λ_ _=>False) st main)
end
end
def zu0(wi:TI)(own:Nat)(g1:TG)(tt1:TT)(wi2:TI)(g2:TG)(tt2:TT)(te:TE):TE:=λσ H Q=>wi σ H λJ H1=>∃W:Nat->Nat->List V->Hp->Prop,(∃m,W 0 m [] H1)/\∀i m acc H,W i m acc H ->
 (J.stop i H/\acc.length<=sizeLine/\∀D,H D=none->Q (.ref D) (upd H D (.lst acc))) \/
 (J.go i H /\ ∀ x H', J.yld i H x H' -> g1 x (List.replicate own none ++ σ) H' λσ2 H2 => Ql (List.replicate own none ++ σ) σ2 /\ tt1 σ2 H2 λc H3 =>
  if c=true then wi2 σ2 H3 λJ2 H4=>∃W2:Nat->Nat->List V->St->Hp->Prop,(∃n,W2 0 n acc σ2 H4)/\zk2 J2 g2 tt2 te (λacc2 σ5 H5=>Ql (replicate own none++σ) σ5/\∃m',m'<m/\W (i+1) m' acc2 H5) W2
  else ∃m',m'<m/\W (i+1) m' acc H3)
section
variable {X:Cx}{scope:Scope}{own M:List Str}{pins:List (Addr × Obj)}{σ:St}{H2:Hp}{s2:Shared}{elt tg1 it1 tg2 it2:Expr}{ifs1 ifs2:List Expr}{pos:Pos}{g1 g2:TG}{tt1 tt2:TT}{te:TE}{wi2:TI}
section
variable {X:Cx}{scope:Scope}{own M:List Str}{elt tg1 it1 tg2 it2:Expr}{ifs1 ifs2:List Expr}{pos:Pos}{g1 g2:TG}{tt1 tt2:TT}{te:TE}{wi2:TI}
def zo4{wi:TI}(ok:CompOk X scope M)(hc:X.calm=true)(hi:PI X tg1 it1 wi)(hg:∀C s2 H2 fp,PG (wO X scope own M C s2 H2 fp) tg1 g1)(ht:∀C s2 H2 fp,PTs (wO X scope own M C s2 H2 fp) ifs1 tt1)(hi2:∀C s2 H2 fp,PI (wO X scope own M C s2 H2 fp) tg2 it2 wi2)
  (hg2:∀C s2 H2 fp,PG (wO X scope own M C s2 H2 fp) tg2 g2) (ht2:∀C s2 H2 fp,PTs (wO X scope own M C s2 H2 fp) ifs2 tt2) (he:∀C s2 H2 fp,PE (wO X scope own M C s2 H2 fp) elt te)
  (hs:∀x,foldedSetIterable it1 X.env x=pure x:=by intro _;rfl) (hs2:∀C s2 H2 fp x,foldedSetIterable it2 (wO X scope own M C s2 H2 fp).env x=pure x:=by intros;rfl) :
  PE X (Ww elt tg1 it1 ifs1 tg2 it2 ifs2 scope pos) (zu0 wi own.length g1 tt1 wi2 g2 tt2 te):=by
 intro pins s σ H Q I h;rw[eval_ListComp]
 refine wY (use:=none) rfl hs (ZY (ok.cells I)) ok.kind (λx hx hl=>by rw[ok.uniq x hx,hl]) ?_
 refine thn (hi pins s σ H _ I h) λv s1 h1=>thn h1 λitv s2 ⟨it,fp,tn,J,H2,e,I2,T,st2,f2,W,w0,turn⟩=>?_;subst e;refine wa (jt ?_);dsimp only;rw[wE]
 exact UX (ho:=λ_=>.lst) (GZ:=λ_=>True) LstO.nc ⟨[],0,rfl,.nil⟩ rfl ok hc (hg _ _ _ _) (ht _ _ _ _) (λ_ h=>h) I2 T st2 f2 w0 (λi m acc H w=>(turn i m acc H w).imp id fun⟨a,b⟩=>⟨a,trivial,b⟩) (λ_ _ _ _ _ _ _ hz d _=>KL hz d)
  (λR L turn n s h=>Qh (elt:=elt) (it1:=it1) (tg2:=tg2) (it2:=it2) (ifs2:=ifs2) (scope:=scope) (pos:=pos) L (hs2 _ _ _ _) turn n h) (λ_ _ h k=>WG (.inl rfl) h (k _))
  (λpf σ6 H7 s7 i n acc ob I7 d _ fD _ q7 post fin => thn (hi2 _ _ _ _ _ s7 σ6 H7 _ I7 q7) λv s8 h8 => thn h8 λitv s9 ⟨it2a, fp2, tn2, J2, H9, e9, I9, T2, st9, f9, W2, w9, turns9⟩ =>
   e9 ▸ JW (X':=cxC X scope own M s2 H2 fp) hc rfl (hg2 _ _ _ _) (ht2 _ _ _ _) (he _ _ _ _) I9 d fD T2 st9 f9 w9 turns9 λI' d' ⟨k1,m',hm,w'⟩=>fin hm w' d' k1 I')
  (λH' s' m IY q hm hCn c2 c1 c3 c4=>⟨m,hm,λh' hs'=>⟨.ref s2.heap.objs.size,H',IY.turned (t':=s'.toks) (λb o hb e=>hs'.extBut b o hb e) hCn c2 (.inr c1) c3 c4,rfl,q⟩⟩) rfl
end
end
def keepsD:Rho->Rho->Prop
 |[],[]=>True
 |none::r,_::r'=>keepsD r r'
 |some d::r,o::r'=>o=some d/\keepsD r r'
 |_,_=>False
@[simp] theorem zW9:keepsD [] []=True:=rfl
@[simp] theorem zW8{o:Option D}{r r':Rho}:keepsD (none::r) (o::r')=keepsD r r':=rfl
@[simp] theorem zW7{d:D}{o:Option D}{r r':Rho}:keepsD (some d::r) (o::r')=(o=some d/\keepsD r r'):=rfl
theorem keepsD.at:∀{r r':Rho},keepsD r r'->r.length=r'.length/\∀(i:Nat) (d:D),r[i]?=some (some d)->r'[i]?=some (some d)
  |[],[],_=>⟨rfl,λi d e=>by simp at e⟩
  | none :: r, o :: r', h => by
    have h':keepsD r r':=h;obtain⟨h1,h2⟩:=h'.at
    refine⟨by simp[h1],λi d e=>?_⟩
    cases i with
    |zero=>simp at e
    |succ i=>simpa using h2 i d (by simpa using e)
  | some c :: r, o :: r', h => by
    have h':o=some c/\keepsD r r':=h;obtain⟨h1,h2⟩:=h'.2.at
    refine⟨by simp[h1],λi d e=>?_⟩
    cases i with
    | zero => have e' : c = d := by simpa using e
              subst e';rw[h'.1];rfl
    |succ i=>simpa using h2 i d (by simpa using e)
  |[],_::_,h=>h.elim
  |none::_,[],h=>h.elim
  |some _::_,[],h=>h.elim
@[simp] theorem YL:∀r:Rho,keepsD r r
 |[]=>True.intro
 |none::r=>YL r
 |some d::r=>⟨rfl,YL r⟩
def AmO.weakR{A:AC}{os:List (Nat × Addr)}{n:Nat}{rho rho':Rho}{sg:St}{H:Hp}{ds:List D}{vs:List V}(I:AmO A os n rho' sg H ds vs)(k:keepsD rho rho'):AmO A os n rho sg H ds vs:=
 ⟨k.at.1.trans I.len,λi d e=>I.slot i d (k.at.2 i d e),I.pend,I.nd,I.fresh,(k.at.1 ▸ I.st),I.gz,I.fr,I.z0⟩
def xs9(g2:TGD)(tt2:TBD)(te:TD)(rho2:Rho)(acc:List D)(R:List D->Nat->Prop)(items2:List D)(n:Nat):Prop:=∃J2:Nat->List D->Nat->Prop,J2 0 acc n /\
 (∀i d acc n,items2[i]?=some d->J2 i acc n->acc.length<sizeLine/\g2 d rho2 λrho3=>keepsD rho2 rho3/\tt2 rho3 n λc n2=>if c=true then te rho3 n2 λe n3=>J2 (i+1) (acc++[e]) n3 else J2 (i+1) acc n2) /\
 ∀acc n,J2 items2.length acc n->R acc n
def zh9(own:Nat)(g1:TGD)(tt1:TBD)(it2:TID)(g2:TGD)(tt2:TBD)(te:TD)(rho:Rho)(P:D->Nat->Prop)(items:List D)(n1:Nat):Prop:=∃J:Nat->List D->Nat->Prop,J 0 [] n1 /\
 (∀i d acc n,items[i]?=some d->J i acc n->g1 d (replicate own none++rho) λrho2=>rho2.drop own=rho/\tt1 rho2 n λc n2=>if c=true then it2 rho2 n2 (xs9 g2 tt2 te rho2 acc (J (i+1))) else J (i+1) acc n2) /\
 ∀acc n,J items.length acc n->acc.length<=sizeLine/\P (.lst acc) n
def zh3(it:TID)(own:Nat)(g1:TGD)(tt1:TBD)(it2:TID)(g2:TGD)(tt2:TBD)(te:TD):TD:=λrho n P=>it rho n (zh9 own g1 tt1 it2 g2 tt2 te rho P)
@[simp] theorem zX7{it own g1 tt1 it2 g2 tt2 te rho n P}:zh3 it own g1 tt1 it2 g2 tt2 te rho n P=it rho n (zh9 own g1 tt1 it2 g2 tt2 te rho P):=rfl
section
variable {A:AC}{X:Cx}{elt tg1 it1 tg2 it2:Expr}{ifs1 ifs2:List Expr}{scope:Scope}{own M:List Str}{pos:Pos}{i1 i2:TID}{g1 g2:TGD}{tt1 tt2:TBD}{te:TD}
def QK{sg:St}{H:Hp}{Q:VK}{m:Nat}(h:tOf A (zh3 i1 m g1 tt1 i2 g2 tt2 te) sg H Q):zu0 (iOf A i1) m (gOf A m g1) (Ua A tt1) (iOf A i2) (gOf A m g2) (Ua A tt2) (tOf A te) sg H Q:=by
 obtain⟨rho,n,P,ds,vs,I,ht,hQ⟩:=h;refine⟨rho,n,_,ds,vs,I,ht,λJ H' n' items es ws I1 hl hJ k=>?_⟩;obtain⟨W,w0,turn,fin⟩:=k;refine⟨λi mm acc H=>mm=items.length-i/\i<=items.length/\∃accD n,acc.length=accD.length/\Am A n rho sg H (es++(accD++ds)) (ws++(acc++vs))/\W i accD n,⟨items.length,rfl,wT _,[],n',rfl,I1,w0⟩,?_⟩;rintro i mm acc H3 ⟨rfl,hi,accD,n3,hal,⟨os,I3⟩,w3⟩;obtain⟨j1,j2⟩:=hJ n3 rho sg H3 (accD++ds) (acc++vs) i ⟨os,I3⟩
 by_cases hlt:i<items.length
 ·refine .inr ⟨(j1 items[i] (by simp [hlt])).1, λx H4 y => ?_⟩
  obtain⟨os4,I4⟩:=(j1 items[i] (by simp[hlt])).2 x H4 y
  refine⟨replicate m none++rho,n3,_,items[i],es++(accD++ds),ws++(acc++vs),⟨_,I4.front m⟩,turn i items[i] accD n3 (by simp[hlt]) w3,λrho2 sg2 ⟨os5,I5⟩ e5 k5=>?_⟩
  obtain⟨k5,k6⟩:=k5
  have e6:sg2.drop m=sg:=by rw[e5,yb (by simp)]
  refine⟨kh e6,rho2,n3,_,es++(accD++ds),ws++(acc++vs),⟨os5,I5⟩,k6,λc H6 n6 ⟨os6,I6⟩ k7=>?_⟩
  cases c with
  |false=>
   obtain⟨os7,I7⟩:=I6.back k5 e6
   exact⟨items.length-(i+1),q5,rfl,hlt,accD,n6,hal,⟨os7,I7⟩,k7⟩
  | true =>
   rw[if_pos rfl] at k7 ⊢;refine⟨rho2,n6,_,es++(accD++ds),ws++(acc++vs),⟨os6,I6⟩,k7,λJ2 H7 n7 items2 es2 ws2 I7 hl2 hJ2 k8=>?_⟩;obtain⟨V,v0,vturn,vfin⟩:=k8;refine⟨λi2 nn acc2 σ5 H=>nn=items2.length-i2/\i2<=items2.length/\σ5.drop m=sg/\∃accD2 n,acc2.length=accD2.length/\Am A n rho2 σ5 H (es2++(es++(accD2++ds))) (ws2++(ws++(acc2++vs)))/\V i2 accD2 n,⟨items2.length,rfl,wT _,e6,accD,n7,hal,I7,v0⟩,?_⟩;rintro i2 nn acc2 σ5 H8 ⟨rfl,hi2,s5d,accD2,n8,hal2,⟨os8,I8⟩,w8⟩;obtain⟨q1,q2⟩:=hJ2 n8 rho2 σ5 H8 (es++(accD2++ds)) (ws++(acc2++vs)) i2 ⟨os8,I8⟩
   by_cases hlt2:i2<items2.length
   ·obtain ⟨t1, t2⟩ := vturn i2 items2[i2] accD2 n8 (by simp [hlt2]) w8
    refine .inr ⟨(q1 items2[i2] (by simp[hlt2])).1,by rw[hal2];exact t1,λy H9 yy=>?_⟩
    obtain⟨os9,I9⟩:=(q1 items2[i2] (by simp[hlt2])).2 y H9 yy
    refine⟨rho2,n8,_,items2[i2],es2++(es++(accD2++ds)),ws2++(ws++(acc2++vs)),⟨os9,I9⟩,t2,λrho3 sg3 ⟨os10,I10⟩ e10 k10=>?_⟩;obtain⟨k10,k11⟩:=k10;refine⟨rho3,n8,_,es2++(es++(accD2++ds)),ws2++(ws++(acc2++vs)),⟨os10,I10⟩,k11,λc H11 n11 ⟨os11,I11⟩ k12=>?_⟩
    cases c with
    |false=>exact⟨items2.length-(i2+1),q5,rfl,hlt2,e10.trans s5d,accD2,n11,hal2,⟨os11,I11.weakR k10⟩,k12⟩
    |true=>
     rw[if_pos rfl] at k12 ⊢;refine⟨rho3,n11,_,es2++(es++(accD2++ds)),ws2++(ws++(acc2++vs)),⟨os11,I11⟩,k12,λv H12 n12 d ⟨os12,I12⟩ k13=>?_⟩;obtain⟨I13,rv⟩:=I12.pop;obtain⟨I14,r1⟩:=I13.split hl2;obtain⟨I15,r2⟩:=I14.split hl;obtain⟨I16,r3⟩:=I15.split hal2
     exact⟨items2.length-(i2+1),q5,rfl,hlt2,e10.trans s5d,accD2++[d],n12,by simp[hal2],⟨os12,(((I16.join (r3.append (.cons rv .nil))).join r2).join r1).weakR k10⟩,k13⟩
   ·have e : i2 = items2.length := by lia
    subst e;obtain⟨I9,_⟩:=I8.split hl2;obtain⟨os10,I10⟩:=I9.back k5 s5d
    exact .inl ⟨q2 (zj _),kh s5d,items.length-(i+1),q5,rfl,hlt,accD2,n8,hal2,⟨os10,I10⟩,vfin accD2 n8 w8⟩
 ·have e : i = items.length := by lia
  subst e;obtain⟨f1,f2⟩:=fin accD n3 w3
  refine .inl ⟨j2 (zj _),by rw[hal];exact f1,λD hD=>?_⟩
  obtain⟨I4,r1⟩:=I3.split hl;obtain⟨I5,r2⟩:=I4.split hal;exact hQ _ _ n3 _ ⟨os,I5.newLst r2 hD⟩ f2
def zo9(ok:CompOk X scope M)(hc:X.calm=true)(hi:PID A X tg1 it1 i1)(hg:∀C s2 H2 fp,PGD A (wO X scope own M C s2 H2 fp) own.length tg1 g1)(ht:∀C s2 H2 fp,PTs (wO X scope own M C s2 H2 fp) ifs1 (Ua A tt1))
  (hi2:∀C s2 H2 fp,PID A (wO X scope own M C s2 H2 fp) tg2 it2 i2) (hg2:∀C s2 H2 fp,PGD A (wO X scope own M C s2 H2 fp) own.length tg2 g2) (ht2:∀C s2 H2 fp,PTs (wO X scope own M C s2 H2 fp) ifs2 (Ua A tt2))
  (he:∀C s2 H2 fp,PD A (wO X scope own M C s2 H2 fp) elt te) (hs:∀x,foldedSetIterable it1 X.env x=pure x:=by intro _;rfl) (hs2:∀C s2 H2 fp x,foldedSetIterable it2 (wO X scope own M C s2 H2 fp).env x=pure x:=by intros;rfl) :
  PD A X (.ListComp elt [⟨tg1,it1,ifs1,0⟩,⟨tg2,it2,ifs2,0⟩] scope pos) (zh3 i1 own.length g1 tt1 i2 g2 tt2 te):=by exists (zo4 ok hc hi hg ht hi2 hg2 ht2 he hs hs2).imp λ_ _ _=>QK
end
section
variable {X:Cx}{e st:Expr}{te ts:TE}{pos p2:Pos}
end
section
variable {A:AC}{X:Cx}{a e:Expr}{ta te:TD}{pos p2:Pos}
end
section
variable {K:W.Frag}{G:Option Addr}{Z:Addr->Prop}{H:Hp}{d:D}{v:V}
end
section
variable {A:AC}{os:List (Nat × Addr)}{n:Nat}{rho:Rho}{sg:St}{H:Hp}{ds:List D}{vs:List V}{a:Addr}{o:HO}{c:Cell}
end
section
variable {A:AC}{X:Cx}{a b e:Expr}{ta tb te:TD}{pos pos':Pos}
end
section
variable {X:Cx}{e1 e2 e3:Expr}{t1 t2 t3:TE}{pos:Pos}
end
section
variable {A:AC}{X:Cx}{e1 e2 e3:Expr}{t1 t2 t3:TD}{pos:Pos}
end
end L2
namespace L2
open PySem PySem.Spec PyProof.Rows PySem.Calls PyProof.V
theorem VF:∀{vs:List Value}{ns:List Int},vs.length=ns.length->(∀(j:Nat) (v:Value),vs[j]?=some v->∃n t,ns[j]?=some n/\v=.int n t)->IntsAre vs ns
 |[],[],_,_=>.nil
 |[],_::_,h,_=>by simp at h
 |_::_,[],h,_=>by simp at h
 |v::vs,n::ns,h,q=>by
  obtain⟨m,t,e1,e2⟩:=q 0 v rfl
  have e1':n=m:=by simpa using e1
  subst e1' e2
  exact .cons _ t (VF (by simpa using h) λj u e=>q (j+1) u (by simpa using e))
section
variable {prog:Program}{w:World}{A:Around}{E:Value->Shared->Prop}{s:Shared}
def zr6{T:String}{r d:Addr}{n:Nat}{P:Nat->Value->Prop}{OK:Heap->Prop}{R:List Value->Shared->Prop}(src:W.KdlSrc prog w T r d n P OK)(hA:A.handled=none)(h0:OK s.heap)(hz:n<=sizeLine)
  (fin:∀(g:Heap) (tk:Nat) (its:Array Value),(∀b o,s.heap.get? b=some o->g.get? b=some o)->s.heap.objs.size<g.objs.size->ItemsOf P its n->R its.toList { s with heap:=g,toks:=tk }) :
  wpAny (model prog w) A (collect (.ref r)) R E s:=by
 obtain⟨lr,ld⟩:=src.there _ h0;have grown:∀b o,s.heap.get? b=some o->(s.heap.push { cls:=.type "list",data:=.seq ([]:List Value).toArray }).get? b=some o:=λb o e=>zh _ e;have ok1:OK (s.heap.push { cls:=.type "list",data:=.seq ([]:List Value).toArray }):=src.keep _ _ h0 λb _ o e=>grown b o e
 let Post:Result->Shared->Prop:=λq t=>∃(g:Heap) (tk:Nat) (its:Array Value) (c:Nat),q=.ok (.ret (.ref s.heap.objs.size))/\t={ s with heap:=g,toks:=tk }/\(∀b o,s.heap.get? b=some o->g.get? b=some o) /\
  g.get? s.heap.objs.size=some { cls:=.type "list",dict:=none,data:=.seq its c,slots:=#[] }/\ItemsOf P its n
 have run:=W.kdl_extend (A:=A) (s:={ s with heap:=s.heap.push { cls:=.type "list",data:=.seq ([]:List Value).toArray } }) (R:=Post) src hA ok1 s.heap.objs.size (Nat.ne_of_gt lr) (Nat.ne_of_gt ld)
  (.ref s.heap.objs.size) 0 (zQ _ rfl) (λg tk its c kp at1 hi=>⟨g,tk,its,c,rfl,rfl,λb o e=>kp b o (zU (zw e)) (grown b o e),at1,hi⟩) hz
 have last:∀t,Post (.ok (.ret (.ref s.heap.objs.size))) t->wpAny (model prog w) A (do
   let o <- load s.heap.objs.size
   match o.data with
   |.seq xs _=>pure xs.toList
   |_=>unsupported "internal:collect") R E t:=by
  rintro t ⟨g,tk,its,c,_,rfl,kp,at1,hi⟩;exact zb (wpAny_load at1 (zg (fin g tk its kp (zw at1) hi)))
 unfold collect;refine zb (wpAny_runValue (codeAny_builtin entry_proto_collect' ?_));rw[Around.under_plainId PySem.F.plain_proto_collect _];refine zb (m:=newList []) (wa (zg ⟨plainId_quiet PySem.F.plain_list_iadd _,codeAny_builtin entry_list_iadd' ?_⟩));rw[Around.under_plainId PySem.F.plain_list_iadd _];refine xT run (λf t x=>?_) λe t x=>?_
 ·cases f with
  |done v=>
   have x':Post (.ok v) t:=x;obtain⟨_,_,_,_,ev,_⟩:=id x';cases ev;exact last t x'
  |again c1=>
   refine⟨x.1,codeAny_mono x.2 λq t2 y=>?_⟩;obtain⟨_,_,_,_,ev,_⟩:=id y;subst ev;exact last t2 y
 ·obtain⟨_,_,_,_,ev,_⟩:=x;cases ev
def WJ{d:Addr}{kvs:List (Key × Value)}{ns:List Int}{Q:Value->Shared->Prop}(lo:(d == sysModules)=false)(hD:s.heap.DictOf (yT prog w) d kvs)(hh:A.handled=none)(hk:kvs.map Prod.fst=ns.map Sum.inl)(h64:ns.length<64)
    (h:∀(h':Heap) (tk:Nat) (D:Addr) (out:Array Value) (ms:List Int) (e:Nat),(∀b o,s.heap.get? b=some o->h'.get? b=some o)->s.heap.objs.size<=D->h'.get? D=some (seqObj "list" out e)->IntsAre out.toList ms->ms.Perm ns->ms.Pairwise (·<=·)->Q (.ref D) { s with heap:=h',toks:=tk }) :
    wpAny (model prog w) A (call (.builtin "sorted") [.ref d]) Q E s:=by
  refine Calls.call_function_entry kind_sorted plain_sorted entry_sorted (args_sorted1 _) ?_;unfold Builtin.«sorted»;refine zb (m:=checkCount "sorted" 1 1 _) (zg ?_);obtain⟨ep,hat⟩:=hD.dictAt
  have hlen:kvs.length=ns.length:=by have:=congrArg List.length hk;simpa using this
  refine zb (zr6 (A:=A.in1) (W.kdl_dict (knd:=yT prog w) (kvs:=kvs) (ep:=ep) lo) hh hat (by rw[hlen];exact yL q5) λh' tk acc keeps grows hacc=>?_)
  have hI:IntsAre acc.toList ns:=by
    refine VF (by rw[zf,hacc.1,hlen]) λj v e=>?_
    obtain⟨k,x,e1,e2⟩:=hacc.2 j v (by rw[<- zB];exact e)
    have e3:(ns.map (Sum.inl:Int->Key))[j]?=some k:=by rw[<- hk,zE,e1];rfl
    rw[zE] at e3
    cases hn:ns[j]? with
    |none=>rw[hn] at e3;cases e3
    | some n =>
      rw[hn] at e3;have e4:(Sum.inl n:Key)=k:=zy e3;subst e4;have e2':UJ (Sum.inl n) v=true:=e2
      rcases yI e2' with ⟨i,t,e5,e6⟩ |⟨y,t,e5,e6⟩
      · cases e5
        exact⟨n,t,rfl,e6⟩
      · cases e5
  have hl:acc.toList.length=ns.length:=by rw[zf,hacc.1,hlen]
  refine zb (wpAny_newList ?_);have hoL:(h'.push (seqObj "list" acc.toList.toArray 0)).get? h'.objs.size=some (seqObj "list" acc.toList.toArray 0):=zQ _ rfl;have hz:s.heap.objs.size<=h'.objs.size:=xJ grows;show wpAny _ _ _ _ _ { s with heap:=h'.push (seqObj "list" acc.toList.toArray 0),toks:=tk }
  refine zb (wm (wpAny_call_entry slot_list_sort ⟨_,hoL,rfl⟩ entry_list_sort (list_sort_tree hoL hI q5 λout ms a1 a2 a3=>⟨_,rfl,?_⟩) (args_list_sort _)))
  obtain⟨e,he⟩:=sortedHeap_at (out:=out) hoL;refine zg ⟨_,rfl,h _ _ _ out ms e (λb o eb=>?_) hz he a1 a2 a3⟩;have lb:=zw (keeps b o eb)
  rw[sortedHeap_old (zU lb) (by rw[size_push'];exact wH lb)]
  exact zh _ (keeps b o eb)
end
section
variable {prog:Program}{w:World}{K:Type} [DecidableEq K] {knd:KeyKind prog w K}{A:Around}{E:Value->Shared->Prop}{s:Shared}
end
section
variable {X:Cx}{A:AC}{pos:Pos}{a b e:Expr}{ta tb:TD}{t1:TAD}
theorem zw3:∀{kvs:List (Key × V)}{vs:List (Key × Value)},KV kvs vs->vs.map Prod.fst=kvs.map Prod.fst
 |_,_,.nil=>rfl
 |_,_,.cons r t=>by rw[zu,zu,zw3 t,r.1]
theorem KvR.fst{K:W.Frag}{Z:Addr->Prop}{H:Hp}:∀{l:List (Int × D)}{r:List (Key × V)},KvR K Z H l r->r.map Prod.fst=(l.map (·.1)).map Sum.inl
 |[],[],_=>rfl
 |p::l,q::r,h=>by rw[zu,zu,zu,KvR.fst h.2.2,h.1]
def zN2(X:Cx):List V->Hp->VK->Prop:=λxs H Q=>∃(p:Addr) (kvs:List (Key × V)) (ns:List Int),xs=[.ref p]/\H p=some (.dK kvs)/\kvs.map Prod.fst=ns.map Sum.inl/\ns.length<64/\∀ms:List Int,ms.Perm ns->ms.Pairwise (·<=·)->∀l,H l=none->Q (.ref l) (upd H l (.lst (ms.map V.int)))
def VN(hc:X.calm=true):qd X (.builtin "sorted") (zN2 X):=by
 intro pins s σ H xs us Q I r h;obtain⟨p,kvs,ns,rfl,hx,hk,hn,q⟩:=h;obtain⟨u,rfl,ru⟩:=jG r;cases ru;obtain⟨hz,hS,vs,rv,m⟩:=zs8 I.hok hx
 refine WJ hS m (I.ok.hd hc) (by rw[zw3 rv];exact hk) hn λh' tk D out ms e keeps hD he hi hp hs=>?_
 have hml:ms.length=ns.length:=hp.length_eq;have hf:H D=none:=I.hok.fresh hD;refine⟨.ref D,_,I.laid (t':=tk) (o:=.lst (ms.map V.int)) keeps hD ?_,rfl,q ms hp hs _ hf⟩
 exact⟨by rw[zm];exact yL q5,out.toList,e,kD hi,he⟩
def zx1(t:TAD):TD:=λrho n P=>t rho n λes n1=>∃a,es=[.rf a]/\qA n1 a λkv=>kv.length<64/\∀ms:List Int,ms.Perm (kv.map (·.1))->ms.Pairwise (·<=·)->P (.lst (ms.map D.int)) n1
@[simp] theorem zX2{t rho n P}:zx1 t rho n P=t rho n λes n1=>∃a,es=[.rf a]/\qA n1 a λkv=>kv.length<64/\∀ms:List Int,ms.Perm (kv.map (·.1))->ms.Pairwise (·<=·)->P (.lst (ms.map D.int)) n1:=rfl
def zo5{np:Pos}(hc:X.calm=true)(hm:X.mg "sorted" = none)(ha:PAD A X [a] t1)(hg:Gl X "sorted" := by rfl)
  (he:starEach [a] X.env=(false,eval a X.env)::starEach [] X.env:=by rfl) (hpl:(backTo pos (starEach [] X.env)).any (·.1)=false:=by rfl):PD A X (.Call (.Name "sorted" np) [a] [] pos) (zx1 t1):=by
 exists (jR (VN hc) hg hm kZ ha q9 q9 he hpl).imp λsg H Q h=>by
   obtain⟨rho,n,P,ds,vs,I,ht,hQ⟩:=h;refine⟨rho,n,_,ds,vs,I,ht,λws H' n' es' ⟨os,J⟩ hl k=>?_⟩;obtain⟨q,rfl,kv,hc,hlen,k⟩:=k;obtain⟨J1,rs⟩:=J.split hl;obtain⟨v,rfl,r⟩:=kK rs;obtain⟨_,_,kvs,hp,hf⟩:=J1.cell hc;cases r.rf_inv
   exact⟨q,kvs,kv.map (·.1),rfl,hp,hf.fst,by rw[zm];exact hlen,λms h1 h2 l hl'=>hQ _ _ n' _ ⟨os,J1.newLst kn hl'⟩ (k ms h1 h2)⟩
end
end L2
namespace L2
structure LamScope(N:List Str)(p:Str)(scope:Scope)(cl:List (Str × Addr)):Prop where
 kind:scope.kind=.function
 co:scope.isCoroutine=false
 gen:scope.isGenerator=false
 nocell:∀x∈scope.names,x.2≠.cell
 head:N[0]?=some p
 par:scope.names.lookup p=some .local
 free:∀x,scope.names.lookup x=some .free->∃c,cl.lookup x=some c
 rest:∀i x,N[i+1]?=some x->scope.names.lookup x=some .free
section
variable {X:Cx}{pins:List (Addr × Obj)}{σ:St}{H:Hp}{s:Shared}{A:Around}{f c':Addr}{qual p:Str}{params:Arguments}{body:Expr}{scope:Scope}{cl:List (Str × Addr)}{pm ctv:Value}{N:List Str}{v:V}{u:Value}{cv:List V}
end
section
variable {X:Cx}{pins:List (Addr × Obj)}{σ:St}{H:Hp}{s:Shared}
end
def TabG.trip{φ:Addr->Prop}{l:List Value}(g:TabG φ l):TriplesOk l:=by
 induction g with
 |nil=>exact True.intro
 |cons _ _ ih=>exact ih
def TabG.among{φ:Addr->Prop}{pos:Pos}{l:List Value}(g:TabG φ l){v:Value}(e:codeAmong pos l=some v):∃c,v=.ref c/\φ c:=by
 induction g with
 |nil=>cases e
 |cons h _ ih=>
  unfold codeAmong at e
  split at e
  ·cases e;exact⟨_,rfl,h⟩
  ·exact ih e
def TabG.snoc{φ:Addr->Prop}{l:List Value}(g:TabG φ l){i j:Int}{t u:Tok}{c:Addr}(h:φ c):TabG φ (l++[.int i t,.int j u,.ref c]):=by
 induction g with
 |nil=>exact .cons h .nil
 |cons h' _ ih=>exact .cons h' ih
structure LamBase(base:Heap)(mg:Str->Option Value)(c P:Addr):Prop where
 hd:W.CodeHd base c P
 bm:∃bm ob,mg "__builtins__" = some (.ref bm)/\bm≠builtinsNs/\base.get? bm=some ob/\ob.cls=.type "module" /\ ob.dict=some builtinsNs/\ob.data=.plain
def OneMore(H H2:Hp):Prop:=H2=H\/∃c o,H c=none/\H2=upd H c o
def OneMore.keep{H H2:Hp}(h:OneMore H H2):∀b o,H b=some o->H2 b=some o:=λb o e=>by
 rcases h with rfl |⟨c,u,hn,rfl⟩
 ·exact e
 ·rw[xS (wJ e hn)];exact e
section
variable {X:Cx}{pins:List (Addr × Obj)}{σ:St}{H:Hp}{s:Shared}{c P:Addr}{q p:Str}{params:Arguments}{body:Expr}{scope:Scope}{clos:List (Str × Addr)}{pos lpos:Pos}
def zq7{Q:Value->Shared->Prop}{E:Value->Shared->Prop}(I:Inv X pins σ H s)(hc:X.env.code=.ref c)(L:LamBase X.base X.mg c P)(hP:H P=some (.cot q))(hq:X.env.qual ++ "<lambda>" = q)
  (hcl:closureFor scope X.env=pure clos) (hdef:defaultsOf params X.env=([],[]))
  (h:∀(f c':Addr) (oc:Obj) (ctv:Value) (H2:Hp) (s2:Shared),OneMore H H2->Inv X ((f,W.kla_obj "<lambda>" q params body scope clos ((X.mg "__name__").getD .none) c' ctv)::pins) σ H2 s2->H2 c'=some (.frz oc (.own 0))->zJ9 oc q->Q (.ref f) s2) :
  wpAny (model X.prog X.w) X.A (eval (.Lambda params body scope lpos) X.env) Q E s:=by
 refine W.kla_eval hdef ?_;rw[hq];obtain⟨ps,ho,g⟩:=I.hok P _ hP;obtain⟨bm,ob,b1,b2,b3,b4,b5,b6⟩:=L.bm
 have nb:∀b o,X.base.get? b=some o->b≠P:=λb o e z=>by
  have:=(I.bs b o e).2;rw[z,hP] at this;cases this
 have hgP:mainGlobals≠P:=by
  obtain⟨o,es,ep,e,_⟩:=I.mod.glob;exact nb _ _ e
 have hbG:bm≠mainGlobals:=λz=>by
  obtain⟨o,es,ep,e,hd,_⟩:=I.mod.glob;rw[z,e] at b3;cases b3;rw[hd] at b6;cases b6
 have hB:s.heap.BuiltinsAt X.mg P:=⟨bm,ob,b1,b2,hbG,nb _ _ b3,I.bk _ _ b3,b4,b5,b6⟩
 have nc:∀(c':Addr) (ctv:Value) (v:Option Value),(W.kla_obj "<lambda>" q params body scope clos ((X.mg "__name__").getD .none) c' ctv).data≠.cell v:=λ_ _ _ z=>by cases z
 cases hf:codeAmong lpos ps.toList with
 |some cv=>
  obtain⟨c',rfl,oc,e1,e2⟩:=g.among hf;refine W.kla_makeFunctionHit (mg:=X.mg) hcl I.ok.glob (I.mod.glob.keeps I.bk) hc (L.hd.keeps I.bk) ho g.trip hf hB λctv h' tk hk hsz=>?_;have I2:=I.kept (t':=tk) (h':=h'.push (W.kla_obj "<lambda>" q params body scope clos ((X.mg "__name__").getD .none) c' ctv)) λb o e=>zh _ (hk b o e);exact h _ c' oc ctv H _ (.inl rfl) (I2.pin1 (I.fpOk hsz (I.hok.fresh hsz)) (zQ _ rfl) (nc _ _)) e1 e2
 | none =>
  refine W.kla_makeFunction (mg:=X.mg) hcl I.ok.glob (I.mod.glob.keeps I.bk) hc (L.hd.keeps I.bk) ho g.trip hf hgP hB λc' ctv h' tk hx hge hlt hrec htb=>?_;obtain⟨c2,oc,vs,t,ec,hoc,hd,hv⟩:=hrec;cases ec;have hn:H c'=none:=I.hok.fresh hge;have hsz:s.heap.objs.size<=h'.objs.size:=zF hge (xJ hlt)
  have nP:∀b,H b=none->b≠P:=λb e z=>by rw[z,hP] at e;cases e
  have kp:∀b o,b≠P->s.heap.get? b=some o->(h'.push (W.kla_obj "<lambda>" q params body scope clos ((X.mg "__name__").getD .none) c' ctv)).get? b=some o:=λb o hb e=>zh _ (hx b o hb e);have cP:c'≠P:=nP c' hn
  have up:∀b u,H b=some u->upd H c' (.frz oc (.own 0)) b=some u:=λb u e=>by rw[xS (wJ e hn)];exact e
  have U:Un X.fs [] H (upd H c' (.frz oc (.own 0))) s.heap (h'.push (W.kla_obj "<lambda>" q params body scope clos ((X.mg "__name__").getD .none) c' ctv)):=by
   refine⟨λb o e n _ _=>kp b o (nP b n) e,λb o e n _ _=>⟨o.slots,kp b o (nP b n) e⟩,λb o e n _=>?_,λb o e _=>?_,λb xs e=>up b _ e,λb o u e=>up b _ e,λb ps e=>⟨#[],by rw[up b _ e];simp⟩⟩
   ·rw[xS (zU (zR (zw e) hge))];exact n
   ·by_cases hb : b = P
    ·exact⟨_,zh _ (hb ▸ htb)⟩
    ·exact⟨o,kp b o hb e⟩
  have hok:HOk X.prog X.w (upd H c' (.frz oc (.own 0))) (h'.push (W.kla_obj "<lambda>" q params body scope clos ((X.mg "__name__").getD .none) c' ctv)):=λb u e=>by
   by_cases hb:b=c'
   ·subst hb;rw[yd] at e;cases e;exact⟨zh _ hoc,oc,zh _ hoc⟩
   ·rw [xS hb] at e
    by_cases hbP:b=P
    ·subst hbP;rw[hP] at e;cases e;refine⟨_,zh _ htb,?_⟩;rw[zS];exact(g.imp λd ⟨oc,z,i⟩=>⟨oc,up _ _ z,i⟩).snoc ⟨oc,yd,vs,t,hd,hv⟩
    ·refine (I.hok b u e).stay (λd v hd z => kp d v ?_ z) (λd z => up d _ z) (λd xs z => up d _ z) λd o u z => up d _ z
     rcases hd with rfl |hd
     ·exact hbP
     ·intro z;rw[z,hP] at hd;cases hd
  have I2:=I.un (t':=tk) U hok
  have hfn:upd H c' (.frz oc (.own 0)) h'.objs.size=none:=by rw[xS (Nat.ne_of_gt hlt)];exact I.hok.fresh hsz
  exact h _ c' oc ctv _ _ (.inr ⟨c',_,hn,rfl⟩) (I2.pin1 (I.fpOk hsz hfn) (zQ _ rfl) (nc _ _)) yd ⟨vs,t,hd,hv⟩
end
abbrev TFX:=List D->Nat->(D->Nat->Prop)->(Nat->Prop)->Prop
def spX(K:W.Frag)(C:Addr)(k:Nat)(t:TFX):Sp:=λvs H Q E=>∃(G:Option Addr) (Z:Addr->Prop) (n:Nat) (P:D->Nat->Prop) (R:Nat->Prop) (ds:List D),ds.length=k/\Reps K G Z H ds vs/\StOk K Z Z G n H/\(∀a,G=some a->Z a)/\ZOk K G Z H/\t ds n P R /\
 (∀v H' n' d,(∀a o,G≠some a->xb n a=none->H a=some o->H' a=some o)->StOk K (jz Z n') (jz Z n') G n' H'->Grown n n' H->Rep K G (jz Z n') H' d v->P d n'->Q v H') /\
 ∀H' n',(∀a o,G≠some a->xb n a=none->H a=some o->H' a=some o)->StOk K (jz Z n') (jz Z n') G n' H'->Grown n n' H->R n'->E (.ref C) none H'
def XD(A:AC)(C:Addr)(R:Nat->Prop):XK:=λcls _ H'=>cls=.ref C/\∃(os:List (Nat × Addr)) (n':Nat) (rho:Rho) (sg:St) (ds:List D) (vs:List V),AmO A os n' rho sg H' ds vs/\R n'
structure MthX(P:Program)(w:World)(K:W.Frag)(mg:Str->Option Value)(base:Heap)(C:Addr)(m:Str)(kk k:Nat)(CE:Addr)(t:TFX):Prop where
 ex:∃(g:Addr) (fd:FuncData) (ps:List Str),FnOk P w K mg base (CX1 P w) kk g fd ps (spX K CE (k+1) t)/\Meth K C m g/\Cls K C/\Binds K fd ps []
section
variable {P:Program}{w:World}{K:W.Frag}{mg:Str->Option Value}{base:Heap}
def Fun.okX{x qual:Str}{st:Stmt}{f:Addr}{fd:FuncData}{N ps:List Str}{k:Nat}{C:Addr}{t:TFX}{tb:(Nat->Prop)->TSD}(F:Fun K x qual st f fd)(S:FnScope N ps (zV st))
  (body : ∀ (cdv : Value) (A0 : Around) (outer : List Env) (s : Shared) (H : Hp) (E : XK) (G : Option Addr) (Z : Addr -> Prop) (n : Nat) (R : Nat -> Prop), Room k (A0.deeper (envOfC qual (zV st) s.heap.objs.size f cdv)) ->
   (∀H',XD ⟨K,G,Z,ZW n H⟩ C R (.ref C) none H'->E (.ref C) none H') ->
   VZ ⟨K,G,Z,ZW n H⟩ (Wy (CX1 P w) P w K mg base N qual (zV st) f cdv A0 outer s H E) (yM st) (tb R))
  (spec:∀ds n Q R,ds.length=ps.length->t ds n Q R->tb R { nx:=λ_ n=>Q .non n,rt:=Q } (wx N ds) n):FnOk P w K mg base (CX1 P w) (k+1) f fd ps (spX K C ps.length t):=by
 exists (by
   obtain⟨oc,od,kV,doc,pm,an,cdv,ct,osl,rfl,lk,hcd⟩:=F.ex;refine zH2 lk hcd S (λvs H Q E h=>?_) (λA0 outer s H vs Q E hr h=>?_)
   ·obtain⟨G,Z,n,R,R',ds,hl,rs,_⟩:=h;rw[rs.length];exact hl
   ·obtain ⟨G, Z, n, R, R', ds, hl, rs, hst, gz, z0, ht, hQ, hE⟩ := h;refine⟨_,body cdv A0 outer s H E G Z n R' hr (λH' ⟨_,os,n',rho,sg,ds',vs',I,r⟩=>?_),wx N ds,n,_,[],[],⟨[],qa rs hst gz z0⟩,spec ds n R R' hl ht,?_⟩
    ·obtain⟨r1,r2,r3,_⟩:=I.ended hst z0;exact hE H' n' r1 r2 r3 r
    refine⟨λrho' n' sg' H' ⟨os,I⟩ q=>?_,λd n' v rho' sg' H' ⟨os,I⟩ q=>?_,λ_ _ _ _ _ q=>q.elim,λ_ _ _ _ _ q=>q.elim⟩
    ·obtain⟨r1,r2,r3,_⟩:=I.ended hst z0;exact hQ .non H' n' .non r1 r2 r3 (Rep.ofS rfl) q
    ·obtain ⟨r1, r2, r3, r4⟩ := I.ended hst z0
     exact hQ v H' n' d r1 r2 r3 (Rep.mono (λa _ z=>r4 a z) (λ_ _ _ e=>e) _ _ I.pop.2) q)
end
structure ClsX(K:W.Frag)(mg:Str->Option Value)(x:Str)(C:Addr):Prop where
 mg:mg x=some (.ref C)
 ec:ExcC K C
 ex:W.excIn K C Qt "ValueError.__new__" = true
def XOk(A:AC)(X:Cx)(C:Addr)(R:Nat->Prop):Prop:=∀(pins:List (Addr × Obj)) (σ:St) (H:Hp) (s:Shared) (h':Heap) (a:Addr) (vs:List Value),Inv X pins σ H s->s.heap.MadeExcOf h' a (.ref C) vs->XD A C R (.ref C) none H->X.xe (.ref a) { s with heap:=h' }
def xok{P:Program}{w:World}{K:W.Frag}{mg:Str->Option Value}{base:Heap}{N:List Str}{qual:Str}{scope:Scope}{f:Addr}{cd:Value}{A0:Around}{outer:List Env}{s:Shared}{H:Hp}{E:XK}{A:AC}{C:Addr}{R:Nat->Prop}
  (hE:∀H',XD A C R (.ref C) none H'->E (.ref C) none H'):XOk A (Wy (CX1 P w) P w K mg base N qual scope f cd A0 outer s H E) C R:=λpins σ H1 s1 h' a vs I m q=>zK8 I m (hE H1 q)
section
variable {A:AC}{X:Cx}{C:Addr}{R:Nat->Prop}
def zu4(R:Nat->Prop):TSD:=λ_ _ n=>R n
@[simp] theorem zW3{F rho n}:zu4 R F rho n=R n:=rfl
def WY{x m:Str}{j:Nat}{np cp cpos pos:Pos}(c:ClsX X.K X.mg x C)(hx:XOk A X C R)(hc:X.calm=true:=by rfl)(hg:Gl X x:=by rfl)(hdb:(x == ("__debug__" : Str))=false:=by decide) :
  PSD A X (.Raise (some (.Call (.Name x np) [.Constant (.str m) j cp] [] cpos)) none pos) (zu4 R):=by
 exists (zn6 (RX:=λH=>XD A C R (.ref C) none H) hc hg c.mg c.ex (ql zv3 Yx) hx hdb).imp λE sg H h=>by
   obtain⟨rho,n,F,ds,vs,⟨os,I⟩,ht,ok⟩:=h
   exact⟨(by decide:1<=sizeLine),rfl,os,n,rho,sg,ds,vs,I,ht⟩
def AmO.unset{os:List (Nat × Addr)}{n:Nat}{rho:Rho}{sg:St}{H:Hp}{ds:List D}{vs:List V}(I:AmO A os n rho sg H ds vs)(i:Nat):AmO A os n (rho.set i none) (sg.set i none) H ds vs:=by
 refine⟨by simp[I.len],λj c e=>?_,I.pend,I.nd,I.fresh,by rw[length_set];exact I.st,I.gz,I.fr,I.z0⟩
 by_cases hj:j=i
 ·subst hj;rw[List.getElem?_set] at e;simp at e
 ·rw [xI (Ne.symm hj)] at e;obtain⟨v,e1,e2⟩:=I.slot j c e
  exact⟨v,by rw[xI (Ne.symm hj)];exact e1,e2⟩
def AmO.newExc{os:List (Nat × Addr)}{n:Nat}{rho:Rho}{sg:St}{H:Hp}{ds:List D}{vs:List V}{p:Addr}(I:AmO A os n rho sg H ds vs)(hp:H p=none):AmO A os n rho sg (upd H p (.exc p C)) (.exc C::ds) (.ref p::vs):=by
 have g:=I.grow (o:=.exc p C) hp;refine g.push ?_;unfold Rep;exact⟨p,rfl,λz=>I.zH p z hp,yd⟩
end
section
variable {P:Program}{w:World}{K:W.Frag}{mg:Str->Option Value}{base:Heap}{N:List Str}{qual:Str}{scope:Scope}{f:Addr}{cd:Value}{A0:Around}{outer:List Env}{s:Shared}{H:Hp}{E:XK}{A:AC}{C:Addr}{R:Nat->Prop}
end
section
variable {A:AC}{X:Cx}{C CE:Addr}{a:Expr}{ta:TD}{t1:TAD}{es:List Expr}{pos:Pos}{R:Nat->Prop}
def zg9(C:Addr)(m:Str)(k:Nat)(t:TFX)(ta:TD)(t1:TAD)(R:Nat->Prop):TD:=λrho n P=>ta rho n λd n1=>XQ d λa=>qK C n1 a λfs=>qe m fs=none/\t1 rho n1 λes n2=>es.length=k/\t (.rf a::es) n2 P R
@[simp] theorem zm9{C m k t ta t1 R rho n P}:zg9 C m k t ta t1 R rho n P=ta rho n λd n1=>XQ d λa=>qK C n1 a λfs=>qe m fs=none/\t1 rho n1 λes n2=>es.length=k/\t (.rf a::es) n2 P R:=rfl
def zo6{m:Str}{kk k:Nat}{t:TFX}{b:Expr}{apos:Pos}{pl:Sem Bool}(M:MthX X.prog X.w X.K X.mg X.base C m kk k CE t)(hp:qZ (CX1 X.prog X.w) X (XD A CE R))(hr:Room kk X.A)(hK:X.K=A.K)(ha:PD A X a ta)(h1:PAD A X (b::es) t1)
  (hst:starEach (b::es) X.env=(false,eval b X.env)::starEach es X.env:=by rfl) (hpl:(backTo pos (starEach es X.env)).any (·.1)=false:=by rfl)
  (ht : eval (.Call (.Attribute a m apos) (b :: es) [] pos) X.env = (do
   let ov <- eval a X.env
   standAt apos.atName
   let (f,first) <- holding [ov] (getMethod ov m pl)
   callWith pos f first (backTo pos (starEach (b::es) X.env)) (backToKw pos (keywordEach [] X.env))):=by rfl) :
  PD A X (.Call (.Attribute a m apos) (b::es) [] pos) (zg9 C m k t ta t1 R):=by
 obtain⟨g,fd,ps,F,hm,c,hb⟩:=M.ex
 exists (za9 (pl:=pl) ha c hm F hr hb .nil hp h1 hst hpl ht).imp λsg H Q h=>by
   obtain⟨rho,n,R1,ds,vs,I,ht,hQ⟩:=h;refine⟨rho,n,_,ds,vs,I,ht,λv H' n' d ⟨os,J⟩ k=>?_⟩;obtain⟨q,rfl,fs,hc,hn,k⟩:=k;obtain⟨J1,r⟩:=J.pop;obtain⟨_,_,dx,gs,hp,hf⟩:=J1.cell hc;cases r.rf_inv;refine⟨q,dx,gs,rfl,hp,hf.get.2 hn,rho,n',_,ds,vs,⟨os,J1⟩,k,λws H2 n2 es2 ⟨os2,J2⟩ hl2 k2=>?_⟩;obtain⟨J3,rs2⟩:=J2.split hl2;rw[xG,hK]
   refine⟨A.G,Zof A os2,n2,R1,R,.rf q::es2,by rw[zt,k2.1],.cons Rep.rf_mk rs2,J3.stZ,λa z=>.inl (J3.gz a z),J3.zO,k2.2,λv H3 n3 d fr st gw r q=>hQ v H3 n3 d (J3.called fr st gw r) q,λH3 n3 fr st gw q=>?_⟩
   obtain⟨os4,J4,_⟩:=J3.calledX fr st gw;exact⟨rfl,os4,n3,rho,_,ds,vs,J4,q⟩
end
def qY(P:Program)(w:World)(K:W.Frag)(mg:Str->Option Value)(base:Heap)(stack:List Env)(A:Around)(N:List Str)(qual:Str)(scope:Scope)(f c':Addr)(cl:List (Str × Addr))(s:Shared)(H:Hp)(E:XK):Cx where
 prog:=P
 w:=w
 K:=K
 mg:=mg
 base:=base
 A:=A.deeper (W.envX qual scope s.heap.objs.size f (.ref c') cl)
 N:=N
 s₀:=s
 H₀:=H
 env:=W.envX qual scope s.heap.objs.size f (.ref c') cl
 outer:=stack
 stack:=W.envX qual scope s.heap.objs.size f (.ref c') cl::stack
 ex:=[]
 fn:=λ_=>false
 calm:=true
 pn:=[]
 xe:=λe s'=>wpAny (model P w) (A.deeper (W.envX qual scope s.heap.objs.size f (.ref c') cl)) (leaving (W.envX qual scope s.heap.objs.size f (.ref c') cl) e) (λ_ s''=>CX1 P w stack H s E e s'') (λe' s''=>CX1 P w stack H s E e' s'') s'
structure CapOk(cl:List (Str × Addr))(N:List Str)(cv:List V)(H:Hp)(h:Heap):Prop where
 inj:∀x y c,cl.lookup x=some c->cl.lookup y=some c->x=y
 fre:∀x c,cl.lookup x=some c->H c=none
 cel:∀x c,cl.lookup x=some c->∃v,h.IsCell c v
 cap:∀i x y,N[i+1]?=some x->cv[i]?=some y->∃c,cl.lookup x=some c/\∃u,RelV y u/\h.IsCell c (some u)
def YM{h h':Heap}{c:Addr}{v:Option Value}{o:Obj}(x:h.IsCell c v)(e:h.get? c=some o)(e':∃sl,h'.get? c=some { o with slots:=sl }):h'.IsCell c v:=by
 obtain⟨o1,ho,hd⟩:=x;rw[e] at ho;cases ho;obtain⟨sl,e'⟩:=e';exact⟨_,e',hd⟩
def Zq{h:Heap}{c:Addr}{v:Option Value}(x:h.IsCell c v):∃o,h.get? c=some o:=by
 obtain⟨o1,ho,hd⟩:=x;exact⟨o1,ho⟩
def CapOk.un{cl:List (Str × Addr)}{N:List Str}{cv:List V}{fs:List Addr}{H H1:Hp}{h h1:Heap}(x:CapOk cl N cv H h)(u:Un fs [] H H1 h h1):CapOk cl N cv H1 h1 where
 inj:=x.inj
 fre:=λy c e=>by
  obtain⟨v,hv⟩:=x.cel y c e;obtain⟨o,ho⟩:=Zq hv
  exact u.free c o ho (x.fre y c e) (by simp)
 cel:=λy c e=>by
  obtain⟨v,hv⟩:=x.cel y c e;obtain⟨o,ho⟩:=Zq hv
  exact⟨v,YM hv ho (u.any ho (x.fre y c e) (by simp))⟩
 cap:=λi y z e1 e2=>by
  obtain⟨c,hc,u1,r,hv⟩:=x.cap i y z e1 e2;obtain⟨o,ho⟩:=Zq hv
  exact⟨c,hc,u1,r,YM hv ho (u.any ho (x.fre y c hc) (by simp))⟩
section
variable {P:Program}{w:World}{K:W.Frag}{mg:Str->Option Value}{base:Heap}{stack:List Env}{H:Hp}{s:Shared}{A:Around}{f c':Addr}{qual p:Str}{params:Arguments}{body:Expr}{scope:Scope}{cl:List (Str × Addr)}{pm ctv:Value}{N:List Str}{v:V}{u:Value}{cv:List V}{E:XK}
def zq8{h1:Heap}{tk:Nat}(e0:Env0 P w K mg base A stack s H)(hh:A.handled=none)(S:LamScope N p scope cl)(hN:N.length=cv.length+1)(r:RelV v u)(cp:CapOk cl N cv H s.heap)
  (hns:h1.Ns s.heap.objs.size (λy=>[(p,u)].reverse.lookup y)) (hk:∀b o,s.heap.get? b=some o->h1.get? b=some o) :
  Inv (qY P w K mg base stack A N qual scope f c' cl s H E) [] (some v::cv.map some) H { s with heap:=h1,toks:=tk }:=by
 have noA:∀b:Addr,b ∉ (qY P w K mg base stack A N qual scope f c' cl s H E).ex:=λb z=>absurd (show b∈([]:List Addr) from z) (by simp)
 refine⟨⟨e0.mod,S.kind,rfl,rfl,zj _,λy z c h1 h2=>cp.inj y z c h1 h2,λy hy=>?_,λy c z _=>?_,λ_=>hh,Around.frames_deeper e0.frames,.inr ⟨rfl,rfl⟩,λb z=>absurd z (noA b),e0.bs,e0.bsz,λb _ _=>noA b,λb z=>absurd z (noA b),e0.funs,e0.frf⟩,
  rfl,e0.bare,Un.kept hk,⟨_,hns,λi y z e1 e2 e3=>?_⟩,λy c h=>?_,e0.hok.fresh (zj _),λy c h=>cp.fre y c h,λp hp=>absurd (show p∈([]:List (Addr × Obj)) from hp) (by simp),e0.hok.kept hk,?_⟩
 ·have hy : scope.names.lookup y = some .cell \/ scope.names.lookup y = some .free := hy
  rcases hy with hy |hy
  ·exact absurd rfl (S.nocell _ (PySem.mem_of_lookup hy))
  ·exact S.free y hy
 ·cases(show false=true from z)
 ·cases i with
  |zero=>
   have e4:y=p:=by have:=e1.symm.trans S.head;exact zy this
   subst e4
   have e5:v=z:=by simpa using e2
   subst e5;refine⟨u,r,.inl ⟨S.par,?_⟩⟩;simp
  | succ i =>
   have e4:cv[i]?=some z:=by
    have:(cv.map some)[i]?=some (some z):=by simpa using e2
    rw[zE] at this
    cases q:cv[i]? with
    |none=>rw[q] at this;cases this
    |some a=>rw[q] at this;cases this;rfl
   obtain⟨c,e5,u',r',o,ho,hd⟩:=cp.cap i y z e1 e4;exact⟨u',r',.inr ⟨.inr (S.rest i y e1),c,e5,o,hk _ _ ho,hd⟩⟩
 ·obtain⟨w',o,ho,hd⟩:=cp.cel y c h;exact⟨w',o,hk _ _ ho,hd⟩
 ·show(some v::cv.map some).length=N.length;rw[zt,zm,hN]
def zq6{t:TE}{Q:VK}(e0:Env0 P w K mg base A stack s H)(hroom:A.depth<recursionLimit)(hh:A.handled=none)(hf:s.heap.get? f=some (W.kla_obj "<lambda>" qual params body scope cl pm c' ctv))(hcr:s.heap.CodeRec (.ref c') qual)
  (S:LamScope N p scope cl) (hN:N.length=cv.length+1) (hb:bindArgs (W.kla_fn "<lambda>" qual params body scope cl pm (.ref c') ctv) ⟨[u],[]⟩=pure [(p,u)]) (r:RelV v u) (cp:CapOk cl N cv H s.heap)
  (hbody:PE (qY P w K mg base stack A N qual scope f c' cl s H E) body t) (ht:t (some v::cv.map some) H Q) :
  codeAny (model P w) A (.call (.ref f) ⟨[u],[]⟩) (CR (CX1 P w) stack P w H s Q E) s:=by
 refine W.kla_callFunE hroom hf rfl S.co S.gen rfl hcr ?_;rw[hb];refine zg (wpAny_newFunctionEnv S.nocell (λy hy=>?_) (λh1 hns hsb=>?_) S.kind)
 ·have : y = (p, u) := by simpa using hy
  rw[this];exact S.par
 ·have hk:∀b o,s.heap.get? b=some o->h1.get? b=some o:=λb o e=>hsb.extBut b o (zU (zw e)) (zh _ e);have lim:s.heap.NoLimit:=e0.mod.nolimit.keeps λb o e=>(e0.bs b o e).1;refine⟨lim.keeps hk,?_⟩;show codeAny _ _ (.expr body (W.envX qual scope s.heap.objs.size f (.ref c') cl)) _ _;have I2:Inv (qY P w K mg base stack A N qual scope f c' cl s H E) [] (some v::cv.map some) H { s with heap:=h1,toks:=s.toks+[(p,u)].length }:=zq8 e0 hh S hN r cp hns hk;refine W.kla_codeExpr (xT (hbody [] _ _ H Q I2 ht) (λu' s' h=>?_) λe s' h=>h);obtain⟨v',H',J,rv,q⟩:=h;exact⟨v',H',J.os,J.bare,J.base,J.hok,rv,q⟩
end
structure LamC(P:Program)(w:World)(K:W.Frag)(mg:Str->Option Value)(base:Heap)(k:Nat)(outer:List Env)(s0:Shared)(H0:Hp)(f:Addr)(sp:Sp):Prop where
 at_:∃(o:Obj) (fd:FuncData),s0.heap.get? f=some o/\o.data=.func fd/\H0 f=none/\f ∉ frs outer
 run:∀(A:Around) (env:Env) (s:Shared) (H:Hp) (u:Value) (v:V) (Q:VK) (E:XK),Room k A->Env0 P w K mg base A (env::outer) s H->Un (frs outer) [] H0 H s0.heap s.heap->RelV v u->sp [v] H Q E ->
  codeAny (model P w) A (.call (.ref f) ⟨[u],[]⟩) (CR (CX1 P w) (env::outer) P w H s Q E) s
section
variable {X:Cx}{pins:List (Addr × Obj)}{σ:St}{H:Hp}{s:Shared}{f c':Addr}{q p:Str}{params:Arguments}{body:Expr}{scope:Scope}{clos:List (Str × Addr)}{pm ctv:Value}{oc:Obj}{N:List Str}{cv:List V}{k:Nat}{sp:Sp}
structure Caps(X:Cx)(N:List Str)(clos:List (Str × Addr))(caps:List Nat):Prop where
 len:N.length=caps.length+1
 at_:∀i x,N[i+1]?=some x->X.env.kindOf x=some .cell/\∃j,caps[i]?=some j/\X.N[j]?=some x
 sub:∀x c,clos.lookup x=some c->X.env.cells.lookup x=some c
 has:∀i x,N[i+1]?=some x->∃c,clos.lookup x=some c
def Caps.ok{caps:List Nat}(C:Caps X N clos caps)(I:Inv X pins σ H s)(hcap:∀(i j:Nat),caps[i]?=some j->∃y,cv[i]?=some y/\σ[j]?=some (some y)):CapOk clos N cv H s.heap where
 inj:=λx y c h1 h2=>I.ok.inj x y c (C.sub x c h1) (C.sub y c h2)
 fre:=λx c h=>I.freeC x c (C.sub x c h)
 cel:=λx c h=>I.cell x c (C.sub x c h)
 cap:=λi x y e1 e2=>by
  obtain⟨hkind,j,e3,e4⟩:=C.at_ i x e1;obtain⟨y',e5,e6⟩:=hcap i j e3;have e7:y'=y:=zy (e5.symm.trans e2);subst e7;obtain⟨cc,e8⟩:=C.has i x e1;obtain⟨m,_,lk⟩:=I.loc;obtain⟨u',r',l⟩:=lk j x y' e4 e6 (.inr (.inl hkind))
  rcases l with ⟨l,_⟩ |⟨_,c3,e9,z⟩
  ·rw[hkind] at l;cases l
  ·have e10:=C.sub x cc e8;rw[e9] at e10;cases e10;exact⟨_,e8,u',r',z⟩
def zG2{caps:List Nat}(I:Inv X ((f,W.kla_obj "<lambda>" q params body scope clos pm c' ctv)::pins) σ H s)(hoc:H c'=some (.frz oc (.own 0)))(hcod:zJ9 oc q)(S:LamScope N p scope clos)(C:Caps X N clos caps)
  (hcv:cv.length=caps.length) (hcap:∀(i j:Nat),caps[i]?=some j->∃y,cv[i]?=some y/\σ[j]?=some (some y)) (hst:X.stack=X.env::X.outer) (hfr:X.env.frame=some X.env.locals)
  (hb:∀u,bindArgs (W.kla_fn "<lambda>" q params body scope clos pm (.ref c') ctv) ⟨[u],[]⟩=pure [(p,u)])
  (hbody : ∀ (A : Around) (env : Env) (s : Shared) (H : Hp) (v : V) (Q : VK) (E : XK), Room k (A.deeper (W.envX q scope s.heap.objs.size f (.ref c') clos)) -> sp [v] H Q E ->
   ∃t,PE (qY X.prog X.w X.K X.mg X.base (env::X.stack) A N q scope f c' clos s H E) body t/\t (some v::cv.map some) H Q) :
  LamC X.prog X.w X.K X.mg X.base (k+1) X.stack s H f sp:=by
 have pn:=I.pin _ (zr _ zo)
 have nfr:f ∉ frs X.stack:=λz=>by
  rw[hst] at z;unfold frs at z;rw[wL,hfr] at z
  rcases zd.mp z with z |z
  ·exact pn.2.2.1 z
  ·exact pn.2.2.2.1 z
 have cp:=C.ok I hcap;refine⟨⟨_,_,pn.1,rfl,pn.2.1,nfr⟩,λA env s2 H2 u v Q E hr e0 un rv hsp=>?_⟩;obtain⟨t,ht,hq⟩:=hbody A env s2 H2 v Q E (hr.deeper _) hsp
 have hf2:=un.keep f _ pn.1 pn.2.1 nfr (by simp)
 have hcr:s2.heap.CodeRec (.ref c') q:=by
  obtain⟨z1,_⟩:=e0.hok c' _ (un.frzs c' _ _ hoc);obtain⟨vs,t,d1,d2⟩:=hcod;exact⟨c',oc,vs,t,rfl,z1,d1,d2⟩
 exact zq6 e0 hr.depth hr.hd hf2 hcr S (by rw[C.len,hcv]) (hb u) rv (cp.un un) ht hq
end
abbrev SpS:=List Env->Shared->Sp
structure FnOkS(P:Program)(w:World)(K:W.Frag)(mg:Str->Option Value)(base:Heap)(CX:CXT)(k:Nat)(f:Addr)(fd:FuncData)(ps:List Str)(sp:SpS):Prop where
 len:∀outer s vs H Q E,sp outer s vs H Q E->vs.length=ps.length
 run:∀(A:Around) (outer:List Env) (s:Shared) (H:Hp) (args:Args) (us:List Value) (vs:List V) (Q:VK) (E:XK),Room k A->Env0 P w K mg base A outer s H->BindsTo s fd args (ps.zip us)->Vals vs us->sp outer s vs H Q E ->
  codeAny (model P w) A (.call (.ref f) args) (CR CX outer P w H s Q E) s
def zU3{CX:CXT}{P:Program}{w:World}{K:W.Frag}{mg:Str->Option Value}{base:Heap}{k:Nat}{f:Addr}{name qual:Str}{params:Arguments}{body:List Stmt}{scope:Scope}{dV kV doc pm cdv ct oc:Value}{an od:Option Addr}
  {osl:Array (Option Value)}{N ps:List Str}{sp:SpS} (lk:K.lookup f=some ⟨oc,od,.func (W.fnOf name qual params body scope dV kV doc pm an cdv ct),osl⟩) (hcd:W.codeIn K cdv qual=true) (S:FnScope N ps scope)
  (len:∀outer s vs H Q E,sp outer s vs H Q E->vs.length=ps.length)
  (hbody : ∀ (A : Around) (outer : List Env) (s : Shared) (H : Hp) (vs : List V) (Q : VK) (E : XK), Room k (A.deeper (envOfC qual scope s.heap.objs.size f cdv)) -> sp outer s vs H Q E ->
   ∃t,PSs (Wy CX P w K mg base N qual scope f cdv A outer s H E) body t/\t { nx:=λ_ H'=>Q .non H',rt:=Q } (start N vs) H) :
  FnOkS P w K mg base CX (k+1) f (W.fnOf name qual params body scope dV kV doc pm an cdv ct) ps sp:=by
 refine⟨len,λA outer s H args us vs Q E hr e0 hb r hsp=>?_⟩;have hl:=len _ _ _ _ _ _ hsp;have KX:K.In s.heap:=e0.mod.kin.keeps λb o e=>(e0.bs b o e).1;have lim:s.heap.NoLimit:=e0.mod.nolimit.keeps λb o e=>(e0.bs b o e).1
 have hkind:∀y∈ps.zip us,scope.names.lookup y.1=some .local\/(scope.names.lookup y.1=some .cell/\((cellsFrom (s.heap.objs.size+1) scope.names []).lookup y.1).isSome=true):=fun⟨n,v⟩ hy=>by
  rcases S.par n (of_mem_zip hy).1 with q |q
  ·exact .inl q
  ·exact .inr ⟨q,W.cellsFrom_some _ _ _ (.inl q)⟩
 refine codeAny_call_function hr.depth (KX _ _ lk) rfl S.co S.gen rfl (W.codeRec_of KX hcd) (hb _ _ _ _ ?_);refine wpAny_newFunctionEnv_cells S.kind hkind λenv he s1 x=>?_;subst he;refine⟨lim.keeps x.toInCall.keep,codeAny_func ?_⟩;obtain⟨t,ht,hq⟩:=hbody A outer s H vs Q E (hr.deeper _) hsp;have I:Inv (Wy CX P w K mg base N qual scope f cdv A outer s H E) [] (start N vs) H s1:=VD S hr.hd e0 hl r x;refine xT (ht [] s1 (start N vs) H _ I hq) (λfl s' hs=>?_) λe s' hs=>hs
 have fin:∀{σ':St}{H':Hp}{v:V}{u:Value},Inv (Wy CX P w K mg base N qual scope f cdv A outer s H E) [] σ' H' s'->RelV v u->Q v H'->CE outer P w H s Q u s':=
  λ{σ' H' v u} J rv q=>⟨v,H',J.os,J.bare,J.base,J.hok,rv,q⟩
 cases fl with
 |ret u=>
  obtain⟨v,σ',H',J,rv,q⟩:=hs;exact fin J rv q
 |next=>
  obtain⟨σ',H',J,q⟩:=hs;exact fin (v:=V.non) (u:=Value.none) J rfl q
 |brk=>
  obtain⟨_,_,_,q⟩:=hs;exact False.elim q
 |cont=>
  obtain⟨_,_,_,q⟩:=hs;exact False.elim q
def Fun.okS{P:Program}{w:World}{K:W.Frag}{mg:Str->Option Value}{base:Heap}{x qual:Str}{st:Stmt}{f:Addr}{fd:FuncData}{N ps:List Str}{k:Nat}{sp:SpS}(F:Fun K x qual st f fd)(S:FnScope N ps (zV st))(len:∀outer s vs H Q E,sp outer s vs H Q E->vs.length=ps.length)
  (body : ∀ (cdv : Value) (A0 : Around) (outer : List Env) (s : Shared) (H : Hp) (vs : List V) (Q : VK) (E : XK), Room k (A0.deeper (envOfC qual (zV st) s.heap.objs.size f cdv)) -> sp outer s vs H Q E ->
   ∃t,PSs (Wy CX0 P w K mg base N qual (zV st) f cdv A0 outer s H E) (yM st) t/\t { nx:=λ_ H'=>Q .non H',rt:=Q } (start N vs) H):FnOkS P w K mg base CX0 (k+1) f fd ps sp:=by
 exists (by
   obtain⟨oc,od,kV,doc,pm,an,cdv,ct,osl,rfl,lk,hcd⟩:=F.ex
   exact zU3 lk hcd S len λA0 outer s H vs Q E hr h=>body cdv A0 outer s H vs Q E hr h)
section
variable {X:Cx}{k i j:Nat}{f C CB:Addr}{spl:Sp}{x xB n:Str}{p pos apos np hpos tpos:Pos}{e:Expr}{ta:TA}{ts:TS}{b0:Stmt}{suite:List Stmt}
def Qi{M:Model}{A:Around}{E:Value->Shared->Prop}{s:Shared}{env:Env}{pos:Pos}{f:Addr}{first:List Value}{Q:Value->Shared->Prop}{e:Expr}{rest:List Expr}{T:Heap->Prop}(hP:∀h,T h->∃c d fd sl,h.get? f=some ⟨c,d,.func fd,sl⟩)
  (h:wpAny M A (spliced (backTo pos (starEach (e::rest) env))) (λvs s₁=>T s₁.heap/\wpAny M A (call (.ref f) (first++vs)) Q E s₁) E s)
  (he:starEach (e::rest) env=(false,eval e env)::starEach rest env:=by rfl) (hplain:(backTo pos (starEach rest env)).any (·.1)=false:=by rfl) :
  wpAny M A (callWith pos (.ref f) first (backTo pos (starEach (e::rest) env)) []) Q E s:=by
 rw[he] at h ⊢
 refine W.callWith_of (P:=T) (by show((false||(backTo pos (starEach rest env)).any (·.1))||false)=false;rw[hplain];rfl) (λh t=>?_) (PySem.Calls.evalArgs_plain h)
 obtain⟨c,d,fd,sl,e⟩:=hP h t;exact⟨.frame,.inl rfl,(W.Looks.ld (part:=none) e).andThen .now⟩
def zY7(C:Addr)(i j:Nat)(f:Addr)(spl:Sp)(ta:TA)(ts:TS):TS:=λD σ H=>σ[j]?=some (some (.ref f))/\ta σ H λvs H1=>∃v,vs=[v]/\spl [v] H1 (λ_ H2=>D.nx σ H2) (zt8 C i ts D σ)
def zB8(L:LamC X.prog X.w X.K X.mg X.base k X.outer X.s₀ X.H₀ f spl)(hr:Room k X.A)(hj:X.N[j]?=some x)(hx:Vis X.env.scope x)(ha:PA X.nox [e] ta)
  (hgB:Gl X xB) (hmB:X.mg xB=some (.ref CB)) (hex:W.exmOne X.K (.ref C) (.ref CB)=some true) (hN:X.N.Nodup) (hi:X.N[i]?=some n) (hl:X.env.scope.names.lookup n=some .local)
  (hst:X.stack=X.env::X.outer) (hfr:X.env.frame=some X.env.locals) (hX:X.ex=[]) (hs:∀ev,PSs (X.suite ev) (b0::suite) ts)
  (hdb:(x == ("__debug__" : Str))=false:=by decide) (hcd:(x == ("__classdict__" : Str))=false:=by decide) (hdB:(xB == ("__debug__" : Str))=false:=by decide) (he:starEach [e] X.env=(false,eval e X.env)::starEach [] X.env:=by rfl) (hpl:(backTo pos (starEach [] X.env)).any (·.1)=false:=by rfl)
  (hsw:swapsWith (.Call (.Name x p) [e] [] pos) none apos.line X.env=pure false:=by rfl) :
  PS X (.Try [.Expr (.Call (.Name x p) [e] [] pos) apos] [.ExceptHandler (some (.Name xB np)) (some n) (b0::suite) hpos] [] [] tpos) (zY7 C i j f spl ta ts):=by
 intro pins s σ H D I h;obtain⟨hσ,h⟩:=h;refine wpAny_Try_except (wpAny_execs_cons (wpAny_Expr_any ?_ I.quiet hsw));refine wz (xT (Vd (X:=X.nox) hj hx hdb hcd pins s σ H (λv H'=>v=.ref f/\H'=H) (I.wish _) ⟨_,hσ,rfl,rfl⟩) (λu s0 h0=>?_) λ_ _ z=>False.elim z);obtain⟨v0,H0,I0',r0,rfl,rfl⟩:=h0;have I0:Inv X pins σ H0 s0:=I0'.unwish;cases r0;obtain⟨o,fd,a1,a2,a3,a4⟩:=L.at_
 have atf:∀{H':Hp}{s':Shared},Inv X pins σ H' s'->∃c d fd sl,s'.heap.get? f=some ⟨c,d,.func fd,sl⟩:=λ{H' s'} J=>by
  have:=J.base.keep f o a1 a3 a4 (by rw[hX];simp)
  obtain⟨c,d,dt,sl⟩:=o;cases a2;exact⟨c,d,fd,sl,this⟩
 refine Qi (T:=λh=>∃c d fd sl,h.get? f=some ⟨c,d,.func fd,sl⟩) (λh t=>t) (xT (ha pos pins s0 σ H0 _ (I0.wish _) h) (λus s1 ⟨vs,H1,I1',r,q⟩=>?_) λ_ _ z=>False.elim z) he hpl;have I1:Inv X pins σ H1 s1:=I1'.unwish;obtain⟨v,rfl,q⟩:=q;refine⟨atf I1,?_⟩;obtain⟨u,rfl,rv⟩:=jG r
 have un:Un (frs X.outer) [] X.H₀ H1 X.s₀.heap s1.heap:=by have:=I1.base;rw[hX] at this;exact this
 have hrun:=L.run X.A X.env s1 H1 u v _ _ hr (by rw[<- hst];exact I1.env0) un rv q
 rw[<- hst] at hrun;refine wpAny_call (codeAny_mono hrun λrr s2 hq=>?_)
 cases rr with
 | ok fl =>
  cases fl with
  |ret u=>
   obtain⟨v,H2,I2,rv,q2⟩:=I1.after hq;exact yt (yt ⟨σ,H2,I2,q2⟩)
  |next=>exact False.elim hq
  |brk=>exact False.elim hq
  |cont=>exact False.elim hq
 |error ev=>exact zf2 I1 hq hgB hmB hex hN hi hl hst hfr hs hdB
end
section
variable {A:AC}{X:Cx}{k i j:Nat}{f C CB:Addr}{tl:TFX}{x xB n:Str}{p pos apos np hpos tpos:Pos}{e:Expr}{t1:TAD}{tsd:TSD}{b0:Stmt}{suite:List Stmt}
def zL8(C:Addr)(i j:Nat)(f:Addr)(tl:TFX)(t1:TAD)(ts:TSD):TSD:=λF rho n=>rho[j]?=some (some (.rf f))/\t1 rho n λes n1=>∃d,es=[d]/\tl [d] n1 (λ_ n2=>F.nx rho n2)
 λn2=>i<rho.length/\ts { nx:=λrho' n'=>(∃d,rho'[i]?=some (some d))/\F.nx (rho'.set i none) n',rt:=λ_ _=>False } (rho.set i (some (.exc C))) n2
@[simp] theorem xb8{F rho n}:zL8 C i j f tl t1 tsd F rho n=(rho[j]?=some (some (.rf f))/\t1 rho n λes n1=>∃d,es=[d]/\tl [d] n1 (λ_ n2=>F.nx rho n2)
 λn2=>i<rho.length/\tsd { nx:=λrho' n'=>(∃d,rho'[i]?=some (some d))/\F.nx (rho'.set i none) n',rt:=λ_ _=>False } (rho.set i (some (.exc C))) n2):=rfl
def zn2(L:LamC X.prog X.w X.K X.mg X.base k X.outer X.s₀ X.H₀ f (spX X.K C 1 tl))(hr:Room k X.A)(hK:X.K=A.K)(hj:X.N[j]?=some x)(hx:Vis X.env.scope x)(ha:PAD A X.nox [e] t1)
  (hmB:X.mg xB=some (.ref CB)) (hex:W.exmOne X.K (.ref C) (.ref CB)=some true) (hN:X.N.Nodup) (hi:X.N[i]?=some n) (hl:X.env.scope.names.lookup n=some .local) (hs:∀ev,VZ A (X.suite ev) (b0::suite) tsd)
  (hst:X.stack=X.env::X.outer:=by rfl) (hfr:X.env.frame=some X.env.locals:=by rfl) (hX:X.ex=[]:=by rfl) (hgB:Gl X xB:=by rfl)
  (hdb:(x == ("__debug__" : Str))=false:=by decide) (hcd:(x == ("__classdict__" : Str))=false:=by decide) (hdB:(xB == ("__debug__" : Str))=false:=by decide) (he:starEach [e] X.env=(false,eval e X.env)::starEach [] X.env:=by rfl) (hpl:(backTo pos (starEach [] X.env)).any (·.1)=false:=by rfl)
  (hsw:swapsWith (.Call (.Name x p) [e] [] pos) none apos.line X.env=pure false:=by rfl) :
  PSD A X (.Try [.Expr (.Call (.Name x p) [e] [] pos) apos] [.ExceptHandler (some (.Name xB np)) (some n) (b0::suite) hpos] [] [] tpos) (zL8 C i j f tl t1 tsd):=by
 exists (zB8 (C:=C) L hr hj hx ha hgB hmB hex hN hi hl hst hfr hX hs hdb hcd hdB he hpl hsw).imp λE sg H h=>by
   obtain⟨rho,n0,F,ds,vs,⟨os,I⟩,⟨hjr,ht⟩,ok⟩:=h;obtain⟨vj,e1,e2⟩:=I.slot j _ hjr;have e3:=(e2.rep rfl).rf_inv;subst e3;refine⟨e1,rho,n0,_,ds,vs,⟨os,I⟩,ht,λws H' n' es' ⟨os,J⟩ hl' kq=>?_⟩;obtain⟨d,rfl,kq⟩:=kq;obtain⟨J1,rs⟩:=J.split hl';obtain⟨v,rfl,rv⟩:=kK rs;refine⟨v,rfl,?_⟩;rw[hK];refine⟨A.G,Zof A os,n',_,_,[d],rfl,rs,J1.stZ,λa z=>.inl (J1.gz a z),J1.zO,kq,λv H2 n2 d fr st gw r q=>?_,λH2 n2 fr st gw q=>⟨rfl,λa hn=>?_⟩⟩
   ·obtain⟨os4,J4,_⟩:=J1.calledX fr st gw;exact ok.nx _ _ _ _ ⟨os4,J4⟩ q
   ·obtain⟨os4,J4,_⟩:=J1.calledX fr st gw;have J2:=J4.newExc (C:=C) hn;refine⟨_,n2,_,ds,vs,⟨_,J2.set q.1⟩,q.2,⟨λrho' n3 sg' H3 ⟨os',J3⟩ q3=>?_,λ_ _ _ _ _ _ _ z=>z.elim,λ_ _ _ _ _ z=>z.elim,λ_ _ _ _ _ z=>z.elim⟩⟩;obtain⟨⟨d,hd⟩,q3⟩:=q3;obtain⟨v,hv,_⟩:=J3.slot i d hd;exact⟨⟨v,hv⟩,ok.nx _ _ _ _ ⟨os',J3.unset i⟩ q3⟩
end
section
variable {P:Program}{w:World}{K:W.Frag}{mg:Str->Option Value}{base:Heap}{stack:List Env}{A0:Around}{N:List Str}{qual:Str}{scope:Scope}{f c':Addr}{cl:List (Str × Addr)}{s:Shared}{H:Hp}{E E1:XK}
def zQ1(hE:∀cls H',E1 cls none H'->E cls none H'):qZ (CX1 P w) (qY P w K mg base stack A0 N qual scope f c' cl s H E) E1:=by
 intro pins σ H1 s1 e s2 I hq;obtain⟨a,T,cls,H2,rfl,hos,hbare,un,hok,fl,a0,T0,aH,TH,q⟩:=hq
 have I2:Inv (qY P w K mg base stack A0 N qual scope f c' cl s H E) pins σ H2 s2:=I.call' hos un hok hbare (ch:=[]) λ_ z=>nomatch z
 have fresh:∀{b:Addr},s1.heap.get? b=none->s.heap.get? b=none:=λ{b} hb=>by
  cases q:s.heap.get? b with
  |none=>rfl
  |some o=>
   obtain⟨o',z⟩:=I.base.there b o q (λz=>nomatch z)
   rw[hb] at z;cases z
 have un0:Un (frs stack) [] H H2 s.heap s2.heap:=I2.base;have fr:∀b∈frs (W.envX qual scope s.heap.objs.size f (.ref c') cl::stack),H2 b=none:=I2.stkFree;show wpAny _ _ (leaving (W.envX qual scope s.heap.objs.size f (.ref c') cl) (.ref a)) _ _ _;refine JS (s:=s2) (B:=base) (outer:=stack) (L:=s.heap.objs.size) I.ok.frames I2.stack rfl fl λh3 T' kp fl' hT'=>?_
 have T1:s.heap.get? T'=none:=by
  rcases hT' with hT' |rfl
  ·cases q : s.heap.get? T' with
   |none=>rfl
   |some o=>
    obtain⟨o',z⟩:=un0.there T' o q (λz=>nomatch z)
    rw[hT'] at z;cases z
  ·exact fresh T0
 have T2:H2 T'=none:=by
  rcases hT' with hT' |rfl
  ·exact hok.nil_at hT'
  ·exact TH
 refine⟨a,T',_,H2,rfl,I2.os,hbare,un0.kp kp (λb hb=>?_) (λb hb=>?_),hok.kp kp fr (λb hb=>?_),fl',fresh a0,T1,aH,T2,hE _ H2 q⟩
 ·rcases zd.mp (I2.stkSub b hb) with z | z
  ·right
   rw[z];exact Heap.get?_none_of_le (zj _)
  ·exact .inl z
 ·rcases zd.mp hb with rfl | hb
  ·exact fresh a0
  ·rw[zq.mp hb];exact fresh T0
 ·rcases zd.mp hb with rfl | hb
  ·exact aH
  ·rw[zq.mp hb];exact TH
end
section
variable {X:Cx}{g y q p:Str}{c P fdn:Addr}{fdD:FuncData}{psD:List Str}{spS:SpS}{kd kl j2:Nat}{N:List Str}{caps:List Nat}{params:Arguments}{body:Expr}{scope:Scope}{clos:List (Str × Addr)}{pos lpos np yp:Pos}
def zJ8(X:Cx)(N:List Str)(q:Str)(scope:Scope)(clos:List (Str × Addr))(body:Expr)(kl:Nat)(cv:List V)(spl:Sp):Prop:=∀(A:Around) (env:Env) (s:Shared) (H:Hp) (f c':Addr) (v:V) (Q:VK) (E:XK),Room kl (A.deeper (W.envX q scope s.heap.objs.size f (.ref c') clos))->spl [v] H Q E ->
 ∃t,PE (qY X.prog X.w X.K X.mg X.base (env::X.stack) A N q scope f c' clos s H E) body t/\t (some v::cv.map some) H Q
def zl0(X:Cx)(N:List Str)(P:Addr)(q:Str)(scope:Scope)(clos:List (Str × Addr))(body:Expr)(kl j2:Nat)(caps:List Nat)(spS:SpS):TE:=λσ H Q=>H P=some (.cot q)/\∃(v:V) (cv:List V) (spl:Sp),σ[j2]?=some (some v)/\cv.length=caps.length/\(∀(i j:Nat),caps[i]?=some j->∃y,cv[i]?=some y/\σ[j]?=some (some y)) /\
 zJ8 X N q scope clos body kl cv spl/\∀H1,OneMore H H1->∀f s2,LamC X.prog X.w X.K X.mg X.base (kl+1) X.stack s2 H1 f spl->spS X.stack s2 [.ref f,v] H1 Q E0
def JC(F:FnOkS X.prog X.w X.K X.mg X.base CX0 kd fdn fdD psD spS)(hr:Room kd X.A)(hg:Gl X g)(hm:X.mg g=some (.ref fdn))(hk:W.keepIn X.K (.ref fdn)=true)(hbd:Binds X.K fdD psD [])
  (hj2:X.N[j2]?=some y) (hy:Vis X.env.scope y) (hc:X.env.code=.ref c) (L:LamBase X.base X.mg c P) (hq:X.env.qual ++ "<lambda>" = q) (hcl:closureFor scope X.env=pure clos) (hdef:defaultsOf params X.env=([],[]))
  (S:LamScope N p scope clos) (C:Caps X N clos caps) (hb:∀(u pm ctv:Value) (c':Addr),bindArgs (W.kla_fn "<lambda>" q params body scope clos pm (.ref c') ctv) ⟨[u],[]⟩=pure [(p,u)])
  (hst:X.stack=X.env::X.outer) (hfr:X.env.frame=some X.env.locals) (hdb:(g == ("__debug__" : Str))=false:=by decide) (hdy:(y == ("__debug__" : Str))=false:=by decide) (hcy:(y == ("__classdict__" : Str))=false:=by decide)
  (he:starEach [.Lambda params body scope lpos,.Name y yp] X.env=(false,eval (.Lambda params body scope lpos) X.env)::starEach [.Name y yp] X.env:=by rfl) (he2:starEach [.Name y yp] X.env=(false,eval (.Name y yp) X.env)::starEach [] X.env:=by rfl) (hpl:(backTo pos (starEach [.Name y yp] X.env)).any (·.1)=false:=by rfl) :
  PE X (.Call (.Name g np) [.Lambda params body scope lpos,.Name y yp] [] pos) (zl0 X N P q scope clos body kl j2 caps spS):=by
 intro pins s σ H Q I h;obtain⟨hP,v,cv,spl,hv,hcv,hcap,hLB,h⟩:=h;refine wz (Zo I hg hm ?_ hdb);refine W.callWith_K (h₀:=X.base) I.ok.mod.kin hk ?_ he hpl;rw[he];show wpAny _ _ (spliced ((false,eval (.Lambda params body scope lpos) X.env)::backTo pos (starEach [.Name y yp] X.env))) _ _ s;refine Calls.spliced_cons (zq7 I hc L hP hq hcl hdef λf c' oc ctv H2 s2 hH I2 hoc hcod=>?_);have hvar:PA X [.Name y yp] (zl1 (xi5 j2) zV8):=ql (Vd hj2 hy hdy hcy) Yx he2;refine thn (hvar pos _ s2 σ H2 (λvs H'=>vs=[v]/\H'=H2) I2 ⟨v,hv,rfl,rfl⟩) λus s3 h3=>?_;obtain⟨vs,H3,I3,r3,rfl,rfl⟩:=h3;obtain⟨u,rfl,ru⟩:=jG r3;refine⟨I3.kIn,?_⟩;have LC:LamC X.prog X.w X.K X.mg X.base (kl+1) X.stack s3 H3 f spl:=zG2 I3 hoc hcod S C hcv hcap hst hfr (λu=>hb u _ _ _) λA env s H v Q E hr h=>hLB A env s H f c' v Q E hr h;have hsp:=h H3 hH f s3 LC;have r2:Vals [V.ref f,v] [Value.ref f,u]:=.cons rfl (.cons ru .nil)
 have hl:([Value.ref f,u]:List Value).length=psD.length:=by rw[<- r2.length];exact F.len _ _ _ _ _ _ hsp
 have hbs:=hbd s3 [Value.ref f,u] I3.kIn (by rw[xG];exact hl)
 rw[xG] at hbs;refine wpAny_call (codeAny_mono (F.run X.A X.stack s3 H3 ⟨[Value.ref f,u],[]⟩ _ _ Q E0 hr I3.env0 hbs r2 hsp) λrr s4 hq=>?_)
 cases rr with
 |error e=>exact JF _ _ _ _ _ _ I3 hq
 | ok fl =>
  cases fl with
  |ret u=>
   obtain⟨v4,H4,I4,r4,q4⟩:=I3.after hq;exact⟨v4,H4,I4.unpin,r4,q4⟩
  |next=>exact False.elim hq
  |brk=>exact False.elim hq
  |cont=>exact False.elim hq
end
def Ks(P:Program)(w:World)(K:W.Frag)(mg:Str->Option Value)(base:Heap)(k:Nat)(okC:Addr->Prop)(word:Addr->Str):SpS:=λouter s vs H Q _=>∃(G:Option Addr) (Z:Addr->Prop) (n:Nat) (R:D->Nat->Prop) (f:Addr) (d:D) (C:Addr) (tl:TFX),Reps K G Z H [.rf f,d] vs/\StOk K Z Z G n H/\(∀a,G=some a->Z a)/\ZOk K G Z H /\
 LamC P w K mg base k outer s H f (spX K C 1 tl)/\okC C/\yr d=true/\tl [d] n (λ_ n'=>R (.str "done") n') (λn'=>R (.str (word C)) n') /\
 ∀v H' n' d,(∀a o,G≠some a->xb n a=none->H a=some o->H' a=some o)->StOk K (jz Z n') (jz Z n') G n' H'->Grown n n' H->Rep K G (jz Z n') H' d v->R d n'->Q v H'
section
variable {A:AC}{X:Cx}{g y q p x m:Str}{c P fdn C CE:Addr}{fdD:FuncData}{psD:List Str}{kd kk j j2:Nat}{params:Arguments}{scope:Scope}{clos:List (Str × Addr)}{pos lpos np yp bp ap xp pp:Pos}{t:TFX}{okC:Addr->Prop}{word:Addr->Str}
def Wo(j j2:Nat)(C CE:Addr)(m:Str)(t:TFX)(okC:Addr->Prop)(word:Addr->Str):TD:=λrho n R=>∃(a:Addr) (d:D),rho[j]?=some (some (.rf a))/\rho[j2]?=some (some d)/\yr d=true/\okC CE/\(qK C n a λfs=>qe m fs=none)/\t [.rf a,d] n (λ_ n'=>R (.str "done") n') (λn'=>R (.str (word CE)) n')
@[simp] theorem zK3{rho n R}:Wo j j2 C CE m t okC word rho n R=∃(a:Addr) (d:D),rho[j]?=some (some (.rf a))/\rho[j2]?=some (some d)/\yr d=true/\okC CE/\(qK C n a λfs=>qe m fs=none)/\t [.rf a,d] n (λ_ n'=>R (.str "done") n') (λn'=>R (.str (word CE)) n'):=rfl
def JE(F:FnOkS X.prog X.w X.K X.mg X.base CX0 kd fdn fdD psD (Ks X.prog X.w X.K X.mg X.base (kk+1) okC word))(M:MthX X.prog X.w X.K X.mg X.base C m kk 1 CE t)(hr:Room kd X.A)(hK:X.K=A.K)(hm:X.mg g=some (.ref fdn))(hk:W.keepIn X.K (.ref fdn)=true)(hbd:Binds X.K fdD psD [])
  (hj2:X.N[j2]?=some y) (hy:Vis X.env.scope y) (ti:vZ X.K P q) (L:LamBase X.base X.mg c P) (S:LamScope [p,x] p scope clos) (Cp:Caps X [p,x] clos [j])
  (hvp:scope.names.lookup p=some .local) (hvx:scope.names.lookup x=some .free)
  (hms : ∀ (s : Shared) (f c' : Addr) (env : Env), env = W.envX q scope s.heap.objs.size f (.ref c') clos -> starEach [.Name p pp] env = (false, eval (.Name p pp) env) :: starEach [] env /\ (backTo bp (starEach [] env)).any (·.1) = false /\ ∃ pl, eval (.Call (.Attribute (.Name x xp) m ap) [.Name p pp] [] bp) env = (do
   let ov <- eval (.Name x xp) env
   standAt ap.atName
   let (f,first) <- holding [ov] (getMethod ov m pl)
   callWith bp f first (backTo bp (starEach [.Name p pp] env)) (backToKw bp (keywordEach [] env))))
  (hq:X.env.qual ++ "<lambda>" = q:=by rfl) (hc:X.env.code=.ref c:=by rfl) (hcl:closureFor scope X.env=pure clos:=by rfl) (hdef:defaultsOf params X.env=([],[]):=by rfl)
  (hb:∀(u pm ctv:Value) (c':Addr),bindArgs (W.kla_fn "<lambda>" q params (.Call (.Attribute (.Name x xp) m ap) [.Name p pp] [] bp) scope clos pm (.ref c') ctv) ⟨[u],[]⟩=pure [(p,u)]:=by intros;rfl)
  (hst:X.stack=X.env::X.outer:=by rfl) (hfr:X.env.frame=some X.env.locals:=by rfl) (hg:Gl X g:=by rfl)
  (hdb:(g == ("__debug__" : Str))=false:=by decide) (hdy:(y == ("__debug__" : Str))=false:=by decide) (hcy:(y == ("__classdict__" : Str))=false:=by decide) (hdp:(p == ("__debug__" : Str))=false:=by decide) (hcp:(p == ("__classdict__" : Str))=false:=by decide) (hdx:(x == ("__debug__" : Str))=false:=by decide) (hcx:(x == ("__classdict__" : Str))=false:=by decide)
  (he:starEach [.Lambda params (.Call (.Attribute (.Name x xp) m ap) [.Name p pp] [] bp) scope lpos,.Name y yp] X.env=(false,eval (.Lambda params (.Call (.Attribute (.Name x xp) m ap) [.Name p pp] [] bp) scope lpos) X.env)::starEach [.Name y yp] X.env:=by rfl) (he2:starEach [.Name y yp] X.env=(false,eval (.Name y yp) X.env)::starEach [] X.env:=by rfl) (hpl:(backTo pos (starEach [.Name y yp] X.env)).any (·.1)=false:=by rfl) :
  PD A X (.Call (.Name g np) [.Lambda params (.Call (.Attribute (.Name x xp) m ap) [.Name p pp] [] bp) scope lpos,.Name y yp] [] pos) (Wo j j2 C CE m t okC word):=by
 exists (JC (kl:=kk) (caps:=[j]) F hr hg hm hk hbd hj2 hy hc L hq hcl hdef S Cp hb hst hfr hdb hdy hcy he he2 hpl).imp λsg H Q h=>by
   obtain⟨rho,n,R,ds,vs,⟨os,I⟩,⟨a,d,h1,h2,hno,hC,hins,ht⟩,hQ⟩:=h;obtain⟨v1,e1,r1⟩:=I.slot j _ h1;have e1':=(r1.rep rfl).rf_inv;subst e1';obtain⟨v2,e2,r2⟩:=I.slot j2 _ h2;have r2':=r2.rep hno
   refine⟨(I.zO.2 P q (by rw[<- hK];exact ti)).1,v2,[.ref a],spX X.K CE 1 (λds n' P' R'=>∃d',ds=[d']/\yr d'=true/\(qK C n' a λfs=>qe m fs=none)/\t [.rf a,d'] n' P' R'),e2,rfl,λi k e=>?_,?_,λH1 hH f s2 LC=>?_⟩
   ·cases i with
    |zero=>
     have:j=k:=by simpa using e
     subst this;exact⟨_,rfl,e1⟩
    |succ i=>simp at e
   ·intro A1 env s3 H3 f3 c3 v3 Q3 E3 hr3 hsp;obtain⟨G3,Z3,n3,P3,R3,ds3,hl3,rs3,st3,gz3,z3,ht3,hQ3,hE3⟩:=hsp;obtain⟨d3,rfl,hno3,⟨fs3,hf3,hf4⟩,ht3⟩:=ht3;obtain⟨w1,w2,pl,w3⟩:=hms s3 f3 c3 _ rfl
    have hpass:qZ (CX1 X.prog X.w) (qY X.prog X.w X.K X.mg X.base (env::X.stack) A1 [p,x] q scope f3 c3 clos s3 H3 E3) (XD ⟨X.K,G3,Z3,ZW n3 H3⟩ CE R3):=zQ1 λcls H' hx=>by
     obtain⟨rfl,os',n',rho',sg',ds',vs',I',r'⟩:=hx;obtain⟨r1,r2,r3,_⟩:=I'.ended st3 z3;exact hE3 H' n' r1 r2 r3 r'
    have body:=zo6 (X:=qY X.prog X.w X.K X.mg X.base (env::X.stack) A1 [p,x] q scope f3 c3 clos s3 H3 E3) (A:=⟨X.K,G3,Z3,ZW n3 H3⟩) (R:=R3) (a:=.Name x xp) (b:=.Name p pp) (es:=[]) (pos:=bp) (apos:=ap) (pl:=pl) M hpass hr3 rfl (zn (i:=1) rfl (.inr (.inr hvx)) hdx hcx) (ze (zn (i:=0) rfl (.inl hvp) hdp hcp) zL) w1 w2 w3
    have rr:Reps X.K G3 Z3 H3 [d3,.rf a] [v3,.ref a]:=by
     obtain⟨v3',e3,r3⟩:=kK rs3;cases e3;exact .cons r3 (.cons Rep.rf_mk .nil)
    refine⟨_,body,[some d3,some (.rf a)],n3,P3,[],[],⟨[],qa (N:=[p,x]) rr st3 gz3 z3⟩,?_,λv' H' n' d' ⟨os',I'⟩ hp=>?_⟩
    ·show zg9 C m 1 t (zK5 1) (zJ5 (zK5 0) zY0) R3 [some d3,some (.rf a)] n3 P3;rw[zm9];simp;exact xn hf3 ⟨hf4,zy1 hno3 ht3⟩
    ·obtain⟨q1,q2,q3,q4⟩:=I'.ended st3 z3;exact hQ3 v' H' n' d' q1 q2 q3 (Rep.mono (λa _ z=>q4 a z) (λ_ _ _ e=>e) _ _ I'.pop.2) hp
   ·have J : AmO A os n rho sg H1 ds vs := by
     rcases hH with rfl |⟨c2,o2,hn2,rfl⟩
     ·exact I
     ·exact I.grow hn2
    have r2J:Rep A.K A.G (Zof A os) H1 d v2:=Rep.mono (λ_ _ z=>z) (λb u _ e=>hH.keep b u e) _ _ r2';rw[hK] at LC ⊢;exact⟨A.G,Zof A os,n,R,f,d,CE,_,.cons Rep.rf_mk (.cons r2J .nil),J.stZ,λa z=>.inl (J.gz a z),J.zO,LC,hC,hno,⟨d,rfl,hno,hins,ht⟩,λv H' n' d fr st gw r q=>hQ v H' n' d (J.called fr st gw r) q⟩
end
def qJ:Value->Bool
 |.bool b=>b
 |_=>false
def zA6(K:W.Frag):V->List V->Hp->VK->Prop:=λx vs H Q=>∃(l:Addr) (bs:List Bool) (j:Nat),x=.ref l/\vs=[.bl true]/\SqL K H l (bs.map V.bl)/\bs[j]?=some true/\(∀m,m<j->bs[m]?=some false)/\bs.length<=1000/\Q (.int j) H
def Kn{bs:List Bool}:∀{us:List Value},Vals (bs.map V.bl) us->us=bs.map Value.bool:=by
 induction bs with
 |nil=>intro us r;cases r;rfl
 | cons b bs ih =>
  intro us r
  cases r with
  |cons r1 r2=>
   have e:_=Value.bool b:=r1;rw[e,ih r2];rfl
section
variable {X:Cx}
def zc3:MtR X "list.index" (zA6 X.K):=by
 intro pins s σ H x vs v us Q I rx rv h;obtain⟨l,bs,j,rfl,rfl,hS,h1,h2,h3,q⟩:=h;cases rx;obtain⟨u,rfl,ru⟩:=jG rv;have eu:u=Value.bool true:=ru;subst eu;obtain⟨its,r,pl,_⟩:=I.list hS;have e:=Kn r;subst e;have ty:=pl.isList.typeIs;obtain⟨o,n,ho,hc,hdi,hd⟩:=pl;obtain⟨oc,od,odt,osl⟩:=o;cases hc;cases hdi;cases hd;have hj:j<bs.length:=(zN.mp h1).1
 have hjs:j<((bs.map Value.bool).toArray).size:=by simpa using hj
 have at_:∀m (hm:m<((bs.map Value.bool).toArray).size),qJ ((bs.map Value.bool).toArray)[m]=bs[m]'(by simpa using hm):=λm hm=>by simp[qJ]
 refine call_meets F.slot_list_index ty F.entry_list_index (F.args_list_index_2 _ _) (SeqAt.list_indexAt l (bs.map Value.bool).toArray n _ _ (.bool true) qJ j hjs q5 ?_ ?_) ⟨ho,?_,?_⟩
 ·rw[at_ j hjs];exact(zN.mp h1).2
 ·intro m hm hlt;rw[at_ m hm];exact(zN.mp (h2 m hlt)).2
 ·intro y hy;obtain⟨b,_,rfl⟩:=zD.mp (List.mem_toArray.mp hy);have:=SeqAt.EqAt.bool_bool (A:=X.A.in1) (s:=s) b true
  have e:(b == true)=qJ (.bool b):=by cases b<;>rfl
  rw[e] at this;exact this
 ·exact⟨.int j,H,I.tok _,⟨_,rfl⟩,q⟩
end
def zh0(te:TD):TD:=λrho n P=>te rho n λd n1=>∃(bs:List Bool) (j:Nat),d=.lst (bs.map D.bl)/\bs[j]?=some true/\(∀m,m<j->bs[m]?=some false)/\bs.length<=1000/\P (.int j) n1
@[simp] theorem zN6{te rho n P}:zh0 te rho n P=te rho n λd n1=>∃(bs:List Bool) (j:Nat),d=.lst (bs.map D.bl)/\bs[j]?=some true/\(∀m,m<j->bs[m]?=some false)/\bs.length<=1000/\P (.int j) n1:=rfl
theorem XR{K:W.Frag}{G:Option Addr}{Z:Addr->Prop}{H:Hp}:∀{bs:List Bool}{vs:List V},Reps K G Z H (bs.map D.bl) vs->vs=bs.map V.bl
 |[],vs,h=>h.nil_inv
 |b::bs,vs,h=>by
  obtain⟨v,r,rfl,q,t⟩:=h.split;rw[q.bl_inv,XR t];rfl
section
variable {A:AC}{X:Cx}
def zb4{o:Expr}{te:TD}{apos cpos p:Pos}{j:Nat}(hK:X.K=A.K)(ho:PD A X o te)(hbase:attributeBase o "index" X.env (eval o X.env)=eval o X.env:=by rfl)(hline:(apos.endLine == cpos.line)=true:=by rfl) :
  PD A X (.Call (.Attribute o "index" apos) [.Constant (.bool true) j p] [] cpos) (zh0 te):=by
 exists (zP8 F.plainAttrs_list F.slot_list_index F.type_list_index zc3 ho (ql zD3 Yx) hbase rfl hline).imp λsg H Q h=>by
   obtain⟨rho,n,P,ds,vs,I,ht,hQ⟩:=h;refine⟨rho,n,_,ds,vs,I,ht,λv H1 n1 d ⟨os,J⟩ k=>?_⟩;obtain⟨bs,j,rfl,k1,k2,k3,k⟩:=k;obtain⟨J1,r⟩:=J.pop;obtain⟨l,xs,rfl,sq,rs⟩:=r.lst_inv;rw[XR rs] at sq;rw[hK];exact⟨.inl ⟨rfl,_,sq.sq⟩,l,bs,j,rfl,rfl,sq.sq,k1,k2,k3,hQ _ _ n1 _ ⟨os,J1.push (Rep.ofS (d:=.int j) rfl)⟩ k⟩
end
def Wz:V->Value
 |.ref a=>.ref a
 |.ty n=>.type n
 |_=>.none
def ze5:V->Bool
 |.ref _=>true
 |.ty _=>true
 |_=>false
theorem Jm:∀{v:V}{u:Value},ze5 v=true->RelV v u->u=Wz v
 |.ref a,u,_,r=>r
 |.ty n,u,_,r=>r
 |.non,_,h,_=>by cases h
 |.bl _,_,h,_=>by cases h
 |.int _,_,h,_=>by cases h
 |.str _,_,h,_=>by cases h
 |.byt _,_,h,_=>by cases h
 |.flt _,_,h,_=>by cases h
def zi1{vs:List V}{us:List Value}(h:vs.all ze5=true)(r:Vals vs us):us=vs.map Wz:=by
 induction r with
 |nil=>rfl
 |cons r1 _ ih=>
  rw[List.all_cons,xg] at h;rw[zu,Jm h.1 r1,ih h.2]
def zN3(K:W.Frag)(C:Addr)(b:Bool):List V->Hp->VK->Prop:=λvs H Q=>∃a y,vs=[.ref a,y]/\H a=some (.exc a C)/\Q (.bl b) H /\
 ((ze5 y=true/\W.kitOne K (.ref C) (Wz y)=some b)\/∃tp ys,y=.ref tp/\H tp=some (.tup ys)/\ys.all ze5=true/\W.kitAny K (.ref C) (ys.map Wz)=some b)
section
variable {A:AC}{X:Cx}{C:Addr}{b:Bool}
def zj1(c:ExcC X.K C):qd X (.builtin "isinstance") (zN3 X.K C b):=by
 intro pins s σ H vs us Q I r h;obtain⟨a,y,rfl,ha,q,hy⟩:=h
 cases r with
 | cons r1 rr =>
  cases rr with
  | cons r2 rn =>
   cases rn;rename_i u1 u2;obtain rfl:u1=Value.ref a:=r1;have hx:ExcAt s.heap a C:=(I.hok a _ ha).1;have kx:W.KitX X.K (.ref a) (.ref C) λh=>ExcAt h a C:=zr0 c
   rcases hy with ⟨h1,h2⟩ |⟨tp,ys,rfl,h1,h2,h3⟩
   ·rw [Jm h1 r2]
    exact W.kia_one kx I.kIn hx h2 (by intro z;cases z) λtk=>⟨.bl b,H,I.tok tk,rfl,q⟩
   ·obtain rfl : u2 = Value.ref tp := r2;obtain⟨_,its,rv,o,ho,hcls,n,hd⟩:=I.hok tp _ h1;obtain⟨oc,od,odd,osl⟩:=o;simp only at hcls hd;subst hcls hd;rw[zi1 h2 rv] at ho
    exact W.kia_tup kx I.kIn hx ho h3 (by intro z;cases z) λtk=>⟨.bl b,H,I.tok tk,rfl,q⟩
def xg6{x:Str}{C':Addr}{p:Pos}(hm:X.mg x=some (.ref C'))(hg:Gl X x:=by rfl)(hd:(x == ("__debug__" : Str))=false:=by decide):PE X (.Name x p) (tC (.ref C')):=λpins s σ H Q I h=>Zo I hg hm ⟨.ref C',H,I,rfl,h⟩ hd
end
def zN4(K:W.Frag):List V->Hp->VK->Prop:=λvs H Q=>∃C b,ExcC K C/\zN3 K C b vs H Q
def zt0(K:W.Frag)(y:V)(te:TD):TD:=λrho n P=>te rho n λd n1=>∃C b,d=.exc C/\ExcC K C/\W.kitOne K (.ref C) (Wz y)=some b/\P (.bl b) n1
@[simp] theorem xf3{K y te rho n P}:zt0 K y te rho n P=te rho n λd n1=>∃C b,d=.exc C/\ExcC K C/\W.kitOne K (.ref C) (Wz y)=some b/\P (.bl b) n1:=rfl
section
variable {A:AC}{X:Cx}
def VQ:qd X (.builtin "isinstance") (zN4 X.K):=by
 intro pins s σ H vs us Q I r h;obtain⟨C,b,c,h⟩:=h;exact zj1 c pins s σ H vs us Q I r h
def KQ{te:TD}{y:V}(hy:ze5 y=true){sg:St}{H:Hp}{Q:VK}(h:tOf A (zt0 X.K y te) sg H Q):tCB (zN4 X.K) (zl1 (tOf A te) (zl1 (tC y) zV8)) sg H Q:=by
 obtain⟨rho,n,P,ds,vs,I,ht,hQ⟩:=h;refine⟨rho,n,_,ds,vs,I,ht,λv H' n' d ⟨os,J⟩ k=>?_⟩;obtain⟨C,b,rfl,hc,hk,k⟩:=k;obtain⟨J1,r⟩:=J.pop;unfold Rep at r;obtain⟨a,rfl,_,ha⟩:=r;exact⟨C,b,hc,a,y,rfl,ha,hQ _ H' n' _ ⟨os,J1.push (Rep.ofS (d:=.bl b) rfl)⟩ k,.inl ⟨hy,hk⟩⟩
def Yu{K':W.Frag}{e:Expr}{te:TD}{cn:Str}{C':Addr}{p p2 pos:Pos}(he:PD A X e te)(hm:X.mg cn=some (.ref C'))(hi:X.mg "isinstance" = none)(hK':X.K=K':=by rfl)(hg:Gl X "isinstance" := by rfl)(hgc:Gl X cn:=by rfl)
  (hd:(cn == ("__debug__" : Str))=false:=by decide) (hst:starEach [e,.Name cn p2] X.env=(false,eval e X.env)::starEach [.Name cn p2] X.env:=by rfl) (hpl:(backTo pos (starEach [.Name cn p2] X.env)).any (·.1)=false:=by rfl):PD A X (.Call (.Name "isinstance" p) [e,.Name cn p2] [] pos) (zt0 K' (.ref C') te):=by
 subst hK'
 exists (jR VQ hg hi zx7 (ql he (ql (xg6 hm hgc hd) Yx) hst) q9 q9 hst hpl).imp λsg H Q h=>KQ rfl h
def zo7{K':W.Frag}{e:Expr}{te:TD}{cn:Str}{T:String}{p p2 pos:Pos}(he:PD A X e te)(hm:X.mg cn=none)(hv:bootBuiltins cn=some (.type T))(hi:X.mg "isinstance" = none)(hK':X.K=K':=by rfl)(hn:cn ≠ "__name__" := by decide)(hg:Gl X "isinstance" := by rfl)(hgc:Gl X cn:=by rfl)
  (hd:(cn == ("__debug__" : Str))=false:=by decide) (hst:starEach [e,.Name cn p2] X.env=(false,eval e X.env)::starEach [.Name cn p2] X.env:=by rfl) (hpl:(backTo pos (starEach [.Name cn p2] X.env)).any (·.1)=false:=by rfl):PD A X (.Call (.Name "isinstance" p) [e,.Name cn p2] [] pos) (zt0 K' (.ty T) te):=by
 subst hK'
 exists (jR VQ hg hi zx7 (ql he (ql (zD2 hgc hm hv (v:=.ty T) rfl hn hd) Yx) hst) q9 q9 hst hpl).imp λsg H Q h=>KQ rfl h
end
def Wq:bootBuiltins "ValueError" = some (.type "ValueError"):=w5
def zA7(K:W.Frag):V->List V->Hp->VK->Prop:=λx vs H Q=>∃(l:Addr) (bs:List Bool),x=.ref l/\vs=[.bl true]/\SqL K H l (bs.map V.bl)/\Q (.int (bs.countP id:Nat)) H
section
variable {X:Cx}
def zc4:MtR X "list.count" (zA7 X.K):=by
 intro pins s σ H x vs v us Q I rx rv h;obtain⟨l,bs,rfl,rfl,hS,q⟩:=h;cases rx;obtain⟨u,rfl,ru⟩:=jG rv;have eu:u=Value.bool true:=ru;subst eu;obtain⟨its,r,pl,_⟩:=I.list hS;have e:=Kn r;subst e;have ty:=pl.isList.typeIs;obtain⟨o,n,ho,hc,hdi,hd⟩:=pl;obtain⟨oc,od,odt,osl⟩:=o;cases hc;cases hdi;cases hd;refine call_meets F.slot_list_count ty F.entry_list_count (F.args_list_count_2 _ _) (SeqAt.list_countAt l (bs.map Value.bool).toArray n _ _ (.bool true) qJ) ⟨ho,?_,?_⟩
 ·intro y hy;obtain⟨b,_,rfl⟩:=zD.mp (List.mem_toArray.mp hy);have:=SeqAt.EqAt.bool_bool (A:=X.A.in1) (s:=s) b true
  have e:(b == true)=qJ (.bool b):=by cases b<;>rfl
  rw[e] at this;exact this
 ·have e : ((bs.map Value.bool).toArray.toList.countP qJ) = bs.countP id := by
   show(bs.map Value.bool).countP qJ=_;rw[List.countP_map];rfl
  refine⟨.int (bs.countP id:Nat),H,I.tok _,⟨_,by rw[e]⟩,q⟩
end
def zh2(te:TD):TD:=λrho n P=>te rho n λd n1=>∃bs:List Bool,d=.lst (bs.map D.bl)/\P (.int (bs.countP id:Nat)) n1
@[simp] theorem zN7{te rho n P}:zh2 te rho n P=te rho n λd n1=>∃bs:List Bool,d=.lst (bs.map D.bl)/\P (.int (bs.countP id:Nat)) n1:=rfl
section
variable {A:AC}{X:Cx}
def zb5{o:Expr}{te:TD}{apos cpos p:Pos}{j:Nat}(hK:X.K=A.K)(ho:PD A X o te)(hbase:attributeBase o "count" X.env (eval o X.env)=eval o X.env:=by rfl)(hline:(apos.endLine == cpos.line)=true:=by rfl) :
  PD A X (.Call (.Attribute o "count" apos) [.Constant (.bool true) j p] [] cpos) (zh2 te):=by
 exists (zP8 F.plainAttrs_list F.slot_list_count F.type_list_count zc4 ho (ql zD3 Yx) hbase rfl hline).imp λsg H Q h=>by
   obtain⟨rho,n,P,ds,vs,I,ht,hQ⟩:=h;refine⟨rho,n,_,ds,vs,I,ht,λv H1 n1 d ⟨os,J⟩ k=>?_⟩;obtain⟨bs,rfl,k⟩:=k;obtain⟨J1,r⟩:=J.pop;obtain⟨l,xs,rfl,sq,rs⟩:=r.lst_inv;rw[XR rs] at sq;rw[hK];exact⟨.inl ⟨rfl,_,sq.sq⟩,l,bs,rfl,rfl,sq.sq,hQ _ _ n1 _ ⟨os,J1.push (Rep.ofS (d:=.int _) rfl)⟩ k⟩
end
section
variable {P:Program}{w:World}{K:W.Frag}{mg:Str->Option Value}{base:Heap}
def UU{x qual:Str}{st:Stmt}{f c Pt:Addr}{oc:Value}{od an:Option Addr}{osl:Array (Option Value)}{kV doc pm cdv ct:Value}(lk:K.lookup f=some ⟨oc,od,.func (W.fnOf x qual (vo st) (yM st) (zV st) .none kV doc pm an cdv ct),osl⟩)
  (hn:W.nsIn K mainGlobals x=some (some (.ref f))) (ht:W.tabIn K x=some (c,Pt)):cdv=.ref c:=by
 unfold W.tabIn at ht;rw[hn] at ht;simp only[lk] at ht
 split at ht
 ·split at ht
  ·split at ht
   ·cases ht;first |rfl |assumption
   ·cases ht
  ·cases ht
 ·cases ht
def Fun.okL{x qual:Str}{st:Stmt}{f c Pt:Addr}{fd:FuncData}{N ps:List Str}{k:Nat}{t:TF}{tb:TSD}(F:Fun K x qual st f fd)(hn:W.nsIn K mainGlobals x=some (some (.ref f)))(ht:W.tabIn K x=some (c,Pt))(S:FnScope N ps (zV st))
  (body : ∀ (A0 : Around) (outer : List Env) (s : Shared) (H : Hp) (E : XK) (G : Option Addr) (Z : Addr -> Prop) (n : Nat), Room k (A0.deeper (envOfC qual (zV st) s.heap.objs.size f (.ref c))) ->
   VZ ⟨K,G,Z,ZW n H⟩ (Wy CX0 P w K mg base N qual (zV st) f (.ref c) A0 outer s H E).nox (yM st) tb)
  (spec:∀ds n Q,ds.length=ps.length->t ds n Q->tb { nx:=λ_ n=>Q .non n,rt:=Q } (wx N ds) n):FnOk P w K mg base CX0 (k+1) f fd ps (spD K ps.length t):=by
 exists (by
   obtain⟨oc,od,kV,doc,pm,an,cdv,ct,osl,rfl,lk,hcd⟩:=F.ex;have e:=UU lk hn ht;subst e;refine zH2 lk hcd S (λvs H Q E h=>?_) λA0 outer s H vs Q E hr h=>?_
   ·obtain⟨G,Z,n,R,ds,hl,rs,_⟩:=h;rw[rs.length];exact hl
   ·obtain ⟨G, Z, n, R, ds, hl, rs, hst, gz, z0, ht, hQ⟩ := h;refine⟨_,PSs.nox (body A0 outer s H E G Z n hr),wx N ds,n,_,[],[],⟨[],qa rs hst gz z0⟩,spec ds n R hl ht,?_⟩;refine⟨λrho' n' sg' H' ⟨os,I⟩ q=>?_,λd n' v rho' sg' H' ⟨os,I⟩ q=>?_,λ_ _ _ _ _ q=>q.elim,λ_ _ _ _ _ q=>q.elim⟩
    ·obtain⟨r1,r2,r3,_⟩:=I.ended hst z0;exact hQ .non H' n' .non r1 r2 r3 (Rep.ofS rfl) q
    ·obtain ⟨r1, r2, r3, r4⟩ := I.ended hst z0
     exact hQ v H' n' d r1 r2 r3 (Rep.mono (λa _ z=>r4 a z) (λ_ _ _ e=>e) _ _ I.pop.2) q)
end
abbrev VW(K:W.Frag)(mg:Str->Option Value)(base:Heap):Prop:=∀x∈kO,∀c P,W.tabIn K x=some (c,P)->LamBase base mg c P
def zd2{P:Program}{w:World}{K:W.Frag}{mg mb:Str->Option Value}{CX:CXT}{k:Nat}{fa a:Addr}{fd:FuncData}{x:Str}{sp:Sp}{s₁:Shared}{vs:List Value}{ns:List Int}
  (KX:K.In s₁.heap) (hns:s₁.heap.Ns mainGlobals mg) (hb:s₁.heap.Ns builtinsNs mb) (hbb:∀x:Str,x ≠ "__name__" -> mb x=bootBuiltins x) (hlim:s₁.heap.NoLimit) (hdig:s₁.heap.NoDigits) (hg:s₁.gens=#[])
  (hT:∀x∈kO,∀c P,W.tabIn K x=some (c,P)->W.CodeHd s₁.heap c P/\s₁.heap.get? P=some (W.tabObj #[])) (hu:∀P q q',vZ K P q->vZ K P q'->q=q') (hnt:W.noTabs K=true)
  (hbm:∃bm ob,mg "__builtins__" = some (.ref bm)/\bm≠builtinsNs/\s₁.heap.get? bm=some ob/\ob.cls=.type "module" /\ ob.dict=some builtinsNs/\ob.data=.plain)
  (ha:s₁.heap.get? a=some { cls:=.type "list",data:=.seq vs.toArray }) (hi:IntsAre vs ns) (hl:ns.length<=sizeLine) (hr:Room k callerA)
  (F:∀base:Heap,K.In base->base.Ns mainGlobals mg->base.NoDigits->VW K mg base->FnOk P w K mg base CX k fa fd [x] sp) (hbind:∀(s:Shared) (u:Value),BindsTo s fd ⟨[u],[]⟩ [(x,u)])
  (hsp:∀H:Hp,Wt H->SqL K H a (ns.map V.int)->(∀P q,vZ K P q->H P=some (.cot q))->sp [.ref a] H (λv H'=>v=.bl true/\∀P q,H P=some (.cot q)->H' P=some (.cot q)) λ_ _ _=>False)
  (hCX:∀H e s',CX [] H s₁ (λ_ _ _=>False) e s'->False) :
  codeAny (model P w) callerA (.call (.ref fa) ⟨[.ref a],[]⟩) (λr s'=>r=.ok (.ret (.bool true))/\OldK s₁.heap s'.heap/\s'.os=s₁.os/\AllBare s'.gens) s₁:=by
 classical
 have rv:=WB hi;have lenV:=hi.length;have tabAt:∀{b:Addr},(∃q,vZ K b q)->∃c,W.CodeHd s₁.heap c b/\s₁.heap.get? b=some (W.tabObj #[]):=λ{b} ⟨q,x,hx,c,e,_⟩=>⟨c,hT x hx c b e⟩
 have core:∀H:Hp,(∀b,(H b=none)\/(b=a/\∃o xs,H b=some (.frz o (.lst xs)))\/∃q,vZ K b q/\H b=some (.cot q))->(∀P q,vZ K P q->H P=some (.cot q))->SqL K H a (ns.map V.int)->HOk P w H s₁.heap->(H a≠none->K.lookup a=none) ->
   codeAny (model P w) callerA (.call (.ref fa) ⟨[.ref a],[]⟩) (λr s'=>r=.ok (.ret (.bool true))/\OldK s₁.heap s'.heap/\s'.os=s₁.os/\AllBare s'.gens) s₁:=by
  intro H hO hTH hS hok hK;have base_of:∀{b:Addr}{o:Obj},s₁.heap.get? b=some o->H b=none->(zk3 s₁.heap H).get? b=some o:=λe n=>zr3 e n
  have noA:∀{b:Addr}{o:Obj},s₁.heap.get? b=some o->o.cls≠.type "list" -> o≠W.tabObj #[]->H b=none:=λ{b o} e d1 d2=>by
   rcases hO b with z |⟨rfl,_⟩ |⟨q,t,_⟩
   ·exact z
   ·rw[ha] at e;cases e;exact absurd rfl d1
   ·obtain⟨c,_,e2⟩:=tabAt ⟨q,t⟩;rw[e2] at e;cases e;exact absurd rfl d2
  have noD:∀{b:Addr}{o:Obj}{es:Array DictEntry}{ep:Nat},s₁.heap.get? b=some o->o.data=.dict es ep->H b=none:=λ{b o es ep} e d=>by
   rcases hO b with z |⟨rfl,_⟩ |⟨q,t,_⟩
   ·exact z
   ·rw[ha] at e;cases e;have d':Data.seq vs.toArray _=Data.dict es ep:=d;cases d'
   ·obtain⟨c,_,e2⟩:=tabAt ⟨q,t⟩;rw[e2] at e;cases e;have d':Data.fields #[]=Data.dict es ep:=d;cases d'
  have nsK:∀{b:Addr}{m:Str->Option Value},s₁.heap.Ns b m->(zk3 s₁.heap H).Ns b m:=λ{b m} ⟨o,es,ep,e,d,r⟩=>⟨o,es,ep,base_of e (noD e d),d,r⟩
  have hKb:K.In (zk3 s₁.heap H):=λb o e=>base_of (KX b o e) (by
   rcases hO b with z |⟨rfl,o',xs,z⟩ |⟨q,t,z⟩
   ·exact z
   ·rw[hK (by rw[z];simp)] at e;cases e
   ·obtain ⟨c, _, e2⟩ := tabAt ⟨q, t⟩;rw[KX b o e] at e2;cases e2;have h2:=yg.mp hnt (b,_) (W.mem_of_lookupK e)
    exact absurd (show false=true from h2) zT)
  have hM:Mod K mg (zk3 s₁.heap H):=⟨hKb,nsK hns,⟨mb,nsK hb,hbb⟩,let ⟨mc,h1,h2⟩:=hlim;⟨mc,nsK h1,h2⟩⟩
  have e0:Env0 P w K mg (zk3 s₁.heap H) callerA [] s₁ H:=⟨rfl,hM,λb o e=>zF2 e,yl (zf1 _ _),trivial,λb hb=>absurd (show b∈([]:List Addr) from hb) (by simp),hok,.of_eq hg⟩
  have hLA:VW K mg (zk3 s₁.heap H):=λy hy c Pt e=>by
   obtain⟨⟨o,vs,file,tf,flags,tg,inF,text,tt,e1,r1,r2,r3,r4,r5,r6,r7,r8,hne⟩,_⟩:=hT y hy c Pt e;obtain⟨bm,ob,b1,b2,b3,b4,b5,b6⟩:=hbm
   refine⟨⟨o,vs,file,tf,flags,tg,inF,text,tt,base_of e1 (noA e1 (by rw[r1];decide) (λz=>by rw[z] at r1;cases r1)),r1,r2,r3,r4,r5,r6,r7,r8,hne⟩,bm,ob,b1,b2,base_of b3 (noA b3 (by rw[b4];decide) (λz=>by rw[z] at b4;cases b4)),b4,b5,b6⟩
  have hOC:Wt H:=λb=>by
   rcases hO b with z |⟨_,z⟩ |⟨q,_,z⟩
   ·exact .inl z
   ·exact .inr (.inl z)
   ·exact .inr (.inr ⟨q,z⟩)
  refine codeAny_mono ((F _ hKb (nsK hns) (let ⟨mc,h1,h2⟩:=hdig;⟨mc,nsK h1,h2⟩) hLA).run callerA [] s₁ H ⟨[.ref a],[]⟩ [.ref a] [.ref a] _ _ hr e0 (hbind s₁ (.ref a)) (.cons rfl .nil) (hsp H hOC hS hTH)) λr s' h=>?_
  cases r with
  |error e=>exact(hCX H e s' h).elim
  | ok fl =>
   cases fl with
   |next=>exact False.elim h
   |brk=>exact False.elim h
   |cont=>exact False.elim h
   | ret u =>
    obtain⟨v,H',os,bare,un,hok',r',q,qT⟩:=h;have q':v=.bl true:=q;subst q';obtain rfl:u=Value.bool true:=r'
    have old:∀b o,s₁.heap.get? b=some o->asItWas s₁.heap s'.heap b o:=λb o e=>by
     rcases hO b with z |⟨_,ob,xs,z⟩ |⟨q,t,z⟩
     ·exact .inl (un.keep b o e z (by intro z;exact absurd (show b∈([]:List Addr) from z) (by simp)) (by simp))
     ·have z2:=un.frzs b ob _ z;obtain⟨e1,_⟩:=hok b _ z;obtain⟨e2,_⟩:=hok' b _ z2;rw[e] at e1;cases e1;exact .inl e2
     ·obtain ⟨c, hc, e2⟩ := tabAt ⟨q, t⟩;obtain⟨ps,e3,_⟩:=hok' b _ (qT b q z);have e4:=e2;rw[e] at e4;cases e4
      exact .inr (.inl ⟨(hc.tab e2).isCodeTable,rfl,#[],ps,rfl,by rw[Array.empty_append];exact e3⟩)
    refine⟨rfl,⟨old,λb o e=>?_⟩,os,bare⟩
    exact un.there b o e (by simp)
 have ta:∀q,¬ vZ K a q:=λq t=>by
  obtain⟨c,_,e2⟩:=tabAt ⟨q,t⟩;rw[ha] at e2;cases e2
 let HT:Hp:=λb=>if h:∃q,vZ K b q then some (.cot h.choose) else none
 have HTpos:∀b q,vZ K b q->HT b=some (.cot q):=λb q t=>by
  have h:∃q,vZ K b q:=⟨q,t⟩
  show(if h:∃q,vZ K b q then some (HO.cot h.choose) else none)=_
  rw[dif_pos h,hu b _ q h.choose_spec t]
 have HTany:∀b,HT b=none\/∃q,vZ K b q/\HT b=some (.cot q):=λb=>by
  by_cases h:∃q,vZ K b q
  ·obtain⟨q,t⟩:=h;exact .inr ⟨q,t,HTpos b q t⟩
  ·exact .inl (dif_neg h)
 have HTa:HT a=none:=by
  rcases HTany a with z |⟨q,t,_⟩
  ·exact z
  ·exact absurd t (ta q)
 have HTok:∀b u,HT b=some u->∃q,u=.cot q/\s₁.heap.get? b=some (W.tabObj #[]):=λb u e=>by
  rcases HTany b with z |⟨q,t,z⟩
  ·rw[e] at z;cases z
  ·rw[e] at z;cases z;obtain⟨c,_,e2⟩:=tabAt ⟨q,t⟩;exact⟨q,rfl,e2⟩
 cases hk:K.lookup a with
 | some o =>
  have e:=KX a o hk;rw[ha] at e;cases e
  refine core HT (λb=>?_) HTpos (.inr ⟨_,vs.toArray,_,hk,rfl,rfl,rfl,by rw[zJ,lenV];exact hl,by simpa using rv⟩) (λb u z=>?_) λz=>absurd HTa z
  ·rcases HTany b with z | z
   ·exact .inl z
   ·exact .inr (.inr z)
  ·obtain⟨q,rfl,e⟩:=HTok b u z;exact⟨#[],e,.nil⟩
 | none =>
  refine core (upd HT a (.frz { cls:=.type "list",data:=.seq vs.toArray } (.lst (ns.map V.int)))) (λb=>?_) (λb q t=>?_) (.inl (.inr ⟨{ cls:=.type "list",data:=.seq vs.toArray },yd⟩)) (λb u z=>?_) λ_=>hk
  ·by_cases hb : b = a
   ·subst hb;exact .inr (.inl ⟨rfl,_,_,yd⟩)
   ·rw [xS hb]
    rcases HTany b with z |z
    ·exact .inl z
    ·exact .inr (.inr z)
  ·rw[xS (fun(z:b=a)=>ta q (by rw[<- z];exact t))];exact HTpos b q t
  ·by_cases hb : b = a
   ·subst hb;rw[yd] at z;cases z
    exact⟨ha,by rw[zm];exact hl,vs,_,rv,ha⟩
   ·rw[xS hb] at z;obtain⟨q,rfl,e⟩:=HTok b u z;exact⟨#[],e,.nil⟩
def zk6{l:W.OpenLaw}{n k:Nat}{q:Program}{loose:List Str}{XP:(Str->Option Value)->Heap->Prop}{YP:World->Heap->Prop}{d:DefRec}{K:Params->W.Frag}{CX:World->CXT}{sp:World->Sp}{x:Str}
  (hn:l.most=some n) (hn2:n<=sizeLine) (hdf:d.params.defaults=[]) (hr:Room k callerA)
  (hY:∀(w:World) (h:Heap),YP w h->(K w.params).In h)
  (hrec:∀(w:World),∀y∈kO,∀c P,W.tabIn (K w.params) y=some (c,P)->∃d,(recsOf q).find? (λe=>e.name == y)=some d) (hu:∀(w:World) P q q',vZ (K w.params) P q->vZ (K w.params) P q'->q=q') (hnt:∀w:World,W.noTabs (K w.params)=true)
  (F : ∀ (w : World) (mg : Str -> Option Value) (fa : Addr) (h : Heap), (K w.params).In h -> h.Ns mainGlobals mg -> mg d.name = some (.ref fa) ->
   ∃fd:FuncData,(∀(s:Shared) (u:Value),BindsTo s fd ⟨[u],[]⟩ [(x,u)]) /\
    ∀base:Heap,(K w.params).In base->base.Ns mainGlobals mg->base.NoDigits->VW (K w.params) mg base->FnOk l.prog w (K w.params) mg base (CX w) k fa fd [x] (sp w))
  (hsp:∀(w:World) (H:Hp) (a:Addr) (ns:List Int),ns.length<=n->Wt H->SqL (K w.params) H a (ns.map V.int)->(∀P q,vZ (K w.params) P q->H P=some (.cot q))->sp w [.ref a] H (λv H'=>v=.bl true/\∀P q,H P=some (.cot q)->H' P=some (.cot q)) λ_ _ _=>False)
  (hCX:∀(w:World) (H:Hp) (s:Shared) (e:Value) (s':Shared),CX w [] H s (λ_ _ _=>False) e s'->False) :
  W.WalkO q loose XP YP l.row.toRowW d [] (λf vs=>PySem.call f vs):=by
 refine Att.attach_call hn hdf λw s₀ s₁ mg mb fa o pm cd doc a vs ns G Y ho hd hcd hmg hobj hints hlen hg=>?_;have KX:=hY w _ Y;obtain⟨fd,hb,hF⟩:=F w mg fa _ KX G.T.g hmg
 exact zd2 KX G.T.g G.T.b G.T.builtins G.T.nolimit G.T.nodigits hg (λy hy c P e=>let ⟨d,hr⟩:=hrec w y hy c P e;W.tab_of G.T KX hr e) (hu w) (hnt w) G.T.bmain hobj hints (zF hlen hn2) hr hF hb (λH hO hS hT=>hsp w H a ns hlen hO hS hT) λH e s'=>hCX w H s₁ e s'
def zw2(N:List Str)(p:Str)(sc:Scope):Bool:=
 ((sc.kind == .function&&(!sc.isCoroutine&&!sc.isGenerator))&&sc.names.all (λz=>z.2 != .cell&&(z.2 != .free||(N.drop 1).contains z.1)))&&((N[0]? == some p&&sc.names.lookup p == some .local)&&(N.drop 1).all (λx=>sc.names.lookup x == some .free))
def KN{N:List Str}{p:Str}{sc:Scope}{clos:List (Str × Addr)}(h:zw2 N p sc=true)(hc:∀x∈N.drop 1,∃c,clos.lookup x=some c):LamScope N p sc clos:=by
 unfold zw2 at h;simp only[xg,Bool.or_eq_true,yg,beq_iff_eq,bne_iff_ne,Bool.not_eq_true',List.contains_iff_mem] at h;obtain⟨⟨⟨h1,h2,h3⟩,h4⟩,⟨h5,h6⟩,h7⟩:=h;refine⟨h1,h2,h3,λx hx=>(h4 x hx).1,h5,h6,λx hx=>?_,λi x e=>?_⟩
 ·rcases (h4 _ (PySem.mem_of_lookup hx)).2 with z | z
  ·exact absurd rfl z
  ·exact hc x z
 ·refine h7 x ?_
  exact wg (l:=N.drop 1) (i:=i) (by rw[xV];rw[Nat.add_comm];exact e)
def Caps.one{X:Cx}{p y:Str}{a:Addr}{j:Nat}(hk:X.env.kindOf y=some .cell)(hj:X.N[j]?=some y)(hc:X.env.cells.lookup y=some a):Caps X [p,y] [(y,a)] [j]:=by
 refine⟨rfl,λi x e=>?_,λx c e=>?_,λi x e=>?_⟩
 ·cases i with
  |zero=>cases e;exact⟨hk,j,rfl,hj⟩
  |succ i=>simp at e
 ·rw [xu] at e
  split at e
  ·rename_i h;cases e;rw[eq_of_beq h];exact hc
  ·cases e
 ·cases i with
  |zero=>cases e;exact⟨a,by rw[xu,beq_self_eq_true]⟩
  |succ i=>simp at e
def Jn{p y:Str}{a:Addr}:∀x∈[p,y].drop 1,∃c,[(y,a)].lookup x=some c:=λx hx=>by
 have e:x=y:=by simpa using hx
 subst e
 exact⟨a,by rw[xu,beq_self_eq_true]⟩
def zL1{K:W.Frag}{x:Str}{f c P:Addr}{o1 p1:Value}{o2 p2:Option Addr}{o4 p4:Array (Option Value)}{fd:FuncData}{vv:Array Value}(a:W.nsIn K mainGlobals x=some (some (.ref f)))(l:K.lookup f=some ⟨o1,o2,.func fd,o4⟩)(le:fd.code=.ref c)(lc:K.lookup c=some ⟨p1,p2,.fields vv,p4⟩)(lp:vv[11]?=some (.ref P)) :
  W.tabIn K x=some (c,P):=by
 unfold W.tabIn;rw[a];simp only[l,le,lc,lp]
def zy7(K:W.Frag)(P:Addr)(q q':Str)(h:vZ K P q)(h':vZ K P q'):q=q':=by
 obtain⟨x,hx,c,_,rfl⟩:=h;obtain⟨y,hy,c',_,rfl⟩:=h'
 have e1:x = "_law_turn_right" := by simpa [kO] using hx
 have e2:y = "_law_turn_right" := by simpa [kO] using hy
 rw[e1,e2]
structure FnDone(P:Program)(w:World)(K:W.Frag)(mg:Str->Option Value)(base:Heap)(x:Str)(kd kk:Nat)(okC:Addr->Prop)(word:Addr->Str):Prop where
 ex:∃(f:Addr) (fd:FuncData) (ps:List Str),FnOkS P w K mg base CX0 kd f fd ps (Ks P w K mg base (kk+1) okC word)/\mg x=some (.ref f)/\W.keepIn K (.ref f)=true/\Binds K fd ps []
section
variable {A:AC}{X:Cx}{g y q p x m:Str}{c P C CE:Addr}{kd kk j j2:Nat}{params:Arguments}{scope:Scope}{clos:List (Str × Addr)}{pos lpos np yp bp ap xp pp:Pos}{t:TFX}{okC:Addr->Prop}{word:Addr->Str}
def Yt(F:FnDone X.prog X.w X.K X.mg X.base g kd kk okC word)(M:MthX X.prog X.w X.K X.mg X.base C m kk 1 CE t)(hr:Room kd X.A)(hK:X.K=A.K)
  (hj2:X.N[j2]?=some y) (hy:Vis X.env.scope y) (ti:vZ X.K P q) (L:LamBase X.base X.mg c P) (S:LamScope [p,x] p scope clos) (Cp:Caps X [p,x] clos [j])
  (hvp:scope.names.lookup p=some .local) (hvx:scope.names.lookup x=some .free)
  (hms : ∀ (s : Shared) (f c' : Addr) (env : Env), env = W.envX q scope s.heap.objs.size f (.ref c') clos -> starEach [.Name p pp] env = (false, eval (.Name p pp) env) :: starEach [] env /\ (backTo bp (starEach [] env)).any (·.1) = false /\ ∃ pl, eval (.Call (.Attribute (.Name x xp) m ap) [.Name p pp] [] bp) env = (do
   let ov <- eval (.Name x xp) env
   standAt ap.atName
   let (f,first) <- holding [ov] (getMethod ov m pl)
   callWith bp f first (backTo bp (starEach [.Name p pp] env)) (backToKw bp (keywordEach [] env))))
  (hq:X.env.qual ++ "<lambda>" = q:=by rfl) (hc:X.env.code=.ref c:=by rfl) (hcl:closureFor scope X.env=pure clos:=by rfl) (hdef:defaultsOf params X.env=([],[]):=by rfl)
  (hb:∀(u pm ctv:Value) (c':Addr),bindArgs (W.kla_fn "<lambda>" q params (.Call (.Attribute (.Name x xp) m ap) [.Name p pp] [] bp) scope clos pm (.ref c') ctv) ⟨[u],[]⟩=pure [(p,u)]:=by intros;rfl)
  (hst:X.stack=X.env::X.outer:=by rfl) (hfr:X.env.frame=some X.env.locals:=by rfl) (hg:Gl X g:=by rfl)
  (hdb:(g == ("__debug__" : Str))=false:=by decide) (hdy:(y == ("__debug__" : Str))=false:=by decide) (hcy:(y == ("__classdict__" : Str))=false:=by decide) (hdp:(p == ("__debug__" : Str))=false:=by decide) (hcp:(p == ("__classdict__" : Str))=false:=by decide) (hdx:(x == ("__debug__" : Str))=false:=by decide) (hcx:(x == ("__classdict__" : Str))=false:=by decide)
  (he:starEach [.Lambda params (.Call (.Attribute (.Name x xp) m ap) [.Name p pp] [] bp) scope lpos,.Name y yp] X.env=(false,eval (.Lambda params (.Call (.Attribute (.Name x xp) m ap) [.Name p pp] [] bp) scope lpos) X.env)::starEach [.Name y yp] X.env:=by rfl) (he2:starEach [.Name y yp] X.env=(false,eval (.Name y yp) X.env)::starEach [] X.env:=by rfl) (hpl:(backTo pos (starEach [.Name y yp] X.env)).any (·.1)=false:=by rfl) :
  PD A X (.Call (.Name g np) [.Lambda params (.Call (.Attribute (.Name x xp) m ap) [.Name p pp] [] bp) scope lpos,.Name y yp] [] pos) (Wo j j2 C CE m t okC word):=by
 obtain⟨fdn,fdD,psD,F,hm,hk,hbd⟩:=F.ex;exact JE F M hr hK hm hk hbd hj2 hy ti L S Cp hvp hvx hms hq hc hcl hdef hb hst hfr hg hdb hdy hcy hdp hcp hdx hcx he he2 hpl
end
def Fun.okSD{P:Program}{w:World}{K:W.Frag}{mg:Str->Option Value}{base:Heap}{x qual:Str}{st:Stmt}{f:Addr}{fd:FuncData}{N ps:List Str}{k:Nat}{sp:SpS}(F:Fun K x qual st f fd)(S:FnScope N ps (zV st))(len:∀outer s vs H Q E,sp outer s vs H Q E->vs.length=ps.length)
  (body : ∀ (cdv : Value) (A0 : Around) (outer : List Env) (s : Shared) (H : Hp) (vs : List V) (Q : VK) (E : XK), Room k (A0.deeper (envOfC qual (zV st) s.heap.objs.size f cdv)) -> sp outer s vs H Q E ->
   ∃(G:Option Addr) (Z:Addr->Prop) (n:Nat) (ds:List D) (tb:TSD) (R:D->Nat->Prop),Reps K G Z H ds vs/\StOk K Z Z G n H/\(∀a,G=some a->Z a)/\ZOk K G Z H/\VZ ⟨K,G,Z,ZW n H⟩ (Wy CX0 P w K mg base N qual (zV st) f cdv A0 outer s H E).nox (yM st) tb/\tb { nx:=λ_ n=>R .non n,rt:=R } (wx N ds) n /\
   ∀v H' n' d,(∀a o,G≠some a->xb n a=none->H a=some o->H' a=some o)->StOk K (jz Z n') (jz Z n') G n' H'->Grown n n' H->Rep K G (jz Z n') H' d v->R d n'->Q v H'):FnOkS P w K mg base CX0 (k+1) f fd ps sp:=by
 exists (by
   refine Fun.okS F S len λcdv A0 outer s H vs Q E hr h=>?_;obtain⟨G,Z,n,ds,tb,R,rs,hst,gz,z0,b,ht,hQ⟩:=body cdv A0 outer s H vs Q E hr h;refine⟨_,PSs.nox b,wx N ds,n,_,[],[],⟨[],qa rs hst gz z0⟩,ht,?_⟩;refine⟨λrho' n' sg' H' ⟨os,I⟩ q=>?_,λd n' v rho' sg' H' ⟨os,I⟩ q=>?_,λ_ _ _ _ _ q=>q.elim,λ_ _ _ _ _ q=>q.elim⟩
   ·obtain⟨r1,r2,r3,_⟩:=I.ended hst z0;exact hQ .non H' n' .non r1 r2 r3 (Rep.ofS rfl) q
   ·obtain ⟨r1, r2, r3, r4⟩ := I.ended hst z0
    exact hQ v H' n' d r1 r2 r3 (Rep.mono (λa _ z=>r4 a z) (λ_ _ _ e=>e) _ _ I.pop.2) q)
end L2
open L2
namespace K54
abbrev qZ0:List Str:=["self"]
abbrev qZ1:List Str:=["house"]
abbrev qZ2:List Str:=["_law_script","_law_k"]
abbrev qZ3:List Str:=["self","rank"]
abbrev qZ4:List Str:=["by_name","names","i"]
abbrev qZ5:List Str:=["by_name","names"]
abbrev qZ6:List Str:=["d","by_name","names","i"]
abbrev qZ7:List Str:=["self","d","things"]
abbrev qZ8:List Str:=["self","rank","things"]
abbrev qZ9:List Str:=["_law_left_here","_law_some"]
abbrev xg1:List Str:=["_law_left_here","_law_name","_law_d","_law_near"]
abbrev xg0:List Str:=["_law_left_here","_law_kept","_law_those","_law_d"]
def top(i:Nat):Stmt:=PySem.Challenge.pw_boxlayers_k54_comings_refused.main.body.getD i (.Pass ⟨0,0,0,0⟩)
def zX9:Option Int->D
 |none=>.non
 |some i=>.int i
def yO(p:List Int):D:=.tup (p.map D.int)
section
variable {P:Program}{w:World}{K:W.Frag}{mg:Str->Option Value}{base:Heap}{f:Addr}{fd:FuncData}
end
def xs6{es:List D}{k:Int}{R:D->Prop}(h0:0<=k)(h1:k<es.length)(h:∀d∈es,R d):zK0 (.lst es) (.int k) R:=by
 obtain⟨d,e,m⟩:=zy0 h0 h1;exact zA9.mpr ⟨d,e,h d m⟩
def Uo(c:Nat):(Qn 0 c).length=c:=by unfold Qn;rw[zm,List.length_range]
def zu5{c i:Nat}{d:D}(h:(Qn 0 c)[i]?=some d):i<c/\d=.int (i:Int):=by
 have hi:i<c:=by have:=(zN.mp h).1;rw[Uo] at this;exact this
 refine⟨hi,?_⟩;unfold Qn at h;rw[zE,List.getElem?_range hi] at h;have:=zy h;rw[<- this];simp
def zh8{own:Nat}{g:TGD}{te:TD}{rho:Rho}{P:D->Nat->Prop}(items:List D)(n1:Nat)(Good:D->D->Prop)(hz:items.length<=sizeLine)
  (he:∀(i:Nat) (d:D),items[i]?=some d->∀Q:D->Nat->Prop,(∀e,Good d e->Q e n1)->g d (replicate own none++rho) λrho'=>rho'.drop own=rho/\te rho' n1 Q)
  (hP:∀es,Paired Good items es->P (.lst es) n1):VM own g zK7 te rho P items n1:=by
 refine⟨hz,λi acc n=>Paired Good (items.take i) acc/\n=n1,⟨.nil,rfl⟩,?_,?_⟩
 ·rintro i d acc n e ⟨h1,rfl⟩;refine he i d e (λe n3=>Paired Good (items.take (i+1)) (acc++[e])/\n3=n) λc hg=>⟨?_,rfl⟩;rw[xx,e];exact Paired.snoc h1 hg
 ·rintro acc n ⟨h1,rfl⟩;rw[wA] at h1;exact hP acc h1
section
variable {P:Program}{w:World}{K:W.Frag}{mg:Str->Option Value}{base:Heap}{f:Addr}{fd:FuncData}
abbrev kJ:Stmt:=top 54
abbrev Xl:List Str:=["_law_script","_law_k"]
def Yg:FnScope Xl qZ2 (zV kJ):=⟨rfl,rfl,rfl,w5,rfl,w5,w5⟩
def Yc:TF:=λds n Q=>∃(ns:List Int) (j:Int),ds=[yD ns,.int j]/\0<=j/\∀x:Int,Q (.int x) n
def JJ(T:Blt mg)(F:Fun K "_law_cell_at" "_law_cell_at" kJ f fd):FnOk P w K mg base CX0 1 f fd qZ2 (spD K 2 Yc):=by
 refine Fun.okD F Yg (λcdv A0 outer s H E G Z _ hr=>(xa (kz (qk xg8 xa2 (zn 1) (wU yc qy T.len qz (ze (zn 0) zL)) (vV _)) (xj (wu (Zk kW Zg (zn 0) (zn 1) (λ_ _=>rfl)))) yY)
  (xj (wu xC)))) ?_
 rintro ds n Q hl ⟨ns,j,rfl,hj,q⟩;simp[wx,yD]
 split
 ·rename_i h
  obtain⟨d,e,m⟩:=zy0 (xs:=ns.map D.int) hj (by simpa using h)
  obtain⟨x,_,rfl⟩:=zD.mp m;exact⟨_,e,q x⟩
 ·exact q 0
abbrev ji:Stmt:=top 55
abbrev Kh:List Str:=["_law_script","_law_k","_law_cell","_law_seed"]
def qB:FnScope Kh qZ2 (zV ji):=⟨rfl,rfl,rfl,w5,rfl,w5,w5⟩
def QE:TF:=λds n Q=>∃(ns:List Int) (j:Int),ds=[yD ns,.int j]/\ns.length<=63/\0<=j/\j<1000/\∀x y:Int,0<=x->0<=y->y<2147483647->Q (.lst [.int x,.int y]) n
def zE8(T:Blt mg)(ND:base.NoDigits)(F:Fun K "_law_left" "_law_left" ji f fd)(Y_cell_at:Fn P w K mg base "_law_cell_at" 1 2 Yc):FnOk P w K mg base CX0 2 f fd qZ2 (spD K 2 QE):=by
 refine Fun.okD F qB (λcdv A0 outer s H E G Z _ hr=>(xa (yw (i:=2) qB.nd rfl (lo rfl) (vb Y_cell_at (hr.mono q9) rfl (ze (zn 0) (ze (jS (zn 1) (wU (VP rfl) zh6 T.max zj3 (ze xC (ze (wU yc qy T.len qz (ze (zn 0) zL)) zL)))) zL))))
  (xa (yw (i:=3) qB.nd rfl (lo rfl) (jS (Ys (Yw (Yw (jS (zn 2) xC) (Ys (Ys xC (zn 1)) (zn 1))) xC) xC) xC))
  (xj (wu (ZE (ze (jS (Ys (wU Jp zx5 T.abs zx9 (ze (zn 2) zL)) (yS zj2 zI6 T.int zx8 (ze (Yv xg9 xa3 (wU Jp zx5 T.abs zx9 (ze (zn 2) zL)) (Vg xC xC) (vV _)) zL))) (yS (Wp ND) zI5 T.int zx8 (ze (Yr JG zA2 qx (Yr zD8 zz8 qx xC)) zL))) (ze (zn 3) zL)))))))) ?_
 rintro ds n Q hl ⟨ns,j,rfl,hns,hj0,hj1,q⟩;have cm:∀{i j:Int},(-(2^64)<i/\i<2^64)->CMul i j:=λh=>.inl h;have cm':∀{i j:Int},(-(2^64)<j/\j<2^64)->CMul i j:=λh=>.inr h
 obtain⟨big,hb0,hb1,hb2,hb3⟩:=UL 2000 q9 q9
 have hlen:(Str.ofString "1").length+(Txt.mul (Str.ofString "0") 2000).length<=sizeLine:=by
  have ec:=YU 2000 q9
  have e1:(Str.ofString "1").length=1:=w5
  have e2:(Str.ofString "1" ++ Txt.mul (Str.ofString "0") 2000).cps.toList.length=(Str.ofString "1").cps.toList.length+(Txt.mul (Str.ofString "0") 2000).cps.toList.length:=by
   rw[<- zA,<- zS];rfl
  rw[ec,zt,wc] at e2;have e3:∀x:Str,x.cps.toList.length=x.length:=λx=>zf;rw[e3,e3] at e2;rw[sizeLine_eq];lia
 simp[wx,yD]
 refine⟨by split<;>lia,ns,_,rfl,yv _ (by split<;>lia),λx=>?_⟩
 have h7:0<=7919*j*j:=Int.mul_nonneg q5 hj0
 have h8:7919*j*j<=7919*j*1000:=Int.mul_le_mul_of_nonneg_left q5 q5
 simp
 refine⟨cm ⟨q9,q9⟩,cm ⟨q5,q5⟩,cm' ⟨q9,q9⟩,⟨q9,q9,q9⟩,cm' ⟨by(repeat' split)<;>decide,by(repeat' split)<;>decide⟩,Vq 2000 q9 q9,hlen,?_⟩
 refine⟨_,big,rfl,hb1,hb2,hb3,?_⟩;simp
 exact⟨hb0,q _ _ (yv _ q5) (yv _ q9) (Int.emod_lt_of_pos _ q9)⟩
abbrev jh:Stmt:=top 56
abbrev Kg:List Str:=["_law_left_here","_law_many","_law_digit"]
def Zz:FnScope Kg ["_law_left_here","_law_many"] (zV jh):=⟨rfl,rfl,rfl,w5,rfl,w5,w5⟩
def Zy:TF:=λds n Q=>∃m:Int,ds=[.st,.int m]/\kOf n=2/\0<m/\m<10000000/\∀k:Int,0<=k->k<m->Q (.int k) n
def zE6(F:Fun K "_law_pick" "_law_pick" jh f fd):FnOk P w K mg base CX0 1 f fd ["_law_left_here","_law_many"] (spD K 2 Zy):=by
 refine Fun.okD F Zz (λcdv A0 outer s H E G Z _ hr=>(xa (kz (qk zD9 zz9 (Zj (i:=0) xC (λ_ _=>rfl)) xC (vV _)) (xa (yw (i:=2) Zz.nd rfl (lo rfl) (jS (Zj (i:=0) xC (λ_ _=>rfl)) (zn 1)))
  (xa (WX (i:=0) (zv5 (Zj (i:=0) xC (λ_ _=>rfl)) (zn 1)) xC)
  (xj (wu (zn 2))))) yY)
  (xa (WX (i:=0) (jS (Yw (Ys (Zj (i:=0) xC (λ_ _=>rfl)) xC) xC) xC) xC)
  (xj (wu (jS (jS (Ys (Zj (i:=0) xC (λ_ _=>rfl)) (Zj (i:=0) xC (λ_ _=>rfl))) xC) (zn 1))))))) ?_
 rintro ds n Q hl ⟨m,rfl,hn,hm,hm2,q⟩;have cm:∀{i j:Int},(-(2^64)<i/\i<2^64)->CMul i j:=λh=>.inl h;simp[wx,hn];intro z0 h0
 split
 ·intro z hz
  exact⟨hm,λz1 hz1=>⟨⟨hm,q5⟩,Int.ediv_nonneg hz1 q5,q _ (yv _ q5) (Int.emod_lt_of_pos _ hm)⟩⟩
 ·intro z hz hz2
  exact⟨cm ⟨q5,q5⟩,yv _ q9,Int.emod_lt_of_pos _ q9,λy hy hy2 z1 h1 h1'=>⟨cm ⟨q5,q5⟩,hm,q _ (yv _ q5) (Int.emod_lt_of_pos _ hm)⟩⟩
def yW{m:Int}{n:Nat}{Q:D->Nat->Prop}(hn:kOf n=2)(h0:0<m)(h1:m<10000000)(h:∀k:Int,0<=k->k<m->Q (.int k) n):Zy [.st,.int m] n Q:=⟨m,rfl,hn,h0,h1,h⟩
end
abbrev Thing:=Int × List Int × Int
def zZ(t:Thing):D:=.tup [.int t.1,yO t.2.1,.int t.2.2]
abbrev zJ6:=Option Int × Option Int
def UN(p:zJ6):D:=.tup [zX9 p.1,zX9 p.2]
def vY(ps:List zJ6):D:=.tup (ps.map UN)
@[simp] theorem zU6:zX9 none=.non:=rfl
@[simp] theorem zU5{i:Int}:zX9 (some i)=.int i:=rfl
def zk5(qs:List (List Int))(i:Nat):List Int:=qs.map λq=>q[i]?.getD 0
def zl8(m:Nat):Qn 0 m=(List.range m).map λi=>.int (i:Int):=by unfold Qn;simp
open Classical in
noncomputable def zF8(ns:List Int):Int:=if h:∃M,M∈ns/\∀a∈ns,M<=a then choose h else 0
open Classical in
noncomputable def zG1(ns:List Int):Int:=if h:∃M,M∈ns/\∀a∈ns,a<=M then choose h else 0
def zc5{ns:List Int}(h:∃M,M∈ns/\∀a∈ns,M<=a):zF8 ns∈ns/\∀a∈ns,zF8 ns<=a:=by unfold zF8;rw[dif_pos h];exact Classical.choose_spec h
def zc8{ns:List Int}(h:∃M,M∈ns/\∀a∈ns,a<=M):zG1 ns∈ns/\∀a∈ns,a<=zG1 ns:=by unfold zG1;rw[dif_pos h];exact Classical.choose_spec h
def zF7{ns:List Int}{M:Int}(h1:M∈ns)(h2:∀a∈ns,M<=a):M=zF8 ns:=by
 obtain⟨h3,h4⟩:=zc5 ⟨M,h1,h2⟩;have:=h2 _ h3;have:=h4 _ h1;lia
def zG0{ns:List Int}{M:Int}(h1:M∈ns)(h2:∀a∈ns,a<=M):M=zG1 ns:=by
 obtain⟨h3,h4⟩:=zc8 ⟨M,h1,h2⟩;have:=h2 _ h3;have:=h4 _ h1;lia
def JU{ns:List Int}{k:D->Prop}(h:0<ns.length)(q:k (.int (zF8 ns))):zS9 [.lst (ns.map D.int)] k:=⟨ns,rfl,h,λM h1 h2=>by rw[zF7 h1 h2];exact q⟩
def JV{ns:List Int}{k:D->Prop}(h:0<ns.length)(q:k (.int (zG1 ns))):zT1 [.lst (ns.map D.int)] k:=⟨ns,rfl,h,λM h1 h2=>by rw[zG0 h1 h2];exact q⟩
theorem vX{α:Type}{lt:α->α->Prop}(irr:∀a,¬ lt a a)(tr:∀a b c,lt a b->lt b c->lt a c):∀{l1 l2:List α},l1.Perm l2->l1.Pairwise lt->l2.Pairwise lt->l1=l2
 |[],l2,p,_,_=>(List.nil_perm.mp p).symm
 |a::l1,[],p,_,_=>by simp at p
 | a :: l1, b :: l2, p, h1, h2 => by
  have ha:a∈b::l2:=p.mem_iff.mp (zo ..);have hb:b∈a::l1:=p.mem_iff.mpr (zo ..)
  have e:a=b:=by
   rcases zd.mp ha with h |h
   ·exact h
   ·rcases zd.mp hb with h' | h'
    ·exact h'.symm
    ·exact absurd (tr _ _ _ ((wS.mp h1).1 b h') ((wS.mp h2).1 a h)) (irr a)
  subst e;rw[vX irr tr (List.perm_cons _ |>.mp p) (wS.mp h1).2 (wS.mp h2).2]
def rot(i:Nat)(p:List Int):List Int:=p.drop i++p.take i
def Um(i:Nat)(t:Thing):SRow:=⟨.t (rot i t.2.1),t.1,[]⟩
def Jk(xs:List D)(b:Nat)(hb:b<=xs.length):Qp xs (some (b:Int)) none=xs.drop b:=by
 unfold Qp
 rw[HT.QS,HT.Ku,Nat.min_eq_left hb,yj (by rw[wB];lia)]
def zx4(xs:List D)(e:Nat)(he:e<=xs.length):Qp xs none (some (e:Int))=xs.take e:=by
 unfold Qp;rw[HT.QS,HT.Ku,Nat.min_eq_left he,yH,Nat.sub_zero]
def jQ{α β:Type}{f:α->β}:∀{l:List β}{ts:List α},l.Perm (ts.map f)->∃rs:List α,rs.Perm ts/\l=rs.map f:=by
 intro l ts h;generalize hm:ts.map f=m at h
 induction h generalizing ts with
 |nil=>
  cases ts with
  |nil=>exact⟨[],.nil,rfl⟩
  |cons _ _=>simp at hm
 | cons x p ih =>
  cases ts with
  |nil=>simp at hm
  |cons a ts=>
   obtain⟨e1,e2⟩:=List.cons.inj hm;obtain⟨rs,h1,rfl⟩:=ih e2
   exact⟨a::rs,h1.cons a,by rw[<- e1];rfl⟩
 | swap x y l =>
  cases ts with
  |nil=>simp at hm
  | cons a ts =>
   cases ts with
   |nil=>simp at hm
   |cons b ts=>
    obtain⟨e1,e2⟩:=List.cons.inj hm;obtain⟨e3,e4⟩:=List.cons.inj e2
    exact⟨b::a::ts,.swap a b ts,by rw[<- e1,<- e3,<- e4];rfl⟩
 |trans p q ih1 ih2=>
  obtain⟨r2,h2,rfl⟩:=ih2 hm;obtain⟨r1,h1,rfl⟩:=ih1 rfl;exact⟨r1,h1.trans h2,rfl⟩
structure OrdT(i:Nat)(ts rs:List Thing):Prop where
 perm:rs.Perm ts
 up:rs.Pairwise λa b=>(Um i a).lt (Um i b)=true
structure GoodU(d:Nat)(ts:List Thing):Prop where
 each:∀t∈ts,t.2.1.length=d
 nd:(ts.map λt=>t.1).Nodup
def GoodU.perm{d:Nat}{ts rs:List Thing}(h:GoodU d ts)(p:rs.Perm ts):GoodU d rs:=⟨λt ht=>h.each t (p.mem_iff.mp ht),(p.map _).nodup_iff.mpr h.nd⟩
def GoodU.sub{d:Nat}{ts rs:List Thing}(h:GoodU d ts)(p:rs.Sublist ts):GoodU d rs:=⟨λt ht=>h.each t (p.mem ht),(p.map _).nodup h.nd⟩
def kA(t:Thing):Key:=Sum.inl t.1
def byN(ts:List Thing):D:=.dct (ts.map kA) (ts.map zZ)
@[simp] theorem xm7(ts:List Thing):yr (byN ts)=true:=id rfl
theorem Zr:∀{ts:List Thing}{x:Int},x ∉ ts.map (λt=>t.1)->zr4 (ts.map kA) (Sum.inl x)=false
 |[],x,_=>rfl
 |t::ts,x,h=>by
  have h1:¬ t.1=x:=λe=>h (by simp[e])
  have ih:=Zr (ts:=ts) (x:=x) λz=>h (zc _ z);show(decide (kA t=Sum.inl x)||zr4 (ts.map kA) (Sum.inl x))=false;rw[ih,Bool.or_false];exact zW λe=>h1 (Sum.inl.inj e)
theorem YW:∀{ts:List Thing}{t:Thing},t∈ts->(ts.map λt=>t.1).Nodup->atK (ts.map kA) (ts.map zZ) (Sum.inl t.1)=some (zZ t)
 |[],t,h,_=>by simp at h
 | s :: ts, t, h, hn => by
  have hn':=xo.mp hn
  show(if kA s=Sum.inl t.1 then some (zZ s) else atK (ts.map kA) (ts.map zZ) (Sum.inl t.1))=_
  rcases zd.mp h with rfl |h
  ·exact if_pos rfl
  ·have : ¬ kA s = Sum.inl t.1 := λe => by
    have e':s.1=t.1:=Sum.inl.inj e;exact hn'.1 (zD.mpr ⟨t,h,e'.symm⟩)
   rw[if_neg this];exact YW h hn'.2
def kS(ts:List Thing):D:=.tup (ts.map λt=>.int t.1)
@[simp] theorem zR6(ts:List Thing):yr (kS ts)=true:=id rfl
@[simp] theorem zR5(ps:List zJ6):yr (vY ps)=true:=id rfl
@[simp] theorem zR4(p:List Int):yr (yO p)=true:=id rfl
@[simp] theorem zR3(t:Thing):yr (zZ t)=true:=id rfl
noncomputable def zK6(d:Nat)(qs:List (List Int)):List zJ6:=(List.range d).map λi=>(some (zF8 (zk5 qs i)),some (zG1 (zk5 qs i)))
inductive Tr where
 |one (name:Int) (bd:List zJ6)
 |two (ns:List Int) (bd:List zJ6) (low high:Tr)
def Xk:Tr->D
 |.one x bd=>.tup [.tup [.int x],vY bd,.non,.non]
 |.two ns bd l h=>.tup [.tup (ns.map D.int),vY bd,Xk l,Xk h]
inductive Turned(d:Nat):Nat->List Thing->Tr->Prop where
  |one {i:Nat}{t:Thing}:Turned d i [t] (.one t.1 (zK6 d [t.2.1]))
  |two {i:Nat}{ts rs:List Thing}{ns:List Int}{low high:Tr}:2<=ts.length->ns.Perm (ts.map λt=>t.1)->ns.Pairwise (·<=·)->OrdT i ts rs->Turned d ((i+1)%d) (rs.take ((ts.length+1)/2)) low->Turned d ((i+1)%d) (rs.drop ((ts.length+1)/2)) high ->
      Turned d i ts (.two ns (zK6 d (ts.map λt=>t.2.1)) low high)
section
variable {P:Program}{w:World}{K:W.Frag}{mg:Str->Option Value}{base:Heap}{f:Addr}{fd:FuncData}
abbrev vL:Stmt:=top 25
abbrev vT:List Str:=["house"]
def Za:FnScope vT qZ1 (zV vL):=⟨rfl,rfl,rfl,w5,rfl,w5,w5⟩
def ju:("thing" :: vT:List Str).Nodup:=w5
def zy8:TF:=λds n Q=>∃(dd:D) (ts:List Thing),ds=[.tup [dd,.tup (ts.map zZ)]]/\(ts.map λt=>t.1).Nodup/\ts.length<=1000/\Q (byN ts) n
def zQ9(T:Blt mg)(F:Fun K "things_by_name" "things_by_name" vL f fd):FnOk P w K mg base CX0 1 f fd qZ1 (spD K 1 zy8):=by
 refine Fun.okD F Za (λcdv A0 outer s H E G Z _ hr=>(xj (wu (zo8 (own:=["thing"]) (M:=vT) (vW (by rfl)) rfl (va rfl (Zk kW Zg (zn 0) xC (λ_ _=>rfl))) (λ_ _ _ _=>(wD (i:=0) ju rfl (lo rfl) q9)) (λ_ _ _ _=>yP) (λ_ _ _ _=>(Zk kW Zg (zn 0) xC (λ_ _=>rfl))) (λ_ _ _ _=>(zn 0)))))) ?_
 rintro ds n Q hl ⟨dd,ts,rfl,hn,hz,q⟩;have e1:atI [dd,D.tup (ts.map zZ)] 1=some (D.tup (ts.map zZ)):=rfl;simp[wx,e1]
 refine⟨by rw[zm];exact yL hz,λi ks es n'=>n'=n/\ks=(ts.take i).map kA/\es=(ts.take i).map zZ,⟨rfl,rfl,rfl⟩,?_,?_⟩
 ·rintro i d ks es n' e ⟨rfl, rfl, rfl⟩;rw[zE] at e
  cases et:ts[i]? with
  |none=>rw[et] at e;cases e
  | some t =>
   rw[et] at e;cases e;have nt:yr (zZ t)=true:=rfl;simp[nt];have e2:∀R:D->Prop,R (.int t.1)->zK0 (zZ t) (.int 0) R:=λR h=>⟨_,_,_,.inr (.inl rfl),rfl,rfl,h⟩;refine e2 _ ?_;refine⟨_,rfl,?_,?_⟩
   ·have hk : zr4 ((ts.take i).map kA) (Sum.inl t.1) = false := Zr λhm => by
     have h3:(ts.take i++[t]).Sublist ts:=by
      have:ts.take i++[t]=ts.take (i+1):=by rw[xx,et];rfl
      rw[this];exact take_sublist ..
     have h4:=(h3.map λt=>t.1).nodup hn;rw[xU,xy] at h4
     exact h4.2.2 _ hm _ (by simp) rfl
    unfold XS;rw[map_take] at hk
    rw[if_neg (by rw[hk];simp),xx,zE,et];rfl
   ·have hk : zr4 ((ts.take i).map kA) (Sum.inl t.1) = false := Zr λhm => by
     have h3:(ts.take i++[t]).Sublist ts:=by
      have:ts.take i++[t]=ts.take (i+1):=by rw[xx,et];rfl
      rw[this];exact take_sublist ..
     have h4:=(h3.map λt=>t.1).nodup hn;rw[xU,xy] at h4
     exact h4.2.2 _ hm _ (by simp) rfl
    unfold za0;rw[map_take] at hk
    rw[if_neg (by rw[hk];simp),xx,zE,et];rfl
 ·rintro ks es n' ⟨rfl,rfl,rfl⟩;rw[zm,wA];exact q
abbrev Ze:Stmt:=top 36
abbrev qc:List Str:=["things","i"]
def Uk:FnScope qc ["things","i"] (zV Ze):=⟨rfl,rfl,rfl,w5,rfl,w5,w5⟩
def qp:("name" :: "place" :: "worth" :: qc:List Str).Nodup:=w5
def jV:("turned" :: "name" :: qc:List Str).Nodup:=w5
def jY:TF:=λds n Q=>∃(i d:Nat) (ts:List Thing) (dd:D),ds=[dd,.int i]/\(dd=.lst (ts.map zZ)\/dd=.tup (ts.map zZ))/\i<d/\d<=4/\GoodU d ts/\ts.length<500/\∀rs:List Thing,OrdT i ts rs->Q (kS rs) n
def Ux(T:Blt mg)(F:Fun K "names_by" "names_by" Ze f fd):FnOk P w K mg base CX0 1 f fd ["things","i"] (spD K 2 jY):=by
 refine Fun.okD F Uk (λcdv A0 outer s H E G Z _ hr=>(xj (wu (yS wW vw T.tuple vz (ze (vP (own:=["turned","name"]) (M:=qc) (vW (by rfl)) rfl (va rfl (wU (Zx hr) (zt2 rfl) T.sorted kZ (ze (vP (own:=["name","place","worth"]) (M:=qc) (vW (by rfl)) rfl (va rfl (zn 0)) (λ_ _ _ _=>(XV (k:=3) rfl rfl (vg (wD (i:=0) qp rfl (lo rfl) q9) (vg (wD (i:=1) qp rfl (lo rfl) q9) (vg (wD (i:=2) qp rfl (lo rfl) q9) ZQ))))) (λ_ _ _ _=>yP) (λ_ _ _ _=>(qX (ze (Yr zp1 zA1 (KD rfl (zn 1) (ZO (zn 4)) ZP) (KD rfl (zn 1) ZP (ZO (zn 4)))) (ze (zn 0) zL))))) zL))) (λ_ _ _ _=>(XV (k:=2) rfl rfl (vg (wD (i:=0) jV rfl (lo rfl) q9) (vg (wD (i:=1) jV rfl (lo rfl) q9) ZQ)))) (λ_ _ _ _=>yP) (λ_ _ _ _=>(zn 1))) zL))))) ?_
 rintro ds n Q hl ⟨i,d,ts,dd,rfl,hdd,hi,hd,hg,hz,q⟩
 have ndd:yr dd=true:=by rcases hdd with rfl |rfl<;>rfl
 simp[wx,ndd];refine⟨_,hdd,?_⟩
 refine yN zZ (λt=>(Um i t).d) ts (yL q5) (λt ht R hR=>?_) ?_
 ·have he := hg.each t ht;obtain⟨x,p,y⟩:=t;have hp:p.length=d:=he
  have c1:=Jk (p.map D.int) i (by rw[zm];lia)
  have c2:=zx4 (p.map D.int) i (by rw[zm];lia)
  simp[zZ,yO,c1,c2]
  refine⟨yL q5,?_⟩
  have e:(Um i (x,p,y)).d=D.tup [D.tup (List.drop i (List.map D.int p)++List.take i (List.map D.int p)),D.int x]:=by
   show D.tup [D.tup ((rot i p).map D.int),D.int x]=_;unfold rot;rw[xU,map_drop,map_take]
  rw[<- e];exact hR
 ·refine ⟨ts.map (Um i), false, by rw [xi]; rfl, by rw [zm]; lia, ?_, ?_, λrows hp hs => ⟨_, .inl rfl, ?_⟩⟩
  ·intro x hx;obtain⟨t,_,rfl⟩:=zD.mp hx;rfl
  ·rw[xi];exact hg.nd
  ·have hlen : rows.length = ts.length := by rw [hp.length_eq, zm]
   obtain⟨rs,hrp,rfl⟩:=jQ hp;rw[zm] at hlen;rw[xi]
   refine yN (SRow.d∘Um i) (λt:Thing=>.int t.1) rs (yL q5) (λt ht R hR=>?_) ?_
   ·have e:(SRow.d∘Um i) t=.tup [.tup ((rot i t.2.1).map D.int),.int t.1]:=rfl;rw[e];simp;exact hR
   ·simp
    exact q rs ⟨hrp,by rw[xQ] at hs;exact hs⟩
abbrev vM:Stmt:=top 37
abbrev vU:List Str:=["by_name","names","i"]
def Zb:FnScope vU qZ4 (zV vM):=⟨rfl,rfl,rfl,w5,rfl,w5,w5⟩
def jv:("name" :: vU:List Str).Nodup:=w5
def jZ:TF:=λds n Q=>∃(i d:Nat) (hs ts:List Thing),ds=[byN hs,kS ts,.int i]/\i<d/\d<=4/\(hs.map λt=>t.1).Nodup/\(∀t∈ts,t∈hs)/\GoodU d ts/\ts.length<500/\∀rs:List Thing,OrdT i ts rs->Q (kS rs) n
def Uy(F:Fun K "names_in_order" "names_in_order" vM f fd)(F_names_by:Fn P w K mg base "names_by" 1 2 jY):FnOk P w K mg base CX0 2 f fd qZ4 (spD K 3 jZ):=by
 refine Fun.okD F Zb (λcdv A0 outer s H E G Z _ hr=>(xj (wu (vb F_names_by (hr.mono q9) rfl (ze (vP (own:=["name"]) (M:=vU) (vW (by rfl)) rfl (va rfl (zn 1)) (λ_ _ _ _=>(wD (i:=0) jv rfl (lo rfl) q9)) (λ_ _ _ _=>yP) (λ_ _ _ _=>(zv4 (qL hr) (zn 1) (zn 0) (λ_ _=>rfl)))) (ze (zn 2) zL)))))) ?_
 rintro ds n Q hl ⟨i,d,hs,ts,rfl,hi,hd,hn,hsub,hg,hz,q⟩;simp[wx];refine⟨_,.inr rfl,?_⟩
 refine yN (λt:Thing=>.int t.1) zZ ts (yL q5) (λt ht R hR=>?_) ?_
 ·simp;unfold byN;rw[QY];exact⟨_,YW (hsub t ht) hn,hR⟩
 ·exact⟨i,d,ts,_,rfl,.inl rfl,hi,hd,hg,hz,q⟩
abbrev jd:Stmt:=top 38
abbrev Ke:List Str:=["count"]
def WK:FnScope Ke ["count"] (zV jd):=⟨rfl,rfl,rfl,w5,rfl,w5,w5⟩
def ja:TF:=λds n Q=>∃c:Nat,ds=[.int c]/\Q (.int (((c+1)/2:Nat):Int)) n
def Vj(F:Fun K "halved_up" "halved_up" jd f fd):FnOk P w K mg base CX0 1 f fd ["count"] (spD K 1 ja):=by
 refine Fun.okD F WK (λcdv A0 outer s H E G Z _ hr=>(xj (wu (zv5 (Yw (zn 0) xC) xC)))) ?_;rintro ds n Q hl ⟨c,rfl,q⟩
 have e:((c:Int)+1)/2=((c+1)/2:Nat):=q5
 simp[wx]
 exact⟨⟨q9,q9⟩,by rw[e];exact q⟩
abbrev XO:Stmt:=top 14
abbrev qv:List Str:=["places","columns"]
def WM:FnScope qv ["places"] (zV XO):=⟨rfl,rfl,rfl,w5,rfl,w5,w5⟩
def UD:("i" :: qv:List Str).Nodup:=w5
def UC:("place" :: ("i" :: qv):List Str).Nodup:=w5
def UB:("column" :: qv:List Str).Nodup:=w5
def Yd:TF:=λds n Q=>∃(qs:List (List Int)) (d:Nat),ds=[.lst (qs.map yO)]/\1<=qs.length/\qs.length<=1000/\d<=1000/\(∀q∈qs,q.length=d)/\Q (vY (zK6 d qs)) n
def JK(T:Blt mg)(F:Fun K "bounds" "bounds" XO f fd):FnOk P w K mg base CX0 1 f fd ["places"] (spD K 1 Yd):=by
 refine Fun.okD F WM (λcdv A0 outer s H E G Z _ hr=>(xa (Yo (i:=1) WM.nd rfl (lo rfl) (own:=["i"]) (M:=qv) (vW (by rfl)) rfl (XU T.range (ze (wU yc qy T.len qz (ze (Zk kW Zg (zn 0) xC (λ_ _=>rfl)) zL)) zL)) (λ_ _ _ _=>(wD (i:=0) UD rfl (lo rfl) q9)) (λ_ _ _ _=>yP) (λ_ _ _ _=>(vP (own:=["place"]) (M:=("i" :: qv)) (vW (by rfl)) rfl (va rfl (zn 1)) (λ_ _ _ _=>(wD (i:=0) UC rfl (lo rfl) q9)) (λ_ _ _ _=>yP) (λ_ _ _ _=>(Zk kW Zg (zn 0) (zn 1) (λ_ _=>rfl))))))
  (xj (wu (yS wW vw T.tuple vz (ze (vP (own:=["column"]) (M:=qv) (vW (by rfl)) rfl (va rfl (zn 1)) (λ_ _ _ _=>(wD (i:=0) UB rfl (lo rfl) q9)) (λ_ _ _ _=>yP) (λ_ _ _ _=>(qX (ze (wU (zi7 rfl) zI3 T.min zx6 (ze (zn 0) zL)) (ze (wU (zi8 rfl) zI4 T.max zj3 (ze (zn 0) zL)) zL))))) zL)))))) ?_
 rintro ds n Q hl ⟨qs,d,rfl,h1,h2,hd,hq,q⟩
 obtain⟨q0,r0,rfl⟩:∃q0 r0,qs=q0::r0:=by cases qs with |nil=>simp at h1 |cons q0 r0=>exact⟨q0,r0,rfl⟩
 have hl0:q0.length=d:=hq q0 (zo ..)
 have hk:∀k:D->Prop,k (.int d)->zG4 [yO q0] k:=λk h=>by unfold yO;rw[QZ,zm,hl0];exact h
 simp[wx];refine hk _ ?_;simp
 refine⟨q5,?_⟩
 rw[zl8]
 refine yN (λi:Nat=>D.int (i:Int)) (λi=>.lst ((zk5 (q0::r0) i).map D.int)) (List.range d) (by rw[List.length_range];exact yL hd) (λi hi R hR=>?_) ?_
 ·have hi' : i < d := List.mem_range.mp hi;simp;rw[<- zu (f:=yO)]
  have e:(zk5 (q0::r0) i).map D.int=(q0::r0).map λq=>.int (q[i]?.getD 0):=by unfold zk5;rw[xi];rfl
  refine yN yO (λq=>.int (q[i]?.getD 0)) (q0::r0) (yL h2) (λq hqm R2 hR2=>?_) ?_
  ·have nq : yr (yO q) = true := rfl
   have hq1:i<q.length:=by rw[hq q hqm];exact hi'
   simp[nq];unfold yO;rw[zA8];refine⟨.int (q[i]?.getD 0),YX ?_,hR2⟩;rw[zE,zk hq1];rfl
  ·rw[<- e];exact hR
 ·simp
  refine yN (λi=>.lst ((zk5 (q0::r0) i).map D.int)) (λi=>UN (some (zF8 (zk5 (q0::r0) i)),some (zG1 (zk5 (q0::r0) i)))) (List.range d) (by rw[List.length_range];exact yL hd) (λi hi R hR=>?_) ?_
  ·have hc : 0 < (zk5 (q0 :: r0) i).length := by unfold zk5; rw [zm]; exact h1
   simp;exact JU hc (JV hc hR)
  ·have z:=q;unfold vY zK6 at z;rw[xi] at z;exact ku.mpr z
abbrev je:Stmt:=top 45
abbrev jA:List Str:=["by_name","names"]
def WL:FnScope jA qZ5 (zV je):=⟨rfl,rfl,rfl,w5,rfl,w5,w5⟩
def Xd:("name" :: jA:List Str).Nodup:=w5
def jb:TF:=λds n Q=>∃(d:Nat) (hs ts:List Thing),ds=[byN hs,kS ts]/\d<=4/\(hs.map λt=>t.1).Nodup/\(∀t∈ts,t∈hs)/\(∀t∈ts,t.2.1.length=d)/\1<=ts.length/\ts.length<500/\Q (vY (zK6 d (ts.map λt=>t.2.1))) n
def Vk(F:Fun K "bounds_of" "bounds_of" je f fd)(F_bounds:Fn P w K mg base "bounds" 1 1 Yd):FnOk P w K mg base CX0 2 f fd qZ5 (spD K 2 jb):=by
 refine Fun.okD F WL (λcdv A0 outer s H E G Z _ hr=>(xj (wu (vb F_bounds (hr.mono q9) rfl (ze (vP (own:=["name"]) (M:=jA) (vW (by rfl)) rfl (va rfl (zn 1)) (λ_ _ _ _=>(wD (i:=0) Xd rfl (lo rfl) q9)) (λ_ _ _ _=>yP) (λ_ _ _ _=>(Zk kW Zg (zv4 (qL hr) (zn 1) (zn 0) (λ_ _=>rfl)) xC (λ_ _=>rfl)))) zL))))) ?_
 rintro ds n Q hl ⟨d,hs,ts,rfl,hd,hn,hsub,hlen,h1,hz,q⟩;simp[wx];refine⟨_,.inr rfl,?_⟩
 refine yN (λt:Thing=>.int t.1) (λt=>yO t.2.1) ts (yL q5) (λt ht R hR=>?_) ?_
 ·simp;unfold byN;rw[QY];exact⟨_,YW (hsub t ht) hn,⟨_,_,_,.inr (.inl rfl),rfl,rfl,hR⟩⟩
 ·refine ⟨ts.map λt => t.2.1, d, by rw [xi]; rfl, by simpa using h1, by simp; lia, by lia, λp hp => ?_, q⟩
  obtain⟨t,ht,rfl⟩:=zD.mp hp;exact hlen t ht
abbrev Yh:Stmt:=top 46
abbrev zj9:List Str:=["d","by_name","names","i","rising","limits","ordered","half","turn"]
def ke:FnScope zj9 qZ6 (zV Yh):=⟨rfl,rfl,rfl,w5,rfl,w5,w5⟩
def WD:Nat->TF
 |0=>λ_ _ _=>False
 |j+1=>λds n Q=>∃(d i:Nat) (hs ts:List Thing),ds=[.int d,byN hs,kS ts,.int i]/\i<d/\d<=4/\(hs.map λt=>t.1).Nodup/\(∀t∈ts,t∈hs)/\GoodU d ts/\1<=ts.length/\ts.length<500/\ts.length<=2^j/\∀tr,Turned d i ts tr->Q (Xk tr) n
def zE4(T:Blt mg)(F:Fun K "tree_of" "tree_of" Yh f fd)(hm:mg "tree_of" = some (.ref f))(hk:W.keepIn K (.ref f)=true)(hb:Binds K fd ["d","by_name","names","i"] [])(F_bounds_of:Fn P w K mg base "bounds_of" 2 2 jb)(F_names_in_order:Fn P w K mg base "names_in_order" 2 3 jZ)(F_halved_up:Fn P w K mg base "halved_up" 1 1 ja):∀j:Nat,FnOk P w K mg base CX0 (j+2) f fd qZ6 (spD K 4 (WD j)):=by
 intro j
 induction j with
 |zero=>exact FnOk.botK λds n Q h=>h
 | succ j ih =>
  have F_tree_of:Fn P w K mg base "tree_of" (j+2) 4 (WD j):=⟨f,fd,_,ih,hm,hk,hb⟩
  refine Fun.okD F ke (λcdv A0 outer s H E G Z _ hr=>(xa (yw (i:=4) ke.nd rfl (lo rfl) (yS wW vw T.tuple vz (ze (wU VO (Qd rfl) T.sorted kZ (ze (zn 2) zL)) zL)))
  (xa (yw (i:=5) ke.nd rfl (lo rfl) (vb F_bounds_of (hr.mono q5) rfl (ze (zn 1) (ze (zn 2) zL))))
  (xa (kz (qk zE1 zA0 (wU yc qy T.len qz (ze (zn 2) zL)) xC (vV _)) (xj (wu (qX (ze (zn 4) (ze (zn 5) (ze Vi (ze Vi zL))))))) yY)
  (xa (yw (i:=6) ke.nd rfl (lo rfl) (vb F_names_in_order (hr.mono q5) rfl (ze (zn 1) (ze (zn 2) (ze (zn 3) zL)))))
  (xa (yw (i:=7) ke.nd rfl (lo rfl) (vb F_halved_up (hr.mono q5) rfl (ze (wU yc qy T.len qz (ze (zn 2) zL)) zL)))
  (xa (yw (i:=8) ke.nd rfl (lo rfl) (jS (Yw (zn 3) xC) (zn 0)))
  (xj (wu (qX (ze (zn 4) (ze (zn 5) (ze (vb F_tree_of hr rfl (ze (zn 0) (ze (zn 1) (ze (KD rfl (zn 6) ZP (ZO (zn 7))) (ze (zn 8) zL))))) (ze (vb F_tree_of hr rfl (ze (zn 0) (ze (zn 1) (ze (KD rfl (zn 6) (ZO (zn 7)) ZP) (ze (zn 8) zL))))) zL)))))))))))))) ?_
  rintro ds n Q hl ⟨d,i,hs,ts,rfl,hi,hd,hn,hsub,hg,h1,hz,hj,q⟩
  have nmE:kS ts=.tup ((ts.map λt=>t.1).map D.int):=by unfold kS;rw[xi];rfl
  have kl:∀k:D->Prop,k (.int (ts.length:Int))->zG4 [kS ts] k:=λk h=>by unfold kS;rw[QZ,zm];exact h
  simp[wx]
  refine⟨ts.map λt=>t.1,congrArg (λx=>[x]) nmE,by rw[zm];lia,λns hp hs'=>?_⟩
  simp;refine⟨d,hs,ts,rfl,hd,hn,hsub,hg.each,h1,hz,?_⟩;have np:yr (vY (zK6 d (ts.map λt=>t.2.1)))=true:=rfl;simp;refine kl _ ?_;simp
  split
  ·rename_i h2
   have h2':ts.length=1:=q5
   obtain⟨t,rfl⟩:=List.length_eq_one_iff.mp h2'
   have e1:ns=[t.1]:=by simpa using hp
   subst e1;simp;exact q _ .one
  ·rename_i h2
   have h2':2<=ts.length:=q5
   refine⟨i,d,hs,ts,rfl,hi,hd,hn,hsub,hg,hz,λrs ho=>?_⟩;have hrl:rs.length=ts.length:=ho.perm.length_eq;simp;refine kl _ ⟨ts.length,rfl,?_⟩;simp[np]
   refine⟨q5,?_⟩
   cases j with
   |zero=>simp at hj;lia
   | succ j =>
    have et:((i:Int)+1)%(d:Int)=(((i+1)%d:Nat):Int):=by simp
    have hcut1:Qp (rs.map λt=>D.int t.1) none (some (((ts.length+1)/2:Nat):Int))=(rs.take ((ts.length+1)/2)).map λt=>D.int t.1:=by rw[zx4 _ _ (by rw[zm];lia),map_take]
    have hcut2:Qp (rs.map λt=>D.int t.1) (some (((ts.length+1)/2:Nat):Int)) none=(rs.drop ((ts.length+1)/2)).map λt=>D.int t.1:=by rw[Jk _ _ (by rw[zm];lia),map_drop]
    have gr:=hg.perm ho.perm
    have pw:2^(j+1)=2*2^j:=by rw[wZ];lia
    have part:∀(us:List Thing) (n:Nat) (R:D->Nat->Prop),us.Sublist rs->1<=us.length->us.length<=(ts.length+1)/2->(∀tr,Turned d ((i+1)%d) us tr->R (Xk tr) n)->WD (j+1) [.int d,byN hs,kS us,.int (((i+1)%d:Nat):Int)] n R:=λus n R hu h3 h4 hR=>
     ⟨d,(i+1)%d,hs,us,rfl,Nat.mod_lt _ q5,hd,hn,λt ht=>hsub t (ho.perm.mem_iff.mp (hu.mem ht)),gr.sub hu,h3,q5,q5,hR⟩
    have eh:((ts.length:Int)+1)/2=(((ts.length+1)/2:Nat):Int):=q5
    unfold kS;rw[QW,eh,et,hcut1]
    refine part _ _ _ (take_sublist ..) (by rw[xk];lia) (by rw[xk];lia) λlow hlow=>?_
    rw[QW,hcut2]
    refine part _ _ _ (List.drop_sublist ..) (by rw[wB];lia) (by rw[wB];lia) λhigh hhigh=>?_
    exact q _ (.two h2' hp hs' ho hlow hhigh)
abbrev jf:Stmt:=top 47
abbrev jB:List Str:=["house"]
def WN:FnScope jB qZ1 (zV jf):=⟨rfl,rfl,rfl,w5,rfl,w5,w5⟩
def kM:("name" :: "place" :: "worth" :: jB:List Str).Nodup:=w5
def jc:TF:=λds n Q=>∃(dd:D) (ts:List Thing),ds=[.tup [dd,.tup (ts.map zZ)]]/\ts.length<=1000/\Q (kS ts) n
def Vl(T:Blt mg)(F:Fun K "all_names" "all_names" jf f fd):FnOk P w K mg base CX0 1 f fd qZ1 (spD K 1 jc):=by
 refine Fun.okD F WN (λcdv A0 outer s H E G Z _ hr=>(xj (wu (yS wW vw T.tuple vz (ze (vP (own:=["name","place","worth"]) (M:=jB) (vW (by rfl)) rfl (va rfl (Zk kW Zg (zn 0) xC (λ_ _=>rfl))) (λ_ _ _ _=>(XV (k:=3) rfl rfl (vg (wD (i:=0) kM rfl (lo rfl) q9) (vg (wD (i:=1) kM rfl (lo rfl) q9) (vg (wD (i:=2) kM rfl (lo rfl) q9) ZQ))))) (λ_ _ _ _=>yP) (λ_ _ _ _=>(zn 0))) zL))))) ?_
 rintro ds n Q hl ⟨dd,ts,rfl,hz,q⟩;have e1:atI [dd,D.tup (ts.map zZ)] 1=some (D.tup (ts.map zZ)):=rfl;simp[wx,e1];refine yN zZ (λt=>.int t.1) ts (yL hz) (λt ht R hR=>?_) ?_
 ·simp[zZ];exact hR
 ·exact ku.mpr q
abbrev Ul:Stmt:=top 48
abbrev zJ7:List Str:=["house","d","things"]
def XH:FnScope zJ7 qZ1 (zV Ul):=⟨rfl,rfl,rfl,w5,rfl,w5,w5⟩
def Uc:TF:=λds n Q=>∃(d:Nat) (ts:List Thing),ds=[.tup [.int d,.tup (ts.map zZ)]]/\1<=d/\d<=4/\GoodU d ts/\ts.length<500/\(ts=[]->Q .non n)/\(ts≠[]->∀tr,Turned d 0 ts tr->Q (Xk tr) n)
def zp2(T:Blt mg)(F:Fun K "turns" "turns" Ul f fd)(F_tree_of:Fn P w K mg base "tree_of" 12 4 (WD 10))(F_things_by_name:Fn P w K mg base "things_by_name" 1 1 zy8)(F_all_names:Fn P w K mg base "all_names" 1 1 jc):FnOk P w K mg base CX0 13 f fd qZ1 (spD K 1 Uc):=by
 refine Fun.okD F XH (λcdv A0 outer s H E G Z _ hr=>(xa (zB6 (m:=3) (zn 0) (XV (k:=2) rfl rfl (vg (wD (i:=1) XH.nd rfl (lo rfl) q9) (vg (wD (i:=2) XH.nd rfl (lo rfl) q9) ZQ))))
  (xa (kz (qk zE1 zA0 (wU yc qy T.len qz (ze (zn 2) zL)) xC (vV _)) (xj (wu Vi)) yY)
  (xj (wu (vb F_tree_of (hr.mono q9) rfl (ze (zn 1) (ze (vb F_things_by_name (hr.mono q9) rfl (ze (zn 0) zL)) (ze (vb F_all_names (hr.mono q9) rfl (ze (zn 0) zL)) (ze xC zL)))))))))) ?_
 rintro ds n Q hl ⟨d,ts,rfl,h1,hd,hg,hz,q0,q1⟩;simp[wx]
 split
 ·rename_i h;exact q0 h
 ·rename_i h
  refine⟨_,ts,rfl,hg.nd,q5,?_⟩
  simp
  refine⟨_,ts,rfl,q5,?_⟩
  have hlen:1<=ts.length:=by
   cases ts with
   |nil=>exact absurd rfl h
   |cons a b=>simp
  exact⟨d,0,ts,ts,rfl,q5,hd,hg.nd,λt ht=>ht,hg,hlen,hz,by show ts.length<=512;lia,q1 h⟩
end
structure Pt where
 r:Nat
 a:Addr
 g:Addr
 ts:List Thing
 gs:List (Int × D)
def pF(ts:List Thing)(h tr:D)(g:Addr):List (Str × D):=[("things",.lst (ts.map zZ)),("held",h),("tree",tr),("gone",.rf g)]
def zv6(gs:List (Int × D))(t:Thing):Bool:=(vd t.1 gs).isNone
def Pt.left(p:Pt):List Thing:=p.ts.filter (zv6 p.gs)
structure PartAt(CP:Addr)(n:Nat)(p:Pt):Prop where
 i:∃h tr,xb n p.a=some (.ins CP (pF p.ts h tr p.g))
 g:xb n p.g=some (.dic p.gs)
@[simp] theorem ne1:(("things" : Str) = "held")=False:=eq_false w5
@[simp] theorem ne2:(("things" : Str) = "tree")=False:=eq_false w5
@[simp] theorem ne3:(("things" : Str) = "gone")=False:=eq_false w5
@[simp] theorem ne4:(("held" : Str) = "tree")=False:=eq_false w5
@[simp] theorem ne5:(("held" : Str) = "gone")=False:=eq_false w5
@[simp] theorem ne6:(("tree" : Str) = "gone")=False:=eq_false w5
@[simp] theorem ne7:(("things" : Str) = "left")=False:=eq_false w5
@[simp] theorem ne8:(("held" : Str) = "left")=False:=eq_false w5
@[simp] theorem ne9:(("tree" : Str) = "left")=False:=eq_false w5
@[simp] theorem xu6:(("gone" : Str) = "left")=False:=eq_false w5
def Yy{ts h tr g}:qe "things" (pF ts h tr g)=some (.lst (ts.map zZ)):=by simp[pF,qe]
def Wa{ts h tr g}:qe "gone" (pF ts h tr g)=some (.rf g):=by simp[pF,qe]
def Uw{ts h tr g}:qe "left" (pF ts h tr g)=none:=by simp[pF,qe]
def jr(t:Thing):plD (zZ t)=true:=by
 have e:jO (t.2.1.map D.int)=true:=yQ.mpr λd hd=>by obtain⟨x,_,rfl⟩:=zD.mp hd;rfl
 simp[zZ,yO,plD,jO,e]
def Va(ts:List Thing):jO (ts.map zZ)=true:=yQ.mpr λd hd=>by obtain⟨x,_,rfl⟩:=zD.mp hd;exact jr x
def Yp(ps:List zJ6):plD (vY ps)=true:=by
 have e:jO (ps.map UN)=true:=yQ.mpr λd hd=>by
  obtain⟨⟨x,y⟩,_,rfl⟩:=zD.mp hd
  cases x<;>cases y<;>rfl
 simpa [vY,plD] using e
theorem jN:∀t:Tr,plD (Xk t)=true
 |.one x bd=>by simp[Xk,plD,jO,Yp]
 |.two ns bd l h=>by
  have e:jO (ns.map D.int)=true:=yQ.mpr λd hd=>by obtain⟨x,_,rfl⟩:=zD.mp hd;rfl
  simp[Xk,plD,jO,Yp,jN l,jN h,e]
def Vb{C:Addr}{fs:List (Str × D)}(h:∀d∈fs.map (·.2),plD d=true):plC (.ins C fs)=true:=yQ.mpr h
def _root_.L2.OnlyC.setTo{n n1:Nat}{l:List Addr}{a:Addr}{c:Cell}(h:OnlyC n n1 l)(pl:plC c=true)(m:a∈l):OnlyC n (vA n1 a c) l:=(h.trans (OnlyC.set (n:=n1) (a:=a) pl)).mono λb hb=>by
 rcases zI.mp hb with hb |hb
 ·exact hb
 ·rw[zq.mp hb];exact m
section
variable {P:Program}{w:World}{K:W.Frag}{mg:Str->Option Value}{base:Heap}{CP:Addr}
abbrev jm:Stmt:=vR (top 51) 0
abbrev Kj:List Str:=["self","d","things"]
def WQ:FnScope Kj qZ7 (zV jm):=⟨rfl,rfl,rfl,w5,rfl,w5,w5⟩
def Uf(CP:Addr):TF:=λds n Q=>∃(a:Addr) (d:Nat) (ts:List Thing),ds=[.rf a,.int d,.lst (ts.map zZ)]/\xb n a=some (.ins CP [])/\1<=d/\d<=4/\GoodU d ts/\1<=ts.length/\ts.length<500 /\
 ∀g h tr n',g≠a->xb n g=none->OnlyC n n' [a,g]->xb n' a=some (.ins CP (pF ts h tr g))->xb n' g=some (.dic [])->Q .non n'
def zp7(T:Blt mg)(CL_Part:Cls K CP)(NA_things:NoAttr K CP "things")(NA_held:NoAttr K CP "held")(NA_tree:NoAttr K CP "tree")(NA_gone:NoAttr K CP "gone")(F:Fun K "__init__" "Part.__init__" jm f fd)(F_turns:Fn P w K mg base "turns" 13 1 Uc):FnOk P w K mg base CX0 14 f fd qZ7 (spD K 3 (Uf CP)):=by
 refine Fun.okD F WQ (λcdv A0 outer s H E G Z _ hr=>(xa (kG CL_Part NA_things (zn 0) (zn 2))
  (xa (kG CL_Part NA_held (zn 0) (qX (ze (zn 1) (ze (yS wW vw T.tuple vz (ze (wU (Zx hr) (Jl rfl) T.sorted kZ (ze (zn 2) zL)) zL)) zL))))
  (xa (kG CL_Part NA_tree (zn 0) (vb F_turns (hr.mono q9) rfl (ze (yE CL_Part NA_held (zn 0)) zL)))
  (xj (kG CL_Part NA_gone (zn 0) XY)))))) ?_
 rintro ds n Q hl ⟨a,d,ts,rfl,hc,hd1,hd4,hg,h1,hz,q⟩
 have pt:plD (.lst (ts.map zZ))=true:=by simpa [plD] using Va ts
 have p1:plC (.ins CP [("things",.lst (ts.map zZ))])=true:=Vb (by simpa using pt)
 simp[wx]
 refine xn hc ⟨pt,by simp,?_⟩
 simp[XT];have o1:=OnlyC.rfl'.setTo (n:=n) (l:=[a]) (a:=a) p1 (zo ..);have c1:=wQ (n:=n) (a:=a) p1;generalize vA n a _=n1 at o1 c1 ⊢
 refine⟨ts.map λt=>(t.1,[yO t.2.1,.int t.2.2]),by rw[xi];rfl,by rw[zm];lia,by rw[xi];exact hg.nd,λrows hp hs=>?_⟩
 obtain⟨rs,hrp,rfl⟩:=jQ hp;have pr:jO (rs.map zZ)=true:=Va rs
 have ph:plD (.tup [.int d,.tup (rs.map zZ)])=true:=by simp[plD,jO,pr]
 have eR:(rs.map λt=>(t.1,[yO t.2.1,D.int t.2.2])).map NRow.d=rs.map zZ:=by rw[xi];rfl
 rw[eR];refine ku.mpr ?_
 refine xn c1 ⟨ph,by simp,?_⟩
 simp[XT]
 have p2:plC (.ins CP [("things",.lst (ts.map zZ)),("held",.tup [.int d,.tup (rs.map zZ)])])=true:=Vb (by simpa using ⟨pt,ph⟩)
 have o2:=o1.setTo (a:=a) p2 (zo ..);have c2:=wQ (n:=n1) (a:=a) p2;generalize vA n1 a _=n2 at o2 c2 ⊢;refine xn c2 ?_;simp[qe];have hrl:rs.length=ts.length:=hrp.length_eq
 refine⟨d,rs,rfl,hd1,hd4,hg.perm hrp,q5,λe=>by rw[e] at hrl;simp at hrl;lia,λ_ tr _=>?_⟩
 have p3:plC (.ins CP [("things",.lst (ts.map zZ)),("held",.tup [.int d,.tup (rs.map zZ)]),("tree",Xk tr)])=true:=Vb (by simpa using ⟨pt,ph,jN tr⟩)
 refine xn c2 ⟨jN tr,by simp,?_⟩
 simp[XT];have o3:=o2.setTo (a:=a) p3 (zo ..);have c3:=wQ (n:=n2) (a:=a) p3;generalize vA n2 a _=n3 at o3 c3 ⊢;intro g hgn
 have ga:g≠a:=λe=>by rw[e,c3] at hgn;cases hgn
 have p4:plC (.dic [])=true:=rfl
 have o4:=(o3.mono (r:=[a,g]) (by simp)).setTo (a:=g) p4 (by simp)
 have c4:=(vF (n:=n3) (a:=g) (b:=a) p4 (Ne.symm ga)).trans c3;have g4:=wQ (n:=n3) (a:=g) p4;generalize vA n3 g _=n4 at o4 c4 g4 ⊢
 refine xn c4 ⟨rfl,by simp,?_⟩
 simp[XT]
 have p5:plC (.ins CP (pF ts (.tup [.int d,.tup (rs.map zZ)]) (Xk tr) g))=true:=Vb (by simpa [pF] using ⟨pt,ph,jN tr,rfl⟩)
 exact q g _ _ _ ga (by rw[<- hgn];exact(o3.o g (by simpa using ga)).symm) (o4.setTo p5 (by simp)) (wQ p5) ((vF p5 ga).trans g4)
abbrev jl:Stmt:=vR (top 51) 1
abbrev jC:List Str:=["self"]
def WP:FnScope jC qZ0 (zV jl):=⟨rfl,rfl,rfl,w5,rfl,w5,w5⟩
def Xg:("thing" :: jC:List Str).Nodup:=w5
def Yb(CP:Addr):TF:=λds n Q=>∃p:Pt,ds=[.rf p.a]/\PartAt CP n p/\p.ts.length<=1000/\Q (.lst (p.left.map zZ)) n
def zp6(T:Blt mg)(CL_Part:Cls K CP)(NA_things:NoAttr K CP "things")(NA_gone:NoAttr K CP "gone")(F:Fun K "left" "Part.left" jl f fd):FnOk P w K mg base CX0 1 f fd qZ0 (spD K 1 (Yb CP)):=by
 refine Fun.okD F WP (λcdv A0 outer s H E G Z _ hr=>(xj (wu (vP (own:=["thing"]) (M:=jC) (vW (by rfl)) rfl (va rfl (yE CL_Part NA_things (zn 0))) (λ_ _ _ _=>(wD (i:=0) Xg rfl (lo rfl) q9)) (λ_ _ _ _=>(zn1 (Zh (qL hr) (Zk kW Zg (zn 0) xC (λ_ _=>rfl)) (yE CL_Part NA_gone (zn 1)) (by with_unfolding_all rfl)))) (λ_ _ _ _=>(zn 0)))))) ?_
 rintro ds n Q hl ⟨p,rfl,⟨⟨h,tr,hc⟩,hgc⟩,hz,q⟩;simp[wx];refine xn hc ?_;rw[Yy];simp;refine US zZ (zv6 p.gs) zZ p.ts (yL hz) (λt ht R S hR hS=>?_) q;have hR':zv6 p.gs t=true->R (.tup [.int t.1,yO t.2.1,.int t.2.2]) n:=hR;simp[zZ];refine xn hc ?_;rw[Wa];simp;refine wo hgc ?_;unfold zv6 at hR' hS
 split
 ·rename_i e;rw[e] at hR';exact hR' rfl
 ·rename_i e;exact hS (by cases q:vd t.1 p.gs with |none=>exact absurd q e |some x=>rfl)
end
theorem VG{α:Type}{k y:Int}{x:α}:∀{l:List (Int × α)},vd y (l++[(k,x)])=match vd y l with |some d=>some d |none=>if k=y then some x else none
 |[]=>rfl
 |p::l=>by
  show(if p.1=y then some p.2 else vd y (l++[(k,x)]))=match (if p.1=y then some p.2 else vd y l) with |some d=>some d |none=>if k=y then some x else none
  by_cases e:p.1=y
  ·rw[if_pos e,if_pos e]
  ·rw[if_neg e,if_neg e];exact VG
theorem VH{α:Type}{k y:Int}{x:α}:∀{l:List (Int × α)},vd y (l.map λp=>if p.1=k then(p.1,x) else p)=if y=k then(vd y l).map λ_=>x else vd y l
 |[]=>by simp[vd]
 |p::l=>by
  have ih:=VH (k:=k) (y:=y) (x:=x) (l:=l);rw[zu];unfold vd;rw[ih]
  by_cases e:p.1=k<;>by_cases e2:p.1=y
  ·simp[e,show y=k by lia]
  ·simp[e,show ¬ k=y by lia,show ¬ y=k by lia]
  ·simp[e,e2,show ¬ y=k by lia]
  ·by_cases e3:y=k<;>simp[e,e2,e3,show ¬ p.1=k from e]
def KU{α:Type}{k y:Int}{x:α}{l:List (Int × α)}:vd y (vO k x l)=if y=k then some x else vd y l:=by
 unfold vO
 split
 ·rename_i h;rw[VH]
  by_cases e:y=k
  ·subst e;obtain⟨d,hd⟩:=Option.isSome_iff_exists.mp h;rw[if_pos rfl,if_pos rfl,hd];rfl
  ·rw[if_neg e,if_neg e]
 ·rename_i h;rw[VG]
  by_cases e:y=k
  ·subst e
   have hn:vd y l=none:=by cases q:vd y l with |none=>rfl |some d=>rw[q] at h;exact absurd rfl h
   rw[hn,if_pos rfl]
  ·rw [if_neg e]
   cases vd y l with
   |some d=>rfl
   |none=>exact if_neg λh=>e h.symm
def put_len{α:Type}{k:Int}{x:α}{l:List (Int × α)}:(vO k x l).length<=l.length+1:=by unfold vO;split<;>simp
theorem YQ{α:Type}{k y:Int}:∀{l:List (Int × α)},vd y (vS k l)=if y=k then none else vd y l
 |[]=>by simp[vS,vd]
 | p :: l => by
  have ih:=YQ (k:=k) (y:=y) (l:=l)
  by_cases e:p.1=k
  ·rw [show vS k (p :: l) = vS k l from yf (by simpa using e), ih]
   by_cases e2:y=k
   ·rw[if_pos e2,if_pos e2]
   ·rw[if_neg e2,if_neg e2];exact(if_neg q5).symm
  ·rw [show vS k (p :: l) = p :: vS k l from ye (by simpa using e)]
   show(if p.1=y then some p.2 else vd y (vS k l))=if y=k then none else(if p.1=y then some p.2 else vd y l)
   rw[ih]
   by_cases e2:y=k
   ·rw[if_pos e2,if_pos e2];exact if_neg q5
   ·rw[if_neg e2,if_neg e2]
def zs6{α:Type}{k:Int}{l:List (Int × α)}:(vS k l).length<=l.length:=List.length_filter_le ..
def names(ps:List Pt):List Int:=ps.flatMap λp=>p.left.map (·.1)
def yK(ps:List Pt):Nat:=(ps.map λp=>2^p.r).sum
def wt(R:Nat)(p:Pt):Nat:=p.left.length*(R-p.r)+p.gs.length*(1+R)
def wts(R:Nat)(ps:List Pt):Nat:=(ps.map (wt R)).sum
def brT(ps:List Pt):List (Int × D):=ps.map λp=>((p.r:Int),.rf p.a)
def off(r:Nat)(ps:List Pt):List Pt:=ps.filter λp=>decide (p.r≠r)
theorem yR:∀{ps:List Pt}{p:Pt},p∈ps->(ps.map (·.r)).Nodup->ps.Perm (p::off p.r ps)
 | q :: ps, p, h, hn => by
  rw[zu] at hn;have hn':=xo.mp hn
  rcases zd.mp h with rfl |h
  ·have e : off p.r (p :: ps) = off p.r ps := yf (by simp)
   have e2:off p.r ps=ps:=List.filter_eq_self.mpr λq hq=>by
    simp only[yA];exact λz=>hn'.1 (z ▸ zG hq)
   rw[e,e2]
  ·have ne : q.r ≠ p.r := λz => hn'.1 (z ▸ zG h)
   have e:off p.r (q::ps)=q::off p.r ps:=ye (by simpa using ne)
   rw[e];exact((yR h hn'.2).cons q).trans (.swap p q _)
def vC{ps qs:List Pt}(h:ps.Perm qs):yK ps=yK qs:=(h.map _).sum_nat
def jE{R:Nat}{ps qs:List Pt}(h:ps.Perm qs):wts R ps=wts R qs:=(h.map _).sum_nat
def yZ{ps qs:List Pt}(h:ps.Perm qs):(names ps).Perm (names qs):=List.Perm.flatMap_right _ h
def yV{p:Pt}{ps:List Pt}:yK (p::ps)=2^p.r+yK ps:=by simp[yK]
def jF{R:Nat}{p:Pt}{ps:List Pt}:wts R (p::ps)=wt R p+wts R ps:=by simp[wts]
def vq{p:Pt}{ps:List Pt}:names (p::ps)=p.left.map (·.1)++names ps:=rfl
theorem kQ:∀{ps:List Pt}{p:Pt},p∈ps->2^p.r<=yK ps
 |q::ps,p,h=>by
  rw[yV]
  rcases zd.mp h with rfl |h
  ·exact Nat.le_add_right ..
  ·exact zF (kQ h) (Nat.le_add_left ..)
theorem Ye:∀{ps:List Pt},ps.length<=yK ps
 |[]=>by simp
 |p::ps=>by
  have:=Ye (ps:=ps);have:=Nat.one_le_two_pow (n:=p.r);rw[yV,zt];lia
theorem Wr:∀{ps:List Pt}{i:Nat},(∃p∈ps,p.r=i/\vd (i:Int) (brT ps)=some (.rf p.a))\/(vd (i:Int) (brT ps)=none/\∀p∈ps,p.r≠i)
 |[],i=>.inr ⟨rfl,by simp⟩
 | q :: ps, i => by
  by_cases e:q.r=i
  ·refine .inl ⟨q, zo, e, ?_⟩
   show(if (q.r:Int)=i then some (D.rf q.a) else _)=_
   rw[if_pos q5]
  ·have e2 : vd (i : Int) (brT (q :: ps)) = vd (i : Int) (brT ps) := by
    show(if (q.r:Int)=i then some (D.rf q.a) else vd (i:Int) (brT ps))=_
    rw[if_neg q5]
   rw[e2]
   rcases Wr (ps:=ps) (i:=i) with ⟨p,hp,h1,h2⟩ |⟨h1,h2⟩
   ·exact .inl ⟨p,zc _ hp,h1,h2⟩
   ·refine .inr ⟨h1, λp hp => ?_⟩
    rcases zd.mp hp with rfl |hp
    ·exact e
    ·exact h2 p hp
def Jq{ps:List Pt}{p:Pt}(hn:(ps.map (·.r)).Nodup)(h:p∈ps):vd (p.r:Int) (brT ps)=some (.rf p.a):=by
 rcases Wr (ps:=ps) (i:=p.r) with ⟨q,hq,h1,h2⟩ |⟨_,h2⟩
 ·have e : q = p := by
   have hp:=(yR h hn)
   rcases zd.mp (hp.mem_iff.mp hq) with e |e
   ·exact e
   ·have:=(xh.mp e).2;simp[h1] at this
  rw[h2,e]
 ·exact absurd rfl (h2 p h)
def Ka{ps:List Pt}{r:Nat}:vS (r:Int) (brT ps)=brT (off r ps):=by
 unfold vS brT off;rw[List.filter_map]
 congr 1
 refine List.filter_congr λp _=>?_;show decide ((p.r:Int)≠r)=decide (p.r≠r)
 exact decide_eq_decide.mpr ⟨λh z=>h (by rw[z]),λh z=>h q5⟩
def zj4{ps:List Pt}{p:Pt}(h:∀q∈ps,q.r≠p.r):vO (p.r:Int) (.rf p.a) (brT ps)=brT (ps++[p]):=by
 have e:vd (p.r:Int) (brT ps)=none:=by
  rcases Wr (ps:=ps) (i:=p.r) with ⟨q,hq,h1,_⟩ |⟨h1,_⟩
  ·exact absurd h1 (h q hq)
  ·exact h1
 unfold vO;rw[e];show brT ps++[_]=_;unfold brT;rw[xU];rfl
structure Tran(d:Nat)(ps:List Pt)(T:List Thing)(rd:List (Int × D)):Prop where
 rn:(ps.map (·.r)).Nodup
 gu:∀p∈ps,GoodU d p.ts/\p.ts.length<=2^p.r
 gl:∀p∈ps,p.gs.length+p.left.length=p.ts.length
 al:(T.map (·.1)++names ps).Nodup
 dT:∀t∈T,t.2.1.length=d
 rk:∀p∈ps,∀t∈p.left,vd t.1 rd=some (.int (p.r:Int))
 kr:∀x,(vd x rd).isSome=true->x∈T.map (·.1)++names ps
def qI{ps:List Pt}{r:Nat}{p:Pt}(h:p∈off r ps):p∈ps/\p.r≠r:=by
 have:=xh.mp h
 exact⟨this.1,by simpa using this.2⟩
def zq5{p:Pt}{t:Thing}(h:t∈p.left):t∈p.ts:=(xh.mp h).1
def jW{ps:List Pt}{p:Pt}(hp:p∈ps)(hn:(ps.map (·.r)).Nodup)(T:List Thing):(T.map (·.1)++names ps).Perm ((p.left++T).map (·.1)++names (off p.r ps)):=by
 rw[xU];refine((yZ (yR hp hn)).append_left _).trans ?_;rw[vq,<- wb];exact(wR).append_right _
def Tran.pop{d:Nat}{ps:List Pt}{T:List Thing}{rk:List (Int × D)}(h:Tran d ps T rk){p:Pt}(hp:p∈ps):Tran d (off p.r ps) (p.left++T) rk:=by
 have np:=jW hp h.rn T;refine⟨?_,λq hq=>h.gu q (qI hq).1,λq hq=>h.gl q (qI hq).1,np.nodup_iff.mp h.al,λt ht=>?_,λq hq=>h.rk q (qI hq).1,λx hx=>np.mem_iff.mp (h.kr x hx)⟩
 ·exact((xz ..).map _).nodup h.rn
 ·rcases zI.mp ht with ht | ht
  ·exact(h.gu p hp).1.each t (zq5 ht)
  ·exact h.dT t ht
def kF(d:Nat)(br ro:Addr)(m:Nat):List (Str × D):=[("d",.int (d:Int)),("by_rank",.rf br),("rank_of",.rf ro),("so_many_made",.int (m:Int))]
def jD(k br ro:Addr)(ps:List Pt):List Addr:=k::br::ro::ps.flatMap λp=>[p.a,p.g]
structure Fm where
 n0:Nat
 S:Addr->Prop
def Fok(F:Fm)(n:Nat)(l:List Addr):Prop:=∀b,F.S b->xb n b=xb F.n0 b/\xb F.n0 b≠none/\b ∉ l
def Fok.only{F:Fm}{n n':Nat}{l l' r:List Addr}(h:Fok F n l)(o:OnlyC n n' r)(hr:∀a∈r,a∈l\/xb n a=none)(hl:∀a∈l',a∈l\/xb n a=none):Fok F n' l':=λb hb=>by
 obtain⟨h1,h2,h3⟩:=h b hb
 have no:∀a,a∈l\/xb n a=none->b≠a:=λa z e=>by
  subst e
  rcases z with z |z
  ·exact h3 z
  ·exact h2 (h1 ▸ z)
 exact⟨(o.o b λz=>no b (hr b z) rfl).trans h1,h2,λz=>no b (hl b z) rfl⟩
structure KAt(CP CK:Addr)(d n:Nat)(k br ro:Addr)(m:Nat)(ps:List Pt)(rk:List (Int × D))(F:Fm):Prop where
 i:xb n k=some (.ins CK (kF d br ro m))
 b:xb n br=some (.dic (brT ps))
 o:xb n ro=some (.dic rk)
 p:∀q∈ps,PartAt CP n q
 nd:(jD k br ro ps).Nodup
 f:Fok F n (jD k br ro ps)
def PartAt.only{CP:Addr}{n n':Nat}{l:List Addr}{p:Pt}(h:PartAt CP n p)(o:OnlyC n n' l)(ha:p.a ∉ l)(hg:p.g ∉ l):PartAt CP n' p:=by
 obtain⟨⟨x,y,e⟩,e2⟩:=h;exact⟨⟨x,y,(o.o _ ha).trans e⟩,(o.o _ hg).trans e2⟩
def Ws{k br ro:Addr}{ps:List Pt}{p:Pt}(h:p∈ps):p.a∈ps.flatMap (λp=>[p.a,p.g])/\p.g∈ps.flatMap λp=>[p.a,p.g]:=
 ⟨wj.mpr ⟨p,h,by simp⟩,wj.mpr ⟨p,h,by simp⟩⟩
def Jb{ps qs:List Pt}(h:qs.Sublist ps):(qs.flatMap λp=>[p.a,p.g]).Sublist (ps.flatMap λp=>[p.a,p.g]):=by
 induction h with
 |slnil=>exact List.Sublist.refl _
 |cons p _ ih=>rw[wq];exact ih.trans (List.sublist_append_right ..)
 |cons_cons p _ ih=>rw[wq,wq];exact(List.Sublist.refl _).append ih
section
variable {CP CK:Addr}{d n n':Nat}{k br ro:Addr}{m:Nat}{ps:List Pt}{rk:List (Int × D)}{F:Fm}
def KAt.apart(h:KAt CP CK d n k br ro m ps rk F):k≠br/\k≠ro/\br≠ro/\∀p∈ps,p.a≠k/\p.a≠br/\p.a≠ro/\p.g≠k/\p.g≠br/\p.g≠ro:=by
 have nd:=h.nd;unfold jD at nd;obtain⟨n1,nd⟩:=xo.mp nd;obtain⟨n2,nd⟩:=xo.mp nd;obtain⟨n3,nd⟩:=xo.mp nd;simp only[zd,not_or] at n1 n2;refine⟨n1.1,n1.2.1,n2.1,λp hp=>?_⟩;obtain⟨z1,z2⟩:=Ws (k:=k) (br:=br) (ro:=ro) hp;exact⟨λe=>n1.2.2 (e ▸ z1),λe=>n2.2 (e ▸ z1),λe=>n3 (e ▸ z1),λe=>n1.2.2 (e ▸ z2),λe=>n2.2 (e ▸ z2),λe=>n3 (e ▸ z2)⟩
def Vc:plC (.dic (brT ps))=true:=yQ.mpr λx hd=>by
 unfold brT at hd;rw[xi] at hd;obtain⟨p,_,rfl⟩:=zD.mp hd;rfl
def KAt.pop(h:KAt CP CK d n k br ro m ps rk F)(r:Nat):KAt CP CK d (vA n br (.dic (vS (r:Int) (brT ps)))) k br ro m (off r ps) rk F:=by
 obtain⟨a1,a2,a3,a4⟩:=h.apart;rw[Ka];have pl:=Vc (ps:=off r ps);have o:=OnlyC.set (n:=n) (a:=br) pl
 refine⟨(o.o _ (by simpa using a1)).trans h.i,wQ pl,(o.o _ (by simpa using Ne.symm a3)).trans h.o,λq hq=>?_,?_,h.f.only o (λa ha=>.inl (by rw[zq.mp ha];simp[jD])) λa ha=>.inl (List.Sublist.mem ha ((((Jb (xz ..)).cons₂ _).cons₂ _).cons₂ _))⟩
 ·obtain ⟨b1, b2, b3, b4, b5, b6⟩ := a4 q (qI hq).1
  exact(h.p q (qI hq).1).only o (by simpa using b2) (by simpa using b5)
 ·refine List.Sublist.nodup ?_ h.nd;exact(((Jb (xz ..)).cons₂ _).cons₂ _).cons₂ _
def KAt.kOfPop(r:Nat):kOf (vA n br (.dic (vS (r:Int) (brT ps))))=kOf n:=by rw[Ka];exact vQ Vc
def KAt.part(h:KAt CP CK d n k br ro m ps rk F){p:Pt}{q:Pt}(hq:PartAt CP n q)(r:Nat)(hb:q.a≠br/\q.g≠br):PartAt CP (vA n br (.dic (vS (r:Int) (brT ps)))) q:=by
 rw[Ka]
 exact hq.only (OnlyC.set Vc) (by simpa using hb.1) (by simpa using hb.2)
def KAt.put(h:KAt CP CK d n k br ro m ps rk F){p:Pt}(o:OnlyC n n' [p.a,p.g])(hap:xb n p.a=none)(hg:xb n p.g=none)(hag:p.g≠p.a)(hp:PartAt CP n' p)(hr:∀q∈ps,q.r≠p.r):xb n' br=some (.dic (brT ps))/\KAt CP CK d (vA n' br (.dic (vO (p.r:Int) (.rf p.a) (brT ps)))) k br ro m (ps++[p]) rk F:=by
 obtain⟨a1,a2,a3,a4⟩:=h.apart
 have nk:∀x c,xb n x=some c->x ∉ [p.a,p.g]:=by
  intro x c e hx
  rcases zd.mp hx with hx |hx
  ·rw[hx,hap] at e;cases e
  ·rw[zq.mp hx,hg] at e;cases e
 have kk:=nk k _ h.i;have kb:=nk br _ h.b;have ko:=nk ro _ h.o;have hb:xb n' br=some (.dic (brT ps)):=(o.o _ kb).trans h.b;refine⟨hb,?_⟩;rw[zj4 hr];have pl:=Vc (ps:=ps++[p]);have o2:=OnlyC.set (n:=n') (a:=br) pl;simp only[zd,xZ,or_false,not_or] at kk kb ko
 have np:∀q∈ps,q.a ∉ [p.a,p.g]/\q.g ∉ [p.a,p.g]:=λq hq=>by
  obtain⟨⟨x,y,e⟩,e2⟩:=h.p q hq;exact⟨nk _ _ e,nk _ _ e2⟩
 refine⟨(o2.o _ (by simpa using a1)).trans ((o.o _ (by simpa using kk)).trans h.i),wQ pl,(o2.o _ (by simpa using Ne.symm a3)).trans ((o.o _ (by simpa using ko)).trans h.o),λq hq=>?_,?_,(h.f.only o (λa ha=>.inr ?_) λa ha=>?_).only o2 (λa ha=>.inl (by rw[zq.mp ha];simp[jD])) λa ha=>.inl ha⟩
 rotate_left 2
 ·rcases zd.mp ha with ha | ha
  ·rw[ha];exact hap
  ·rw[zq.mp ha];exact hg
 ·rw [show jD k br ro (ps ++ [p]) = jD k br ro ps ++ [p.a, p.g] by simp [jD]] at ha
  rcases zI.mp ha with ha |ha
  ·exact .inl ha
  ·rcases zd.mp ha with ha | ha
   ·exact .inr (ha ▸ hap)
   ·exact .inr (zq.mp ha ▸ hg)
 ·rcases zI.mp hq with hq | hq
  ·obtain ⟨b1, b2, b3, b4, b5, b6⟩ := a4 q hq
   exact((h.p q hq).only o (np q hq).1 (np q hq).2).only o2 (by simpa using b2) (by simpa using b5)
  ·rw [zq.mp hq]
   exact hp.only o2 (by simpa using Ne.symm kb.1) (by simpa using Ne.symm kb.2)
 ·have e : jD k br ro (ps ++ [p]) = jD k br ro ps ++ [p.a, p.g] := by simp [jD]
  rw[e,xy]
  refine⟨h.nd,by simpa using Ne.symm hag,λx hx y hy z=>?_⟩
  subst z;unfold jD at hx
  rcases zd.mp hx with rfl |hx
  ·exact absurd hy (by simpa using kk)
  ·rcases zd.mp hx with rfl | hx
   ·exact absurd hy (by simpa using kb)
   ·rcases zd.mp hx with rfl | hx
    ·exact absurd hy (by simpa using ko)
    ·obtain ⟨q, hq, hx⟩ := wj.mp hx
     rcases zd.mp hx with rfl |hx
     ·exact absurd hy (np q hq).1
     ·rw[zq.mp hx] at hy;exact absurd hy (np q hq).2
def zC5{m:Nat}:plC (.ins CK (kF d br ro m))=true:=Vb (by simp[kF,plD])
def KAt.made(h:KAt CP CK d n k br ro m ps rk F)(m':Nat):KAt CP CK d (vA n k (.ins CK (kF d br ro m'))) k br ro m' ps rk F:=by
 obtain⟨a1,a2,a3,a4⟩:=h.apart;have o:=OnlyC.set (n:=n) (a:=k) (zC5 (CK:=CK) (d:=d) (br:=br) (ro:=ro) (m:=m'))
 refine⟨wQ zC5,(o.o _ (by simpa using Ne.symm a1)).trans h.b,(o.o _ (by simpa using Ne.symm a2)).trans h.o,λq hq=>?_,h.nd,h.f.only o (λa ha=>.inl (by rw[zq.mp ha];simp[jD])) λa ha=>.inl ha⟩
 obtain⟨b1,b2,b3,b4,b5,b6⟩:=a4 q hq
 exact(h.p q hq).only o (by simpa using b1) (by simpa using b4)
def KAt.rank(h:KAt CP CK d n k br ro m ps rk F){rk':List (Int × D)}(pl:plC (.dic rk')=true):KAt CP CK d (vA n ro (.dic rk')) k br ro m ps rk' F:=by
 obtain⟨a1,a2,a3,a4⟩:=h.apart;have o:=OnlyC.set (n:=n) (a:=ro) pl
 refine⟨(o.o _ (by simpa using a2)).trans h.i,(o.o _ (by simpa using a3)).trans h.b,wQ pl,λq hq=>?_,h.nd,h.f.only o (λa ha=>.inl (by rw[zq.mp ha];simp[jD])) λa ha=>.inl ha⟩
 obtain⟨b1,b2,b3,b4,b5,b6⟩:=a4 q hq
 exact(h.p q hq).only o (by simpa using b3) (by simpa using b6)
def VX(r:Nat)(gs:List (Int × D))(ps:List Pt):List Pt:=ps.map λq=>if q.r=r then { q with gs:=gs } else q
def zz7{r:Nat}{gs:List (Int × D)}:brT (VX r gs ps)=brT ps:=by
 unfold brT VX;rw[xi];refine List.map_congr_left λp _=>?_
 show(((if p.r=r then { p with gs:=gs } else p).r:Int),D.rf (if p.r=r then { p with gs:=gs } else p).a)=_
 split<;>rfl
def WV{r:Nat}{gs:List (Int × D)}:jD k br ro (VX r gs ps)=jD k br ro ps:=by
 unfold jD VX;rw[List.flatMap_map]
 congr 3
 refine congrArg (λf=>List.flatMap f ps) (funext λp=>?_)
 split<;>rfl
def KAt.gone(h:KAt CP CK d n k br ro m ps rk F)(hn:(ps.map (·.r)).Nodup){p:Pt}(hp:p∈ps){gs:List (Int × D)}(pl:plC (.dic gs)=true):KAt CP CK d (vA n p.g (.dic gs)) k br ro m (VX p.r gs ps) rk F:=by
 obtain⟨a1,a2,a3,a4⟩:=h.apart;have o:=OnlyC.set (n:=n) (a:=p.g) pl;obtain⟨b1,b2,b3,b4,b5,b6⟩:=a4 p hp
 refine⟨(o.o _ (by simpa using Ne.symm b4)).trans h.i,?_,(o.o _ (by simpa using Ne.symm b6)).trans h.o,λq hq=>?_,by rw[WV];exact h.nd,h.f.only o (λa ha=>.inl (by rw[zq.mp ha];exact zc _ (zc _ (zc _ (Ws (k:=k) (br:=br) (ro:=ro) hp).2)))) λa ha=>.inl (by rwa [WV] at ha)⟩
 ·rw[zz7];exact(o.o _ (by simpa using Ne.symm b5)).trans h.b
 ·obtain ⟨q0, hq0, rfl⟩ := zD.mp hq
  have nd:([p.a,p.g]++(off p.r ps).flatMap λp=>[p.a,p.g]).Nodup:=by
   have:=(List.Perm.flatMap_right (λp:Pt=>[p.a,p.g]) (yR hp hn)).nodup_iff.mp (xo.mp (xo.mp (xo.mp h.nd).2).2).2
   rwa [wq] at this
  rw[xy] at nd
  split
  ·rename_i e
   have e2:q0=p:=by
    rcases zd.mp ((yR hp hn).mem_iff.mp hq0) with e |e2
    ·exact e
    ·exact absurd e (qI e2).2
   subst e2;obtain⟨⟨x,y,e3⟩,_⟩:=h.p q0 hp
   have ne:q0.a≠q0.g:=λz=>(xo.mp nd.1).1 (by simp[z])
   exact⟨⟨x,y,(o.o _ (by simpa using ne)).trans e3⟩,wQ pl⟩
  ·rename_i e
   have m:q0∈off p.r ps:=xh.mpr ⟨hq0,by simpa using e⟩
   obtain⟨z1,z2⟩:=Ws (k:=k) (br:=br) (ro:=ro) m
   exact(h.p q0 hq0).only o (by simpa using λz=>nd.2.2 p.g (by simp) _ z1 z.symm) (by simpa using λz=>nd.2.2 p.g (by simp) _ z2 z.symm)
end
@[simp] theorem nk1:(("d" : Str) = "by_rank")=False:=eq_false w5
@[simp] theorem nk2:(("d" : Str) = "rank_of")=False:=eq_false w5
@[simp] theorem nk3:(("d" : Str) = "so_many_made")=False:=eq_false w5
@[simp] theorem nk4:(("by_rank" : Str) = "rank_of")=False:=eq_false w5
@[simp] theorem nk5:(("by_rank" : Str) = "so_many_made")=False:=eq_false w5
@[simp] theorem nk6:(("rank_of" : Str) = "so_many_made")=False:=eq_false w5
def xm9{d br ro m}:qe "d" (kF d br ro m)=some (.int (d:Int)):=by simp[kF,qe]
def Wj{d br ro m}:qe "by_rank" (kF d br ro m)=some (.rf br):=by simp[kF,qe]
def ze2{d br ro m}:qe "rank_of" (kF d br ro m)=some (.rf ro):=by simp[kF,qe]
def xm8{d br ro m}:qe "so_many_made" (kF d br ro m)=some (.int (m:Int)):=by simp[kF,qe]
def zT3{d br ro m m'}:XT "so_many_made" (.int ((m':Nat):Int)) (kF d br ro m)=kF d br ro m':=by simp[kF,XT]
def kP{f:Str}(h:f ≠ "d" /\ f ≠ "by_rank" /\ f ≠ "rank_of" /\ f ≠ "so_many_made" := by decide +kernel){d br ro m}:qe f (kF d br ro m)=none:=by
 simp[kF,qe,Ne.symm h.1,Ne.symm h.2.1,Ne.symm h.2.2.1,Ne.symm h.2.2.2]
def Zf(f:Nat)(T:List Thing)(rk:List (Int × D)):List (Int × D):=T.foldl (λr t=>vO t.1 (.int (f:Int)) r) rk
theorem Yl{f:Nat}{y:Int}:∀{T:List Thing}{rk:List (Int × D)},vd y (Zf f T rk)=if y∈T.map (·.1) then some (.int (f:Int)) else vd y rk
 |[],rk=>by simp[Zf]
 | t :: T, rk => by
  show vd y (Zf f T (vO t.1 (.int (f:Int)) rk))=_;rw[Yl,KU]
  by_cases h:y∈T.map (·.1)
  ·rw[if_pos h,if_pos (by rw[zu];exact zc _ h)]
  ·rw [if_neg h]
   by_cases e:y=t.1
   ·rw[if_pos e,if_pos (by rw[zu,e];exact zo)]
   ·rw[if_neg e,if_neg (by rw[zu,zd,not_or];exact⟨e,h⟩)]
theorem Yk{f:Nat}:∀{T:List Thing}{rk:List (Int × D)},(Zf f T rk).length<=rk.length+T.length
 |[],rk=>by simp[Zf]
 |t::T,rk=>by
  have h:=Yk (f:=f) (T:=T) (rk:=vO t.1 (.int (f:Int)) rk);have:=put_len (k:=t.1) (x:=D.int (f:Int)) (l:=rk);show(Zf f T (vO t.1 (.int (f:Int)) rk)).length<=_;rw[zt];lia
def ZT{p:Pt}(hg:p.gs=[]):p.left=p.ts:=by
 unfold Pt.left;rw[hg];exact List.filter_eq_self.mpr λt _=>rfl
def names_snoc{ps:List Pt}{p:Pt}:names (ps++[p])=names ps++p.left.map (·.1):=by unfold names;rw[flatMap_append];simp
def Tran.put{d:Nat}{ps:List Pt}{T:List Thing}{rk:List (Int × D)}(h:Tran d ps T rk){p:Pt}(hr:∀q∈ps,q.r≠p.r)(ht:p.ts=T)(hg:p.gs=[])(hz:T.length<=2^p.r):Tran d (ps++[p]) [] (Zf p.r T rk):=by
 have hl:p.left=T:=(ZT hg).trans ht
 have nm:names (ps++[p])=names ps++T.map (·.1):=by rw[names_snoc,hl]
 have al:=h.al;rw[xy] at al
 refine⟨?_,λq hq=>?_,λq hq=>?_,?_,λt ht=>by simp at ht,λq hq t htq=>?_,λx hx=>?_⟩
 ·rw [xU, xy]
  refine⟨h.rn,by simp,λx hx y hy z=>?_⟩
  obtain⟨q,hq,rfl⟩:=zD.mp hx;simp at hy;exact hr q hq (z.trans hy)
 ·rcases zI.mp hq with hq | hq
  ·exact h.gu q hq
  ·rw[zq.mp hq,ht];exact⟨⟨h.dT,al.1⟩,hz⟩
 ·rcases zI.mp hq with hq | hq
  ·exact h.gl q hq
  ·rw[zq.mp hq,hl,ht,hg];simp
 ·rw[xM,xl,nm,xy];exact⟨al.2.1,al.1,λx hx y hy z=>al.2.2 y hy x hx z.symm⟩
 ·rw [Yl]
  rcases zI.mp hq with hq |hq
  ·rw[if_neg λz=>al.2.2 _ z _ (wj.mpr ⟨q,hq,zG htq⟩) rfl];exact h.rk q hq t htq
  ·rw[zq.mp hq] at htq ⊢;rw[hl] at htq;rw[if_pos (zG htq)]
 ·rw [Yl] at hx;rw[xM,xl,nm]
  by_cases e:x∈T.map (·.1)
  ·exact zr _ e
  ·rw [if_neg e] at hx
   rcases zI.mp (h.kr x hx) with z |z
   ·exact absurd z e
   ·exact xR _ z
def Tran.perm{d:Nat}{ps qs:List Pt}{T:List Thing}{rk:List (Int × D)}(h:Tran d ps T rk)(pm:ps.Perm qs):Tran d qs T rk:=
 ⟨(pm.map _).nodup_iff.mp h.rn,λp hp=>h.gu p (pm.mem_iff.mpr hp),λp hp=>h.gl p (pm.mem_iff.mpr hp),((yZ pm).append_left _).nodup_iff.mp h.al,h.dT,λp hp=>h.rk p (pm.mem_iff.mpr hp),λx hx=>((yZ pm).append_left _).mem_iff.mp (h.kr x hx)⟩
def jM{ps:List Pt}{p:Pt}{gs:List (Int × D)}(hp:p∈ps)(hn:(ps.map (·.r)).Nodup):(VX p.r gs ps).Perm ({ p with gs:=gs }::off p.r ps):=by
 have h:=(yR hp hn).map (λq:Pt=>if q.r=p.r then { q with gs:=gs } else q)
 rw[zu,if_pos rfl] at h
 have e:(off p.r ps).map (λq:Pt=>if q.r=p.r then { q with gs:=gs } else q)=off p.r ps:=by
  refine(List.map_congr_left λq hq=>if_neg (qI hq).2).trans ?_;exact List.map_id _
 rw[e] at h;exact h
theorem ZV:∀{l:List Thing}{t:Thing},t∈l->(l.map (·.1)).Nodup->(l.filter λu=>decide (u.1≠t.1)).length+1=l.length
 | u :: l, t, h, hn => by
  rw[zu] at hn;have hn':=xo.mp hn
  rcases zd.mp h with rfl |h
  ·rw [yf (by simp), List.filter_eq_self.mpr λv hv => by
    simp only[yA]
    exact λz=>hn'.1 (z ▸ zG hv)]
   rfl
  ·have ne : u.1 ≠ t.1 := λz => hn'.1 (z ▸ zG h)
   rw[ye (by simpa using ne),zt,ZV h hn'.2,zt]
def Vt{ps:List Pt}{x:Int}(h:x∈names ps):∃p∈ps,∃t∈p.left,t.1=x:=by
 obtain⟨p,hp,h⟩:=wj.mp h;obtain⟨t,ht,e⟩:=zD.mp h;exact⟨p,hp,t,ht,e⟩
def Wk{p:Pt}{t:Thing}(ht:t∈p.left):vd t.1 p.gs=none/\vO t.1 (D.bl true) p.gs=p.gs++[(t.1,D.bl true)]/\({ p with gs:=vO t.1 (D.bl true) p.gs }:Pt).left=p.left.filter λu=>decide (u.1≠t.1):=by
 have h:=(xh.mp ht).2;unfold zv6 at h
 have e:vd t.1 p.gs=none:=by cases q:vd t.1 p.gs with |none=>rfl |some d=>rw[q] at h;cases h
 refine⟨e,by unfold vO;rw[e];rfl,?_⟩
 show p.ts.filter (zv6 (vO t.1 (D.bl true) p.gs))=(p.ts.filter (zv6 p.gs)).filter _;rw[List.filter_filter];refine List.filter_congr λu _=>?_;unfold zv6;rw[KU]
 by_cases c:u.1=t.1
 ·rw[if_pos c];simp[c]
 ·rw[if_neg c];simp[c]
def Tran.go{d:Nat}{ps:List Pt}{rk:List (Int × D)}(h:Tran d ps [] rk){p:Pt}{t:Thing}(hp:p∈ps)(ht:t∈p.left) :
  Tran d (VX p.r (vO t.1 (D.bl true) p.gs) ps) [] (vS t.1 rk)/\(∀y,y∈names (VX p.r (vO t.1 (D.bl true) p.gs) ps)↔y∈names ps/\y≠t.1)/\yK (VX p.r (vO t.1 (D.bl true) p.gs) ps)=yK ps /\
  ∀R,wts R (VX p.r (vO t.1 (D.bl true) p.gs) ps)<=wts R ps+(1+R):=by
 have pm:=yR hp h.rn;have pr:=jM (gs:=vO t.1 (D.bl true) p.gs) hp h.rn;obtain⟨g1,g2,g3⟩:=Wk ht;have al:=h.al;rw[xM,xl] at al;have al2:=(yZ pm).nodup_iff.mp al;rw[vq,xy] at al2;have ll:=ZV ht al2.1
 have nm:∀y,y∈names ({ p with gs:=vO t.1 (D.bl true) p.gs }::off p.r ps)↔y∈names ps/\y≠t.1:=λy=>by
  rw[(yZ pm).mem_iff,vq,vq,g3,zI,zI]
  constructor
  ·rintro (z | z)
   ·obtain ⟨u, hu, rfl⟩ := zD.mp z;have:=xh.mp hu
    exact⟨.inl (zG this.1),by simpa using this.2⟩
   ·exact⟨.inr z,λe=>al2.2.2 _ (zG ht) _ z e.symm⟩
  ·rintro ⟨z | z, ne⟩
   ·obtain ⟨u, hu, rfl⟩ := zD.mp z
    exact .inl (zG (xh.mpr ⟨hu,by simpa using ne⟩))
   ·exact .inr z
 refine⟨Tran.perm ?_ pr.symm,λy=>(yZ pr).mem_iff.trans (nm y),?_,λR=>?_⟩
 ·have h2 := h.perm pm
  refine⟨h2.rn,λq hq=>?_,λq hq=>?_,?_,λt ht=>by simp at ht,λq hq u hu=>?_,λx hx=>?_⟩
  ·rcases zd.mp hq with rfl | hq
   ·exact h.gu p hp
   ·exact h2.gu q (zc _ hq)
  ·rcases zd.mp hq with rfl | hq
   ·have:=h.gl p hp;rw[g3];show(vO t.1 (D.bl true) p.gs).length+_=p.ts.length;rw[g2,zA];simp only[zt,ya];lia
   ·exact h2.gl q (zc _ hq)
  ·rw[xM,xl,vq,g3,xy];exact⟨((xz ..).map _).nodup al2.1,al2.2.1,λa ha b hb=>al2.2.2 a (((xz ..).map _).mem ha) b hb⟩
  ·have hy : u.1 ∈ names ({ p with gs := vO t.1 (D.bl true) p.gs } :: off p.r ps) := wj.mpr ⟨q, hq, zG hu⟩;rw[YQ,if_neg ((nm _).mp hy).2]
   rcases zd.mp hq with rfl |hq
   ·rw[g3] at hu;exact h.rk p hp u (xh.mp hu).1
   ·exact h.rk q (qI hq).1 u hu
  ·rw [YQ] at hx
   by_cases e:x=t.1
   ·rw[if_pos e] at hx;cases hx
   ·rw[if_neg e] at hx;rw[xM,xl];exact(nm x).mpr ⟨h.kr x hx,e⟩
 ·rw[vC pr,vC pm,yV,yV]
 ·rw [jE pr, jE pm, jF, jF]
  have e:wt R { p with gs:=vO t.1 (D.bl true) p.gs }=(p.left.filter λu=>decide (u.1≠t.1)).length*(R-p.r)+(p.gs.length+1)*(1+R):=by
   unfold wt;rw[g3];show _+(vO t.1 (D.bl true) p.gs).length*(1+R)=_;rw[g2,zA];rfl
  have e2:(p.left.filter λu=>decide (u.1≠t.1)).length*(R-p.r)<=p.left.length*(R-p.r):=Nat.mul_le_mul_right _ q5
  have e3:(p.gs.length+1)*(1+R)=p.gs.length*(1+R)+(1+R):=Nat.succ_mul ..;rw[e,e3];unfold wt;lia
def zA5{a b R:Nat}(h:b+2^a<2^(R+1)):a<=R:=by
 have:2^a<2^(R+1):=q5
 have:=(Nat.pow_lt_pow_iff_right (by decide:1<2)).mp this
 lia
inductive PutM:List Pt->Nat->List Thing->List Pt->List Thing->Prop where
 |stop {ps:List Pt}{s:Nat}{T:List Thing}{a g:Addr}:(∀q∈ps,q.r≠s)->PutM ps s T (ps++[⟨s,a,g,T,[]⟩]) T
 |step {ps:List Pt}{p:Pt}{T:List Thing}{ps':List Pt}{L:List Thing}:p∈ps->PutM (off p.r ps) (p.r+1) (p.left++T) ps' L->PutM ps p.r T ps' L
structure JPut(CP CK:Addr)(d:Nat)(k br ro:Addr)(m n:Nat)(rk:List (Int × D))(F:Fm)(ps0:List Pt)(T0:List Thing)(s:Nat)(mm:Nat)(rho:Rho)(n':Nat):Prop where
 hk:kOf n'=kOf n
 he:∃(i:Nat) (T:List Thing) (ps:List Pt),mm=ps.length/\rho=[some (.rf k),some (.int (i:Int)),some (.lst (T.map zZ)),none]/\KAt CP CK d n' k br ro m ps rk F/\Tran d ps T rk/\1<=T.length/\T.length<=2^i/\yK ps+2^i=yK ps0+2^s /\
  ∀ps' L,PutM ps i T ps' L->PutM ps0 s T0 ps' L
structure JRk(CP CK:Addr)(d:Nat)(k br ro:Addr)(m n f:Nat)(rk:List (Int × D))(F:Fm)(ps:List Pt)(T:List Thing)(i:Nat)(rho:Rho)(n':Nat):Prop where
 hk:kOf n'=kOf n
 he:∃z:Option D,rho=[some (.rf k),some (.int (f:Int)),some (.lst (T.map zZ)),z]
 ha:KAt CP CK d n' k br ro m ps (Zf f (T.take i) rk) F
def PutM.size{ps:List Pt}{s:Nat}{T:List Thing}{ps':List Pt}{L:List Thing}(h:PutM ps s T ps' L)(hn:(ps.map (·.r)).Nodup):yK ps'=yK ps+2^s:=by
 induction h with
 |stop _=>unfold yK;simp
 |@step ps p T ps' L hp _ ih=>
  have e:=(vC (yR hp hn)).trans yV;rw[ih (((xz ..).map _).nodup hn),e,wZ];lia
def PutM.names{ps:List Pt}{s:Nat}{T:List Thing}{ps':List Pt}{L:List Thing}(h:PutM ps s T ps' L)(hn:(ps.map (·.r)).Nodup):∀x,x∈names ps'↔x∈T.map (·.1)++names ps:=by
 induction h with
 |stop _=>intro x;rw[names_snoc,ZT rfl];exact List.perm_append_comm.mem_iff
 |@step ps p T ps' L hp _ ih=>intro x;rw[ih (((xz ..).map _).nodup hn) x];exact(jW hp hn T).mem_iff.symm
def PutM.cost{ps:List Pt}{s:Nat}{T:List Thing}{ps':List Pt}{L:List Thing}(h:PutM ps s T ps' L)(hn:(ps.map (·.r)).Nodup){R:Nat}(hR:yK ps+2^s<2^(R+1)):L.length+wts R ps'<=wts R ps+T.length*(1+R-s):=by
 induction h with
 | @stop ps s T a g _ =>
  have hs:s<=R:=zA5 hR
  have e2:wts R (ps++[⟨s,a,g,T,[]⟩])=wts R ps+T.length*(R-s):=by unfold wts wt;simp[ZT]
  have e3:T.length*(1+R-s)=T.length+T.length*(R-s):=by
   rw[show 1+R-s=(R-s)+1 by lia,Nat.mul_succ];lia
  lia
 |@step ps p T ps' L hp _ ih=>
  have pm:=yR hp hn;have e1:yK ps=2^p.r+yK (off p.r ps):=(vC pm).trans yV
  have h0:=ih (((xz ..).map _).nodup hn) (by rw[wZ];lia)
  have e3:wts R ps=wt R p+wts R (off p.r ps):=(jE pm).trans jF;unfold wt at e3
  rw[show 1+R-(p.r+1)=R-p.r by lia,zA,Nat.add_mul] at h0
  have e5:T.length*(R-p.r)<=T.length*(1+R-p.r):=Nat.mul_le_mul_left _ q5
  lia
section
variable {P:Program}{w:World}{K:W.Frag}{mg:Str->Option Value}{base:Heap}{CP CK:Addr}
abbrev jp:Stmt:=vR (top 52) 0
abbrev Kl:List Str:=["self","d"]
def WS:FnScope Kl ["self","d"] (zV jp):=⟨rfl,rfl,rfl,w5,rfl,w5,w5⟩
def Ui(CK:Addr):TF:=λds n Q=>∃(k:Addr) (d:Nat) (F:Fm),ds=[.rf k,.int (d:Int)]/\xb n k=some (.ins CK [])/\Fok F n [k]/\∀n' br ro,(∀CP,KAt CP CK d n' k br ro 0 [] [] F)->kOf n'=kOf n->Q .non n'
def zq0(CL_Kept:Cls K CK)(NA_d:NoAttr K CK "d")(NA_by_rank:NoAttr K CK "by_rank")(NA_rank_of:NoAttr K CK "rank_of")(NA_so_many_made:NoAttr K CK "so_many_made")(F:Fun K "__init__" "Kept.__init__" jp f fd):FnOk P w K mg base CX0 1 f fd ["self","d"] (spD K 2 (Ui CK)):=by
 refine Fun.okD F WS (λcdv A0 outer s H E G Z _ hr=>(xa (kG CL_Kept NA_d (zn 0) (zn 1))
  (xa (kG CL_Kept NA_by_rank (zn 0) XY)
  (xa (kG CL_Kept NA_rank_of (zn 0) XY)
  (xj (kG CL_Kept NA_so_many_made (zn 0) xC)))))) ?_
 rintro ds n Q hl ⟨k,d,F,rfl,hc,hF,q⟩;simp[wx]
 refine xn hc ⟨rfl,by simp,?_⟩
 simp[XT];have p1:plC (.ins CK [("d",.int (d:Int))])=true:=rfl;have o1:=OnlyC.set (n:=n) (a:=k) p1;have c1:=wQ (n:=n) (a:=k) p1;have k1:=o1.k;generalize vA n k _=n1 at o1 c1 k1 ⊢;intro br hbn
 have bk:br≠k:=λe=>by rw[e,c1] at hbn;cases hbn
 have p2:plC (.dic [])=true:=rfl
 have hb0:xb n br=none:=(o1.o br (by simpa using bk)).symm.trans hbn
 have o2:=(o1.mono (r:=[k,br]) (by simp)).setTo (a:=br) p2 (by simp)
 have k2:=(OnlyC.set (n:=n1) (a:=br) p2).k.trans k1;have c2:=(vF (n:=n1) (a:=br) (b:=k) p2 (Ne.symm bk)).trans c1;have b2:=wQ (n:=n1) (a:=br) p2;generalize vA n1 br _=n2 at o2 k2 c2 b2 ⊢
 refine xn c2 ⟨rfl,by simp,?_⟩
 simp[XT];have p3:plC (.ins CK [("d",.int (d:Int)),("by_rank",.rf br)])=true:=rfl
 have o3:=o2.setTo (a:=k) p3 (by simp)
 have k3:=(OnlyC.set (n:=n2) (a:=k) p3).k.trans k2;have c3:=wQ (n:=n2) (a:=k) p3;have b3:=(vF (n:=n2) (a:=k) (b:=br) p3 bk).trans b2;generalize vA n2 k _=n3 at o3 k3 c3 b3 ⊢;intro ro hrn
 have rk:ro≠k:=λe=>by rw[e,c3] at hrn;cases hrn
 have rb:ro≠br:=λe=>by rw[e,b3] at hrn;cases hrn
 have hr0:xb n ro=none:=(o3.o ro (by simpa using ⟨rk,rb⟩)).symm.trans hrn
 have o4:=(o3.mono (r:=[k,br,ro]) (by simp)).setTo (a:=ro) p2 (by simp)
 have k4:=(OnlyC.set (n:=n3) (a:=ro) p2).k.trans k3;have c4:=(vF (n:=n3) (a:=ro) (b:=k) p2 (Ne.symm rk)).trans c3;have b4:=(vF (n:=n3) (a:=ro) (b:=br) p2 (Ne.symm rb)).trans b3;have r4:=wQ (n:=n3) (a:=ro) p2;generalize vA n3 ro _=n4 at o4 k4 c4 b4 r4 ⊢
 refine xn c4 ⟨rfl,by simp,?_⟩
 simp[XT];have p5:plC (.ins CK [("d",.int (d:Int)),("by_rank",.rf br),("rank_of",.rf ro)])=true:=rfl
 have o5:=o4.setTo (a:=k) p5 (by simp)
 have k5:=(OnlyC.set (n:=n4) (a:=k) p5).k.trans k4;have c5:=wQ (n:=n4) (a:=k) p5;have b5:=(vF (n:=n4) (a:=k) (b:=br) p5 bk).trans b4;have r5:=(vF (n:=n4) (a:=k) (b:=ro) p5 rk).trans r4;generalize vA n4 k _=n5 at o5 k5 c5 b5 r5 ⊢
 refine xn c5 ⟨rfl,by simp,?_⟩
 simp[XT];have p6:plC (.ins CK (kF d br ro 0))=true:=rfl
 refine q _ br ro (λCP=>⟨wQ p6,(vF p6 bk).trans b5,(vF p6 rk).trans r5,λq hq=>by simp at hq,?_,hF.only (o5.setTo (a:=k) p6 (by simp)) (λa ha=>?_) λa ha=>?_⟩) ((OnlyC.set (n:=n5) (a:=k) p6).k.trans k5)
 ·simpa [jD] using ⟨⟨Ne.symm bk,Ne.symm rk⟩,Ne.symm rb⟩
 ·simp only [zd, xZ, or_false] at ha
  rcases ha with rfl |rfl |rfl
  ·exact .inl (by simp)
  ·exact .inr hb0
  ·exact .inr hr0
 ·simp only [jD, List.flatMap_nil, zd, xZ, or_false] at ha
  rcases ha with rfl |rfl |rfl
  ·exact .inl (by simp)
  ·exact .inr hb0
  ·exact .inr hr0
abbrev qi:Stmt:=vR (top 52) 1
abbrev Wv:List Str:=["self","rank","things","thing"]
def vI:FnScope Wv qZ8 (zV qi):=⟨rfl,rfl,rfl,w5,rfl,w5,w5⟩
def XE(CP CK:Addr):TF:=λds n Q=>∃(d:Nat) (k br ro:Addr) (m:Nat) (ps:List Pt) (rk:List (Int × D)) (F:Fm) (s:Nat) (T:List Thing),ds=[.rf k,.int (s:Int),.lst (T.map zZ)]/\1<=d/\d<=4/\KAt CP CK d n k br ro m ps rk F/\Tran d ps T rk/\1<=T.length/\T.length<=2^s/\yK ps+2^s<500/\rk.length<=m/\m<=100000 /\
 ∀n' ps' rk' L,KAt CP CK d n' k br ro (m+L.length) ps' rk' F->kOf n'=kOf n->Tran d ps' [] rk'->rk'.length<=m+L.length->PutM ps s T ps' L->Q .non n'
def zp5(T:Blt mg)(CL_Kept:Cls K CK)(NA_d:NoAttr K CK "d")(NA_by_rank:NoAttr K CK "by_rank")(NA_rank_of:NoAttr K CK "rank_of")(NA_so_many_made:NoAttr K CK "so_many_made")(F:Fun K "put_in" "Kept.put_in" qi f fd)(M_left:MthC P w K mg base CP "left" 1 0 (Yb CP))(MK_Part:MkeC P w K mg base CP "Part" 14 2 (Uf CP)):FnOk P w K mg base CX0 16 f fd qZ8 (spD K 3 (XE CP CK)):=by
 refine Fun.okD F vI (λcdv A0 outer s H E G Z _ hr=>(xa (za3 PassesOwn.never (Ur (qL hr) (zn 1) (yE CL_Kept NA_by_rank (zn 0)) (by with_unfolding_all rfl))
  (xa (yw (i:=2) vI.nd rfl (lo rfl) (Yr zv8 zu6 (vK M_left (hr.mono q9) rfl (XX (yE CL_Kept NA_by_rank (zn 0)) (zn 1) ⟨rfl,rfl,rfl,rfl⟩)) (zn 2)))
  (xj (zn4 zT7 (i:=1) vI.nd rfl (lo rfl) xC))))
  (xa (ZM (qL hr) (yE CL_Kept NA_by_rank (zn 0)) (zn 1) (KF MK_Part (hr.mono q9) rfl (ze (yE CL_Kept NA_d (zn 0)) (ze (zn 2) zL))))
  (xa (Uu CL_Kept NA_so_many_made (zn 0) (wU yc qy T.len qz (ze (zn 2) zL)))
  (xj (Ut (m:=4) PassesOwn.never rfl (va rfl (zn 2)) (wD (i:=3) vI.nd rfl (lo rfl) q9)
  (xj (ZM (qL hr) (yE CL_Kept NA_rank_of (zn 0)) (Zk kW Zg (zn 3) xC (λ_ _=>rfl)) (zn 1))))))))) ?_
 rintro ds n Q hl ⟨d,k,br,ro,m,ps0,rk,F,s,T0,rfl,hd1,hd4,hk,ht,h1,hs,hz,hrk,hm,q⟩;simp[wx];refine⟨JPut CP CK d k br ro m n rk F ps0 T0 s,⟨_,rfl,s,T0,ps0,rfl,rfl,hk,ht,h1,hs,rfl,λ_ _ h=>h⟩,?_⟩;rintro mm rho n1 ⟨hkn,i,T,ps,rfl,rfl,hk,ht,h1,hi,hsz,hP⟩;simp;refine xn hk.i ?_;rw[Wj];simp;refine wo hk.b ?_;obtain⟨a1,a2,a3,a4⟩:=hk.apart
 rcases Wr (ps:=ps) (i:=i) with ⟨p,hp,rfl,hg⟩ |⟨hg,hno⟩
 ·rw [hg];simp;refine xn hk.i ?_;rw[Wj];simp;refine wo hk.b (wo hk.b ?_);rw[hg];simp;obtain⟨b1,b2,b3,b4,b5,b6⟩:=a4 p hp;have kp:=hk.pop p.r;have pa:=hk.part (p:=p) (hk.p p hp) p.r ⟨b2,b5⟩;have k2:=(KAt.kOfPop (n:=n1) (br:=br) (ps:=ps) p.r).trans hkn;generalize vA n1 br _=n2 at kp pa k2 ⊢;obtain⟨⟨h,tr,ei⟩,eg⟩:=pa;have l1:=(ht.gu p hp).2;have l2:p.left.length<=p.ts.length:=List.length_filter_le ..;have l3:=kQ hp
  refine xn ei ⟨Uw,p,rfl,⟨⟨h,tr,ei⟩,eg⟩,q5,?_⟩
  simp;have pm:=yR hp ht.rn;have e1:yK ps=2^p.r+yK (off p.r ps):=(vC pm).trans yV
  have e2:2^(p.r+1)=2*2^p.r:=by rw[wZ];lia
  refine⟨yL q5,(off p.r ps).length,by rw[pm.length_eq];simp,k2,p.r+1,p.left++T,off p.r ps,rfl,by simp,kp,ht.pop hp,by rw[zA];lia,by rw[zA];lia,q5,λps' L h=>hP ps' L (.step hp h)⟩
 ·rw [hg];simp
  have lT:2^i<500:=q5
  refine xn hk.i ?_;rw[xm9];simp;intro a han
  have gT:GoodU d T:=⟨ht.dT,by have:=ht.al;rw[xy] at this;exact this.1⟩
  have pl0:plC (.ins CP [])=true:=rfl
  refine⟨a,d,T,rfl,wQ pl0,hd1,hd4,gT,h1,q5,λg h tr n2 hga hgn o hca hcg=>⟨rfl,?_⟩⟩
  have hgn1:xb n1 g=none:=by rw[<- hgn];exact(vF pl0 hga).symm
  have o1:OnlyC n1 n2 [a,g]:=((OnlyC.set (n:=n1) (a:=a) pl0).trans o).mono λb hb=>by
   rcases zI.mp hb with hb |hb
   ·rw[zq.mp hb];exact zo
   ·exact hb
  obtain⟨hb2,kp⟩:=hk.put (p:=⟨i,a,g,T,[]⟩) o1 han hgn1 hga ⟨⟨h,tr,hca⟩,hcg⟩ hno
  have ki:=(o1.o k (by
   intro z
   rcases zd.mp z with z |z
   ·rw[<- z,hk.i] at han;cases han
   ·rw[<- zq.mp z,hk.i] at hgn1;cases hgn1)).trans hk.i
  have k2:kOf n2=kOf n:=o1.k.trans hkn;refine xn ki ?_;rw[Wj];simp
  have lb:(brT ps).length<=yK ps:=by unfold brT;rw[zm];exact Ye
  refine wo hb2 ⟨rfl,lt_size q5,?_⟩
  have k3:kOf (vA n2 br (.dic (vO (i:Int) (.rf a) (brT ps))))=kOf n:=by
   rw[zj4 (p:=⟨i,a,g,T,[]⟩) hno];exact(vQ Vc).trans k2
  generalize vA n2 br _=n3 at kp k3 ⊢;refine xn kp.i ?_;rw[xm8];simp
  refine xn kp.i ⟨by simp[kF],?_⟩
  rw[show(m:Int)+(T.length:Int)=((m+T.length:Nat):Int) by simp,zT3]
  have km:=kp.made (m+T.length);have k4:=(vQ (n:=n3) (a:=k) (zC5 (CK:=CK) (d:=d) (br:=br) (ro:=ro) (m:=m+T.length))).trans k3;generalize vA n3 k _=n4 at km k4 ⊢;refine⟨JRk CP CK d k br ro (m+T.length) n i rk F (ps++[⟨i,a,g,T,[]⟩]) T,⟨k4,⟨_,rfl⟩,km⟩,?_,?_⟩
  ·rintro j d rho n5 ej ⟨k5, ⟨z, rfl⟩, ka⟩
   have hj:j<T.length:=by have:=(zN.mp ej).1;rwa [zm] at this
   rw[zE] at ej;obtain⟨t,et,rfl⟩:=wM.mp ej;simp[zZ];refine xn ka.i ?_;rw[ze2];simp;have lk:=Yk (f:=i) (T:=T.take j) (rk:=rk);rw[xk] at lk
   have pl:plC (.dic (Zf i (T.take (j+1)) rk))=true:=by
    rw[xx,et];unfold Zf;rw[List.foldl_append];exact Uv (vy ka.o) rfl
   have kr:=ka.rank pl;have k6:=(vQ (n:=n5) (a:=ro) pl).trans k5
   have e:Zf i (T.take (j+1)) rk=vO t.1 (.int (i:Int)) (Zf i (T.take j) rk):=by
    rw[xx,et];unfold Zf;rw[List.foldl_append];rfl
   refine wo ka.o ⟨rfl,by rw[sizeLine_eq];lia,?_⟩
   rw[<- e];exact⟨k6,⟨_,rfl⟩,kr⟩
  ·rintro rho n5 ⟨k5, ⟨z, rfl⟩, ka⟩;rw[zm,wA] at ka;have lk:=Yk (f:=i) (T:=T) (rk:=rk)
   exact q n5 _ _ T ka k5 (ht.put (p:=⟨i,a,g,T,[]⟩) hno rfl rfl hi) q5 (hP _ _ (.stop hno))
end
def zt5(c:Nat):Builtin.Int.intBits (c:Int)=if c=0 then 0 else Nat.log2 c+1:=by
 unfold Builtin.Int.intBits
 by_cases h:c=0
 ·subst h;rfl
 ·rw[if_neg (by simp only[beq_iff_eq];lia),if_neg h];rfl
def WW(c:Nat):Nat:=if c-1=0 then 0 else Nat.log2 (c-1)+1
def zm7{c:Nat}(h:1<=c):c<=2^WW c:=by
 unfold WW
 split
 ·simp;lia
 ·have:=Nat.lt_log2_self (n:=c-1);lia
def Kx{c:Nat}(h:1<=c):2^WW c<2*c:=by
 unfold WW
 split
 ·simp;lia
 ·rename_i h0;have:=Nat.log2_self_le h0;rw[wZ];lia
def AnewM(ps:List Pt)(p:Pt)(ps':List Pt)(L:List Thing):Prop:=(p.left=[]/\ps'=off p.r ps/\L=[])\/(p.left≠[]/\PutM (off p.r ps) (WW p.left.length) p.left ps' L)
def AnewM.all{d:Nat}{ps:List Pt}{p:Pt}{ps':List Pt}{L:List Thing}{rk:List (Int × D)}(h:AnewM ps p ps' L)(ht:Tran d ps [] rk)(hp:p∈ps)(h2:2*p.left.length<p.ts.length) :
  yK ps'<=yK ps/\(∀x,x∈names ps'↔x∈names ps)/\∀R,yK ps<2^(R+1)->L.length+wts R ps'<=wts R ps:=by
 have pm:=yR hp ht.rn;have e1:yK ps=2^p.r+yK (off p.r ps):=(vC pm).trans yV;have nm:=jW hp ht.rn [];rw[xG,xM,xl] at nm;have gl:=ht.gl p hp;have l1:=(ht.gu p hp).2;have ww:∀R,wts R ps=wt R p+wts R (off p.r ps):=λR=>(jE pm).trans jF;have ho:((off p.r ps).map (·.r)).Nodup:=((xz ..).map _).nodup ht.rn
 rcases h with ⟨e0,rfl,rfl⟩ |⟨e0,h⟩
 ·rw [e0] at nm
  exact⟨q5,λx=>nm.mem_iff.symm,λR _=>by have:=ww R;simp;lia⟩
 ·have hl : 1 <= p.left.length := by
   cases q:p.left with
   |nil=>exact absurd q e0
   |cons a b=>simp
  have r2:=Kx hl
  refine⟨by rw[h.size ho];lia,λx=>(h.names ho x).trans nm.mem_iff.symm,λR hR=>?_⟩
  have c:=h.cost ho (R:=R) q5
  have g9:=ww R;unfold wt at g9
  have g10:p.left.length*(1+R-WW p.left.length)<=p.gs.length*(1+R):=Nat.mul_le_mul q5 q5
  lia
def GoM(ps:List Pt)(x:Int)(ps':List Pt)(L:List Thing):Prop:=∃p t,p∈ps/\t∈p.left/\t.1=x /\
 ((2*(p.gs.length+1)<=p.ts.length/\ps'=VX p.r (vO x (D.bl true) p.gs) ps/\L=[])\/(p.ts.length<2*(p.gs.length+1)/\AnewM (VX p.r (vO x (D.bl true) p.gs) ps) { p with gs:=vO x (D.bl true) p.gs } ps' L))
def zf4{d:Nat}{ps:List Pt}{p:Pt}{t:Thing}{rk:List (Int × D)}(ht:Tran d ps [] rk)(hp:p∈ps)(htp:t∈p.left)(h0:p.ts.length<2*(p.gs.length+1)) :
  ({ p with gs:=vO t.1 (D.bl true) p.gs }:Pt)∈VX p.r (vO t.1 (D.bl true) p.gs) ps/\2*({ p with gs:=vO t.1 (D.bl true) p.gs }:Pt).left.length<p.ts.length:=by
 have pr:=jM (gs:=vO t.1 (D.bl true) p.gs) hp ht.rn;obtain⟨g1,g2,g3⟩:=Wk htp;have gl:=ht.gl p hp;have al:=ht.al;rw[xM,xl] at al;have al2:=(yZ (yR hp ht.rn)).nodup_iff.mp al;rw[vq,xy] at al2;have ll:=ZV htp al2.1
 exact⟨pr.mem_iff.mpr zo,by rw[g3];lia⟩
def GoM.all{d:Nat}{ps:List Pt}{x:Int}{ps':List Pt}{L:List Thing}{rk:List (Int × D)}(h:GoM ps x ps' L)(ht:Tran d ps [] rk) :
  yK ps'<=yK ps/\(∀y,y∈names ps'↔y∈names ps/\y≠x)/\∀R,yK ps<2^(R+1)->L.length+wts R ps'<=wts R ps+(1+R):=by
 obtain⟨p,t,hp,htp,rfl,h⟩:=h;obtain⟨tg1,tg2,tg3,tg4⟩:=ht.go hp htp
 rcases h with ⟨_,rfl,rfl⟩ |⟨h0,h⟩
 ·exact⟨yl tg3,tg2,λR _=>by have:=tg4 R;simp;lia⟩
 ·obtain ⟨hp1, h2⟩ := zf4 ht hp htp h0;obtain⟨a1,a2,a3⟩:=h.all tg1 hp1 h2
  exact⟨q5,λy=>(a2 y).trans (tg2 y),λR hR=>by have:=a3 R q5;have:=tg4 R;lia⟩
section
variable {P:Program}{w:World}{K:W.Frag}{mg:Str->Option Value}{base:Heap}{CP CK:Addr}
abbrev Zd:Stmt:=top 50
abbrev Qk:List Str:=["many"]
def Uj:FnScope Qk ["many"] (zV Zd):=⟨rfl,rfl,rfl,w5,rfl,w5,w5⟩
def ZZ:TF:=λds n Q=>∃c:Nat,ds=[.int (c:Int)]/\1<=c/\Q (.int (WW c:Int)) n
def JH(F:Fun K "rank_for" "rank_for" Zd f fd):FnOk P w K mg base CX0 1 f fd ["many"] (spD K 1 ZZ):=by
 refine Fun.okD F Uj (λcdv A0 outer s H E G Z _ hr=>(xj (wu (zD6 (Vf (zn 0) xC))))) ?_;rintro ds n Q hl ⟨c,rfl,hc,q⟩;simp[wx]
 rw[show(c:Int)-1=((c-1:Nat):Int) by lia,zt5]
 exact q
abbrev vN:Stmt:=vR (top 52) 4
abbrev ZI:List Str:=["self","rank","things"]
def kR:FnScope ZI qZ3 (zV vN):=⟨rfl,rfl,rfl,w5,rfl,w5,w5⟩
def QG(CP CK:Addr):TF:=λds n Q=>∃(d:Nat) (k br ro:Addr) (m:Nat) (ps:List Pt) (rk:List (Int × D)) (F:Fm) (p:Pt),ds=[.rf k,.int (p.r:Int)]/\1<=d/\d<=4/\KAt CP CK d n k br ro m ps rk F/\Tran d ps [] rk/\p∈ps/\2*p.left.length<p.ts.length/\yK ps<500/\rk.length<=m/\m<=100000 /\
 ∀n' ps' rk' L,KAt CP CK d n' k br ro (m+L.length) ps' rk' F->kOf n'=kOf n->Tran d ps' [] rk'->rk'.length<=m+L.length->AnewM ps p ps' L->Q .non n'
def zF1(T:Blt mg)(CL_Kept:Cls K CK)(NA_by_rank:NoAttr K CK "by_rank")(F:Fun K "make_anew" "Kept.make_anew" vN f fd)(M_left:MthC P w K mg base CP "left" 1 0 (Yb CP))(M_put_in:MthC P w K mg base CK "put_in" 16 2 (XE CP CK))(F_rank_for:Fn P w K mg base "rank_for" 1 1 ZZ):FnOk P w K mg base CX0 17 f fd qZ3 (spD K 2 (QG CP CK)):=by
 refine Fun.okD F kR (λcdv A0 outer s H E G Z _ hr=>(xa (yw (i:=2) kR.nd rfl (lo rfl) (vK M_left (hr.mono q9) rfl (XX (yE CL_Kept NA_by_rank (zn 0)) (zn 1) ⟨rfl,rfl,rfl,rfl⟩)))
  (xj (kz (qk zD9 zz9 (wU yc qy T.len qz (ze (zn 2) zL)) xC (vV _)) (xj (ZN (ZR M_put_in (hr.mono q9) rfl (zn 0) (ze (vb F_rank_for (hr.mono q9) rfl (ze (wU yc qy T.len qz (ze (zn 2) zL)) zL)) (ze (zn 2) zL))))) yY)))) ?_
 rintro ds n Q hl ⟨d,k,br,ro,m,ps,rk,F,p,rfl,hd1,hd4,hk,ht,hp,h2,hz,hrk,hm,q⟩;simp[wx];obtain⟨a1,a2,a3,a4⟩:=hk.apart;obtain⟨b1,b2,b3,b4,b5,b6⟩:=a4 p hp;refine xn hk.i ?_;rw[Wj];simp;refine wo hk.b (wo hk.b ?_);rw[Jq ht.rn hp];simp;have kp:=hk.pop p.r;have pa:=hk.part (p:=p) (hk.p p hp) p.r ⟨b2,b5⟩;have k2:=KAt.kOfPop (n:=n) (br:=br) (ps:=ps) p.r;generalize vA n br _=n2 at kp pa k2 ⊢;obtain⟨⟨h,tr,ei⟩,eg⟩:=pa;have l1:=(ht.gu p hp).2;have l3:=kQ hp;have pm:=yR hp ht.rn;have e1:yK ps=2^p.r+yK (off p.r ps):=(vC pm).trans yV;have tp:=ht.pop hp;rw[xG] at tp;have nm:=jW hp ht.rn [];rw[xG,xM,xl] at nm;have gl:=ht.gl p hp;have ww:∀R,wts R ps=wt R p+wts R (off p.r ps):=λR=>(jE pm).trans jF
 refine xn ei ⟨Uw,p,rfl,⟨⟨h,tr,ei⟩,eg⟩,q5,?_⟩
 simp
 split
 ·rename_i h0
  have r1:=zm7 (c:=p.left.length) q5
  have r2:=Kx (c:=p.left.length) q5
  exact xn kp.i ⟨kP,_,rfl,q5,d,k,br,ro,m,off p.r ps,rk,F,WW p.left.length,p.left,rfl,hd1,hd4,kp,tp,q5,r1,q5,hrk,hm,λn' ps' rk' L g1 g2 g3 g4 g5=>q n' ps' rk' L g1 (g2.trans k2) g3 g4 (.inr ⟨λe=>by rw[e] at h0;simp at h0,g5⟩)⟩
 ·rename_i h0
  have e0:p.left=[]:=List.eq_nil_of_length_eq_zero q5
  rw[e0] at tp;exact q n2 (off p.r ps) rk [] kp k2 tp hrk (.inl ⟨e0,rfl,rfl⟩)
def Vp{d:Nat}{ps:List Pt}{rk:List (Int × D)}(ht:Tran d ps [] rk)(x:Int):(vd x rk).isSome=true↔x∈names ps:=by
 constructor
 ·intro h;have:=ht.kr x h
  rwa [xM,xl] at this
 ·intro h;obtain⟨p,hp,t,htp,rfl⟩:=Vt h;rw[ht.rk p hp t htp];rfl
abbrev jq:Stmt:=vR (top 52) 2
abbrev Km:List Str:=["self","thing"]
def WT:FnScope Km ["self","thing"] (zV jq):=⟨rfl,rfl,rfl,w5,rfl,w5,w5⟩
def QF(CP CK:Addr):TFX:=λds n Q R=>∃(d:Nat) (k br ro:Addr) (m:Nat) (ps:List Pt) (rk:List (Int × D)) (F:Fm) (t:Thing),ds=[.rf k,zZ t]/\1<=d/\d<=4/\KAt CP CK d n k br ro m ps rk F/\Tran d ps [] rk/\t.2.1.length=d/\yK ps+1<500/\rk.length<=m/\m<=100000/\(t.1∈names ps->R n) /\
 (t.1 ∉ names ps->∀n' ps' rk' L,KAt CP CK d n' k br ro (m+L.length) ps' rk' F->kOf n'=kOf n->Tran d ps' [] rk'->rk'.length<=m+L.length->PutM ps 0 [t] ps' L->Q .non n')
def zF0{CT:Addr}(CN_Taken:ClsX K mg "Taken" CT)(CL_Kept:Cls K CK)(NA_rank_of:NoAttr K CK "rank_of")(F:Fun K "come" "Kept.come" jq f fd)(M_put_in:MthC P w K mg base CK "put_in" 16 2 (XE CP CK)):FnOk P w K mg base (CX1 P w) 17 f fd ["self","thing"] (spX K CT 2 (QF CP CK)):=by
 refine Fun.okX (C:=CT) F WT (λcdv A0 outer s H E G Z n R hr hE=>(xa (kz (Ur (qL hr) (Zk kW Zg (zn 1) xC (λ_ _=>rfl)) (yE CL_Kept NA_rank_of (zn 0)) (by with_unfolding_all rfl)) (xj (WY CN_Taken (xok hE))) yY)
  (xj (ZN (ZR M_put_in (hr.mono q9) rfl (zn 0) (ze xC (ze (ZE (ze (zn 1) zL)) zL))))))) ?_
 rintro ds n Q R hl ⟨d,k,br,ro,m,ps,rk,F,t,rfl,hd1,hd4,hk,ht,hd,hz,hrk,hm,hR,q⟩;simp[wx,zZ];refine xn hk.i ?_;rw[ze2];simp;refine wo hk.o ?_;have hi:=Vp ht t.1
 by_cases hn:t.1∈names ps
 ·simp[hi.mpr hn];exact hR hn
 ·have e : (vd t.1 rk).isSome = false := by
   cases z:(vd t.1 rk).isSome with
   |false=>rfl
   |true=>exact absurd (hi.mp z) hn
  simp[e]
  refine xn hk.i ⟨kP,d,k,br,ro,m,ps,rk,F,0,[t],rfl,hd1,hd4,hk,?_,by simp,by simp,by simpa using hz,hrk,hm,q hn⟩
  exact⟨ht.rn,ht.gu,ht.gl,xo.mpr ⟨hn,ht.al⟩,λu hu=>by rw[zq.mp hu];exact hd,ht.rk,λx hx=>zc _ (ht.kr x hx)⟩
abbrev Yj:Stmt:=vR (top 52) 3
abbrev zk1:List Str:=["self","name","rank","part"]
def Zc:FnScope zk1 ["self","name"] (zV Yj):=⟨rfl,rfl,rfl,w5,rfl,w5,w5⟩
def zY6(CP CK:Addr):TFX:=λds n Q R=>∃(d:Nat) (k br ro:Addr) (m:Nat) (ps:List Pt) (rk:List (Int × D)) (F:Fm) (x:Int),ds=[.rf k,.int x]/\1<=d/\d<=4/\KAt CP CK d n k br ro m ps rk F/\Tran d ps [] rk/\yK ps<500/\rk.length<=m/\m<=100000/\(x ∉ names ps->R n) /\
 (x∈names ps->∀n' ps' rk' L,KAt CP CK d n' k br ro (m+L.length) ps' rk' F->kOf n'=kOf n->Tran d ps' [] rk'->rk'.length<=m+L.length->GoM ps x ps' L->Q .non n')
def xh2{CE:Addr}(T:Blt mg)(CN_NoThing:ClsX K mg "NoThing" CE)(CL_Kept:Cls K CK)(CL_Part:Cls K CP)(NA_things:NoAttr K CP "things")(NA_gone:NoAttr K CP "gone")(NA_by_rank:NoAttr K CK "by_rank")(NA_rank_of:NoAttr K CK "rank_of")(F:Fun K "go" "Kept.go" Yj f fd)(M_make_anew:MthC P w K mg base CK "make_anew" 17 1 (QG CP CK)):FnOk P w K mg base (CX1 P w) 18 f fd ["self","name"] (spX K CE 2 (zY6 CP CK)):=by
 refine Fun.okX (C:=CE) F Zc (λcdv A0 outer s H E G Z n R hr hE=>(xa (kz (Zh (qL hr) (zn 1) (yE CL_Kept NA_rank_of (zn 0)) (by with_unfolding_all rfl)) (xj (WY CN_NoThing (xok hE))) yY)
  (xa (yw (i:=2) Zc.nd rfl (lo rfl) (XX (yE CL_Kept NA_rank_of (zn 0)) (zn 1) ⟨rfl,rfl,rfl,rfl⟩))
  (xa (yw (i:=3) Zc.nd rfl (lo rfl) (XZ (qL hr) (yE CL_Kept NA_by_rank (zn 0)) (zn 2) (λ_ _=>rfl)))
  (xa (ZM (qL hr) (yE CL_Part NA_gone (zn 3)) (zn 1) zp0)
  (xj (kz (qk zD9 zz9 (Ys xC (zD4 T.len (ze (yE CL_Part NA_gone (zn 3)) zL))) (wU yc qy T.len qz (ze (yE CL_Part NA_things (zn 3)) zL)) (vV _)) (xj (ZN (ZR M_make_anew (hr.mono q9) rfl (zn 0) (ze (zn 2) zL)))) yY))))))) ?_
 rintro ds n Q R hl ⟨d,k,br,ro,m,ps,rk,F,x,rfl,hd1,hd4,hk,ht,hz,hrk,hm,hR,q⟩
 by_cases hx:x∈names ps
 rotate_left
 ·have e : (vd x rk).isSome = false := by
   cases z:(vd x rk).isSome with
   |false=>rfl
   |true=>exact absurd ((Vp ht x).mp z) hx
  simp[wx];refine xn hk.i ?_;rw[ze2];simp;refine wo hk.o ?_
  rw[if_pos (by simpa using e)]
  exact hR hx
 replace q:=q hx
 obtain⟨p,hp,t,htp,rfl⟩:=Vt hx;have e:=ht.rk p hp t htp;simp[wx];refine xn hk.i ?_;rw[ze2];simp;refine wo hk.o ?_;rw[e];simp;refine xn hk.i ?_;rw[ze2];simp;refine wo hk.o (wo hk.o ?_);rw[e];simp;have pl:=KC (k:=t.1) (vy hk.o);have kr:=hk.rank pl;have k1:=vQ (n:=n) (a:=ro) pl;generalize vA n ro _=n1 at kr k1 ⊢;refine xn kr.i ?_;rw[Wj];simp;refine wo kr.b ?_;rw[Jq ht.rn hp];simp;obtain⟨⟨h,tr,ei⟩,eg⟩:=kr.p p hp;obtain⟨tg1,tg2,tg3,tg4⟩:=ht.go hp htp;have pr:=jM (gs:=vO t.1 (D.bl true) p.gs) hp ht.rn;obtain⟨g1,g2,g3⟩:=Wk htp;have gl:=ht.gl p hp;have l1:=(ht.gu p hp).2;have l3:=kQ hp;have al:=ht.al;rw[xM,xl] at al;have al2:=(yZ (yR hp ht.rn)).nodup_iff.mp al;rw[vq,xy] at al2;have ll:=ZV htp al2.1;refine xn ei ?_;rw[Wa];simp;have pl2:=Uv (k:=t.1) (d:=.bl true) (vy eg) rfl;have kg:=kr.gone ht.rn hp pl2;have k2:=(vQ (n:=n1) (a:=p.g) pl2).trans k1
 refine wo eg ⟨rfl,yL q5,?_⟩
 have hp1:({ p with gs:=vO t.1 (D.bl true) p.gs }:Pt)∈VX p.r (vO t.1 (D.bl true) p.gs) ps:=pr.mem_iff.mpr zo;generalize vA n1 p.g _=n2 at kg k2 ⊢;obtain⟨⟨h',tr',ei'⟩,eg'⟩:=kg.p _ hp1;refine xn ei' ?_;rw[Wa];simp
 have g4:(vO t.1 (D.bl true) p.gs).length=p.gs.length+1:=by rw[g2,zA];rfl
 refine wo eg' ⟨.inl ⟨q9,q9⟩,xn ei' ?_⟩
 rw[Yy];simp;have drk:(vS t.1 rk).length<=m:=zF zs6 hrk
 split
 ·rename_i h0
  have h1:p.ts.length<2*(p.gs.length+1):=q5
  exact xn kg.i ⟨kP,d,k,br,ro,m,_,_,F,{ p with gs:=vO t.1 (D.bl true) p.gs },rfl,hd1,hd4,kg,tg1,hp1,(zf4 ht hp htp h1).2,by rw[tg3];exact hz,drk,hm,λn' ps' rk' L f1 f2 f3 f4 f5=>q n' ps' rk' L f1 (f2.trans k2) f3 f4 ⟨p,t,hp,htp,rfl,.inr ⟨h1,f5⟩⟩⟩
 ·rename_i h0
  exact q n2 _ _ [] kg k2 tg1 drk ⟨p,t,hp,htp,rfl,.inl ⟨q5,rfl,rfl⟩⟩
abbrev jo:Stmt:=vR (top 52) 8
abbrev Kk:List Str:=["self"]
def WR:FnScope Kk qZ0 (zV jo):=⟨rfl,rfl,rfl,w5,rfl,w5,w5⟩
def QD(CP CK:Addr):TF:=λds n Q=>∃(d:Nat) (k br ro:Addr) (m:Nat) (ps:List Pt) (rk:List (Int × D)) (F:Fm),ds=[.rf k]/\KAt CP CK d n k br ro m ps rk F/\Q (.int (m:Int)) n
def zE7(CL_Kept:Cls K CK)(NA_so_many_made:NoAttr K CK "so_many_made")(F:Fun K "made" "Kept.made" jo f fd):FnOk P w K mg base CX0 1 f fd qZ0 (spD K 1 (QD CP CK)):=by
 refine Fun.okD F WR (λcdv A0 outer s H E G Z _ hr=>(xj (wu (yE CL_Kept NA_so_many_made (zn 0))))) ?_;rintro ds n Q hl ⟨d,k,br,ro,m,ps,rk,F,rfl,hk,q⟩;simp[wx];refine xn hk.i ?_;rw[xm8];simp;exact q
end
def zD7{f:Str}(h:f ≠ "things" /\ f ≠ "held" /\ f ≠ "tree" /\ f ≠ "gone" := by decide +kernel){ts h' tr g}:qe f (pF ts h' tr g)=none:=by
 simp[pF,qe,Ne.symm h.1,Ne.symm h.2.1,Ne.symm h.2.2.1,Ne.symm h.2.2.2]
def QA(p:Pt):D:=.tup [.int (p.r:Int),.tup (p.ts.map λt=>.int t.1),.tup (p.ts.map λt=>.bl (vd t.1 p.gs).isSome)]
section
variable {P:Program}{w:World}{K:W.Frag}{mg:Str->Option Value}{base:Heap}{CP CK:Addr}
abbrev jk:Stmt:=vR (top 51) 2
abbrev kC:List Str:=["self","rank","names"]
def ZA:FnScope kC qZ3 (zV jk):=⟨rfl,rfl,rfl,w5,rfl,w5,w5⟩
def Xf:("thing" :: kC:List Str).Nodup:=w5
def Xe:("name" :: kC:List Str).Nodup:=w5
def QC(CP:Addr):TF:=λds n Q=>∃p:Pt,ds=[.rf p.a,.int (p.r:Int)]/\PartAt CP n p/\p.ts.length<=1000/\Q (QA p) n
def zE5(T:Blt mg)(CL_Part:Cls K CP)(NA_things:NoAttr K CP "things")(NA_gone:NoAttr K CP "gone")(F:Fun K "told" "Part.told" jk f fd):FnOk P w K mg base CX0 1 f fd qZ3 (spD K 2 (QC CP)):=by
 refine Fun.okD F ZA (λcdv A0 outer s H E G Z _ hr=>(xa (Yo (i:=2) ZA.nd rfl (lo rfl) (own:=["thing"]) (M:=kC) (vW (by rfl)) rfl (va rfl (yE CL_Part NA_things (zn 0))) (λ_ _ _ _=>(wD (i:=0) Xf rfl (lo rfl) q9)) (λ_ _ _ _=>yP) (λ_ _ _ _=>(Zk kW Zg (zn 0) xC (λ_ _=>rfl))))
  (xj (wu (qX (ze (zn 1) (ze (yS wW vw T.tuple vz (ze (zn 2) zL)) (ze (yS wW vw T.tuple vz (ze (vP (own:=["name"]) (M:=kC) (vW (by rfl)) rfl (va rfl (zn 2)) (λ_ _ _ _=>(wD (i:=0) Xe rfl (lo rfl) q9)) (λ_ _ _ _=>yP) (λ_ _ _ _=>(zQ0 (qL hr) (zn 0) (yE CL_Part NA_gone (zn 1)) (by with_unfolding_all rfl)))) zL)) zL)))))))) ?_
 rintro ds n Q hl ⟨p,rfl,⟨⟨h,tr,hc⟩,hgc⟩,hz,q⟩;simp[wx];refine xn hc ?_;rw[Yy];simp;refine yN zZ (λt=>.int t.1) p.ts (yL hz) (λt ht R hR=>?_) ?_
 ·simp[zZ];exact hR
 ·simp;refine yN (λt:Thing=>D.int t.1) (λt=>.bl (vd t.1 p.gs).isSome) p.ts (yL hz) (λt ht R hR=>?_) ?_
  ·simp;refine xn hc ?_;rw[Wa];simp;refine wo hgc ?_
   simpa using hR
  ·exact ku.mpr q
abbrev qD:Stmt:=vR (top 52) 6
abbrev VV:List Str:=["self"]
def XI:FnScope VV qZ0 (zV qD):=⟨rfl,rfl,rfl,w5,rfl,w5,w5⟩
def Ue(CP CK:Addr):TF:=λds n Q=>∃(d:Nat) (k br ro:Addr) (m:Nat) (ps:List Pt) (rk:List (Int × D)) (F:Fm),ds=[.rf k]/\KAt CP CK d n k br ro m ps rk F/\ps.length<64/\∀qs:List Pt,qs.Perm ps->qs.Pairwise (λp q=>q.r<=p.r)->Q (.lst (qs.map λp=>.int (p.r:Int))) n
def zp4(T:Blt mg)(CL_Kept:Cls K CK)(NA_by_rank:NoAttr K CK "by_rank")(F:Fun K "ranks" "Kept.ranks" qD f fd):FnOk P w K mg base CX0 1 f fd qZ0 (spD K 1 (Ue CP CK)):=by
 refine Fun.okD F XI (λcdv A0 outer s H E G Z _ hr=>(xj (wu (JD rfl T.sorted (ze (KG hr T.list (ze (yE CL_Kept NA_by_rank (zn 0)) zL)) zL))))) ?_;rintro ds n Q hl ⟨d,k,br,ro,m,ps,rk,F,rfl,hk,hz,q⟩;simp[wx];refine xn hk.i ?_;rw[Wj];simp;refine wo hk.b ?_
 refine⟨ps.map λp=>(p.r:Int),?_,by rw[zm];exact hz,λms hp hs=>?_⟩
 ·unfold brT;rw[xi,xi];rfl
 ·obtain ⟨qs, hq, rfl⟩ := jQ hp;rw[xQ] at hs;rw[xi]
  exact q qs hq (hs.imp λh=>by lia)
abbrev qE:Stmt:=vR (top 52) 7
abbrev qR:List Str:=["self"]
def XJ:FnScope qR qZ0 (zV qE):=⟨rfl,rfl,rfl,w5,rfl,w5,w5⟩
def YD:("rank" :: qR:List Str).Nodup:=w5
def Ug(CP CK:Addr):TF:=λds n Q=>∃(d:Nat) (k br ro:Addr) (m:Nat) (ps:List Pt) (rk:List (Int × D)) (F:Fm),ds=[.rf k]/\KAt CP CK d n k br ro m ps rk F/\(ps.map (·.r)).Nodup/\(∀p∈ps,p.ts.length<=1000)/\ps.length<64/\∀qs:List Pt,qs.Perm ps->qs.Pairwise (λp q=>q.r<=p.r)->Q (.tup (qs.map QA)) n
def zp8(T:Blt mg)(CL_Kept:Cls K CK)(NA_by_rank:NoAttr K CK "by_rank")(F:Fun K "parts" "Kept.parts" qE f fd)(M_told:MthC P w K mg base CP "told" 1 1 (QC CP))(M_ranks:MthC P w K mg base CK "ranks" 1 0 (Ue CP CK)):FnOk P w K mg base CX0 2 f fd qZ0 (spD K 1 (Ug CP CK)):=by
 refine Fun.okD F XJ (λcdv A0 outer s H E G Z _ hr=>(xj (wu (yS wW vw T.tuple vz (ze (vP (own:=["rank"]) (M:=qR) (vW (by rfl)) rfl (va rfl (vK M_ranks (hr.mono q9) rfl (zn 0))) (λ_ _ _ _=>(wD (i:=0) YD rfl (lo rfl) q9)) (λ_ _ _ _=>yP) (λ_ _ _ _=>(ZR M_told (hr.mono q9) rfl (XZ (qL hr) (yE CL_Kept NA_by_rank (zn 1)) (zn 0) (λ_ _=>rfl)) (ze (zn 0) zL)))) zL))))) ?_
 rintro ds n Q hl ⟨d,k,br,ro,m,ps,rk,F,rfl,hk,hn,hts,hz,q⟩;simp[wx];refine xn hk.i ⟨kP,d,k,br,ro,m,ps,rk,F,rfl,hk,hz,λqs hp hs=>?_⟩;have hql:=hp.length_eq;refine⟨_,.inl rfl,?_⟩
 refine yN (λp:Pt=>D.int (p.r:Int)) QA qs (yL q5) (λp hpq R hR=>?_) ?_
 ·have hm:p∈ps:=hp.mem_iff.mp hpq;simp;refine xn hk.i ?_;rw[Wj];simp;refine wo hk.b ?_;rw[Jq hn hm];simp;obtain⟨⟨x,y,e⟩,e2⟩:=hk.p p hm;exact xn e ⟨zD7,p,rfl,⟨⟨x,y,e⟩,e2⟩,hts p hm,hR⟩
 ·exact ku.mpr (q qs hp hs)
abbrev qF:Stmt:=vR (top 52) 5
abbrev qS:List Str:=["self"]
def XM:FnScope qS qZ0 (zV qF):=⟨rfl,rfl,rfl,w5,rfl,w5,w5⟩
def qG:("rank" :: "thing" :: qS:List Str).Nodup:=w5
def jJ(CP CK:Addr):TF:=λds n Q=>∃(d:Nat) (k br ro:Addr) (m:Nat) (ps:List Pt) (rk:List (Int × D)) (F:Fm),ds=[.rf k]/\KAt CP CK d n k br ro m ps rk F/\Tran d ps [] rk/\yK ps<500/\(ps.flatMap Pt.left).length<900 /\
 ∀rs:List Thing,rs.Perm (ps.flatMap Pt.left)->rs.Pairwise (λs t=>s.1<t.1)->Q (.tup [.int (d:Int),.tup (rs.map zZ)]) n
structure JHs(ps:List Pt)(n:Nat)(i:Nat)(acc:List D)(n':Nat):Prop where
 hn:n'=n
 he:acc=((ps.take i).flatMap Pt.left).map zZ
def zc0(T:Blt mg)(CL_Kept:Cls K CK)(NA_d:NoAttr K CK "d")(NA_by_rank:NoAttr K CK "by_rank")(F:Fun K "house" "Kept.house" qF f fd)(M_left:MthC P w K mg base CP "left" 1 0 (Yb CP)):FnOk P w K mg base CX0 2 f fd qZ0 (spD K 1 (jJ CP CK)):=by
 refine Fun.okD F XM (λcdv A0 outer s H E G Z _ hr=>(xj (wu (qX (ze (yE CL_Kept NA_d (zn 0)) (ze (yS wW vw T.tuple vz (ze (wU (Zx hr) (Jl rfl) T.sorted kZ (ze (zo9 (own:=["rank","thing"]) (M:=qS) (vW (by rfl)) rfl (va rfl (KG hr T.list (ze (yE CL_Kept NA_by_rank (zn 0)) zL))) (λ_ _ _ _=>(wD (i:=0) qG rfl (lo rfl) q9)) (λ_ _ _ _=>yP) (λ_ _ _ _=>(va rfl (vK M_left (hr.mono q9) rfl (XZ (qL hr) (yE CL_Kept NA_by_rank (zn 2)) (zn 0) (λ_ _=>rfl))))) (λ_ _ _ _=>(wD (i:=1) qG rfl (lo rfl) q9)) (λ_ _ _ _=>yP) (λ_ _ _ _=>(zn 1))) zL)) zL)) zL)))))) ?_
 rintro ds n Q hl ⟨d,k,br,ro,m,ps,rk,F,rfl,hk,ht,hz,hz2,q⟩;simp[wx];refine xn hk.i ?_;rw[xm9];simp;refine xn hk.i ?_;rw[Wj];simp;refine wo hk.b ?_;refine⟨JHs ps n,⟨rfl,rfl⟩,?_,?_⟩
 ·rintro i d' acc n' e ⟨rfl, rfl⟩;unfold brT at e;rw[xi,zE] at e;obtain⟨p,ep,rfl⟩:=wM.mp e;have hp:p∈ps:=wg ep;obtain⟨⟨x,y,e1⟩,e2⟩:=hk.p p hp;have ls:=(ht.gu p hp).2;have l3:=kQ hp
  have tk:(ps.take (i+1)).flatMap Pt.left=(ps.take i).flatMap Pt.left++p.left:=by rw[xx,ep,flatMap_append];simp
  have lt:((ps.take (i+1)).flatMap Pt.left).length<=(ps.flatMap Pt.left).length:=by
   have e3:ps.flatMap Pt.left=(ps.take (i+1)).flatMap Pt.left++(ps.drop (i+1)).flatMap Pt.left:=by rw[<- flatMap_append,wy]
   rw[e3,zA];lia
  rw[tk,zA] at lt;simp;refine xn hk.i ?_;rw[Wj];simp;refine wo hk.b ?_;rw[Jq ht.rn hp];simp
  refine xn e1 ⟨Uw,p,rfl,⟨⟨x,y,e1⟩,e2⟩,q5,?_⟩
  simp
  refine⟨λj acc n2=>n2=n'/\acc=((ps.take i).flatMap Pt.left++p.left.take j).map zZ,⟨rfl,by simp⟩,?_,?_⟩
  ·rintro j d2 acc n2 e3 ⟨rfl, rfl⟩;rw[zE] at e3;obtain⟨t,et,rfl⟩:=wM.mp e3;have hj:j<p.left.length:=(zN.mp et).1
   refine⟨lt_size (by rw[zm,zA,xk];lia),?_⟩
   simp[keepsD];rw[xx,zE,et];rfl
  ·rintro acc n2 ⟨rfl,rfl⟩;refine⟨rfl,?_⟩;rw[zm,wA,tk]
 ·rintro acc n' ⟨rfl, rfl⟩
  have lb:(List.map (λp:Int × D=>D.int p.fst) (brT ps)).length=ps.length:=by unfold brT;rw[zm,zm]
  rw[lb,wA]
  refine⟨yL (by rw[zm];lia),?_⟩
  have nd:((ps.flatMap Pt.left).map (·.1)).Nodup:=by
   have al:=ht.al;rw[xM,xl] at al;rw[List.map_flatMap];exact al
  refine⟨(ps.flatMap Pt.left).map λt=>(t.1,[yO t.2.1,.int t.2.2]),by rw[xi];rfl,by rw[zm];exact hz2,by rw[xi];exact nd,λrows hp hs=>?_⟩
  obtain⟨rs,hrp,rfl⟩:=jQ hp
  have eR:(rs.map λt=>(t.1,[yO t.2.1,D.int t.2.2])).map NRow.d=rs.map zZ:=by rw[xi];rfl
  rw[eR];rw[xQ] at hs;exact ku.mpr (q rs hrp hs)
end
theorem ze7:∀{items es:List D},Paired (λ_ e=>∃i:Int,e=D.int i) items es->∃js:List Int,es=js.map D.int/\js.length=items.length
 |[],_,h=>by cases h;exact⟨[],rfl,rfl⟩
 | x :: items, _, h => by
  cases h with
  |@cons _ e _ es h1 h2=>
   obtain⟨i,rfl⟩:=h1;obtain⟨js,rfl,hl⟩:=ze7 h2
   exact⟨i::js,rfl,by rw[zt,hl,zt]⟩
section
variable {P:Program}{w:World}{K:W.Frag}{mg:Str->Option Value}{base:Heap}{CP CK:Addr}
abbrev Yi:Stmt:=top 57
abbrev zk0:List Str:=["_law_left_here","_law_some"]
def Jx:FnScope zk0 qZ9 (zV Yi):=⟨rfl,rfl,rfl,w5,rfl,w5,w5⟩
def zL2:TF:=λds n Q=>∃js:List Int,ds=[.st,.lst (js.map D.int)]/\kOf n=2/\1<=js.length/\js.length<=1000/\∀j∈js,Q (.int j) n
def xh1(T:Blt mg)(F:Fun K "_law_of" "_law_of" Yi f fd)(Y_pick:Fn P w K mg base "_law_pick" 1 2 Zy):FnOk P w K mg base CX0 2 f fd qZ9 (spD K 2 zL2):=by
 refine Fun.okD F Jx (λcdv A0 outer s H E G Z _ hr=>(xj (wu (Zk kW Zg (zn 1) (vb Y_pick (hr.mono q9) rfl (ze (zn 0) (ze (wU yc qy T.len qz (ze (zn 1) zL)) zL))) (λ_ _=>rfl))))) ?_
 rintro ds n Q hl ⟨js,rfl,hn,h1,h2,q⟩;simp[wx]
 refine yW hn q5 q5 λk0 hk0 hk1=>?_
 refine xs6 hk0 (by simpa using hk1) λd hd=>?_
 obtain⟨j,hj,rfl⟩:=zD.mp hd;exact q j hj
abbrev qh:Stmt:=top 58
abbrev Wu:List Str:=["_law_left_here","_law_near","_law_some"]
def qW:FnScope Wu ["_law_left_here","_law_near"] (zV qh):=⟨rfl,rfl,rfl,w5,rfl,w5,w5⟩
def XF:TF:=λds n Q=>∃b:Bool,ds=[.st,.bl b]/\kOf n=2/\∀x:Int,Q (.int x) n
def zb9(F:Fun K "_law_number" "_law_number" qh f fd)(Y_pick:Fn P w K mg base "_law_pick" 1 2 Zy)(Y_of:Fn P w K mg base "_law_of" 2 2 zL2):FnOk P w K mg base CX0 3 f fd ["_law_left_here","_law_near"] (spD K 2 XF):=by
 refine Fun.okD F qW (λcdv A0 outer s H E G Z _ hr=>(xa (kz (Uq (zn 1)) (xj (wu (vb Y_pick (hr.mono q9) rfl (ze (zn 0) (ze xC zL))))) yY)
  (xa (yw (i:=2) qW.nd rfl (lo rfl) (ZE (ze (Vf (vb Y_pick (hr.mono q9) rfl (ze (zn 0) (ze xC zL))) xC) (ze (vb Y_pick (hr.mono q9) rfl (ze (zn 0) (ze xC zL))) (ze (Yw (Vg xC xC) (vb Y_pick (hr.mono q9) rfl (ze (zn 0) (ze xC zL)))) (ze (Vf xC (Vg xC xC)) (ze xC zL)))))))
  (xj (wu (vb Y_of (hr.mono q9) rfl (ze (zn 0) (ze (zn 2) zL)))))))) ?_
 rintro ds n Q hl ⟨b,rfl,hn,q⟩;simp[wx]
 split
 ·exact yW hn q9 q9 λx _ _=>q x
 ·refine yW hn q9 q9 λx1 h1 _ => ?_
  rw[QX]
  refine yW hn q9 q9 λx2 h2 _=>⟨⟨q9,q9,q9⟩,yW hn q9 q9 λx3 h3 _=>?_⟩
  rw[QX]
  exact⟨⟨q9,q9,q9⟩,[x1-3,x2,100000000000000000+x3,-100000000000000000,7],rfl,hn,by simp,by simp,λj _=>q j⟩
abbrev qC:Stmt:=top 59
abbrev qQ:List Str:=["_law_left_here","_law_name","_law_d","_law_near","_law_place"]
def jL:FnScope qQ xg1 (zV qC):=⟨rfl,rfl,rfl,w5,rfl,w5,w5⟩
def YC:("_law_i" :: qQ:List Str).Nodup:=w5
def Ud:TF:=λds n Q=>∃(x:Int) (d:Nat) (b:Bool),ds=[.st,.int x,.int (d:Int),.bl b]/\kOf n=2/\d<=4/\∀(p:List Int) (z:Int),p.length=d->Q (zZ (x,p,z)) n
def zp3(T:Blt mg)(F:Fun K "_law_thing" "_law_thing" qC f fd)(Y_pick:Fn P w K mg base "_law_pick" 1 2 Zy)(Y_of:Fn P w K mg base "_law_of" 2 2 zL2)(Y_number:Fn P w K mg base "_law_number" 3 2 XF):FnOk P w K mg base CX0 4 f fd xg1 (spD K 4 Ud):=by
 refine Fun.okD F jL (λcdv A0 outer s H E G Z _ hr=>(xa (yw (i:=4) jL.nd rfl (lo rfl) (yS wW vw T.tuple vz (ze (vP (own:=["_law_i"]) (M:=qQ) (vW (by rfl)) rfl (XU T.range (ze (zn 2) zL)) (λ_ _ _ _=>(wD (i:=0) YC rfl (lo rfl) q9)) (λ_ _ _ _=>yP) (λ_ _ _ _=>(vb Y_number (hr.mono q9) rfl (ze (zn 1) (ze (zn 4) zL))))) zL)))
  (xj (wu (qX (ze (zn 1) (ze (zn 4) (ze (vb Y_of (hr.mono q9) rfl (ze (zn 0) (ze (ZE (ze (Vf (vb Y_pick (hr.mono q9) rfl (ze (zn 0) (ze xC zL))) xC) (ze (vb Y_pick (hr.mono q9) rfl (ze (zn 0) (ze (Vg xC xC) zL))) (ze (Vf xC (Vg xC xC)) (ze xC (ze xC zL)))))) zL))) zL)))))))) ?_
 rintro ds n Q hl ⟨x,d,b,rfl,hn,hd,q⟩;simp[wx]
 refine⟨q5,?_⟩
 refine zh8 (Qn 0 d) n (λ_ e=>∃i:Int,e=.int i) (yL (by rw[Uo];lia)) (λi e he R hR=>?_) λes hes=>?_
 ·simp;exact⟨b,rfl,hn,λy=>hR _ ⟨y,rfl⟩⟩
 ·obtain ⟨js, rfl, hj⟩ := ze7 hes;rw[Uo] at hj;simp
  refine yW hn q9 q9 λx1 h1 _=>?_
  rw[QX]
  refine⟨⟨q9,q9,q9⟩,yW hn q9 q9 λx2 h2 _=>⟨⟨q9,q9,q9⟩,[x1-2,x2,-100000000000000000,3,0],rfl,hn,by simp,by simp,λz _=>?_⟩⟩
  exact q js z hj
end
structure ExOk(K:W.Frag)(C C1 C2 C3 C4 C5:Addr)(b1 b2:Bool):Prop where
 ec:ExcC K C
 k1:W.kitOne K (.ref C) (.ref C1)=some b1
 k2:W.kitOne K (.ref C) (.ref C2)=some b2
 k3:W.kitOne K (.ref C) (.ref C3)=some false
 k4:W.kitOne K (.ref C) (.ref C4)=some false
 k5:W.kitOne K (.ref C) (.ref C5)=some false
 ve:W.kitOne K (.ref C) (.type "ValueError")=some true
def zR7{K:W.Frag}{A B:Addr}(h1:W.kitOne K (.ref A) (.ref A)=some true)(h2:W.kitOne K (.ref A) (.ref B)=some false):A≠B:=λe=>by
 subst e;rw[h1] at h2;cases h2
def zX8(CN CT:Addr)(C:Addr):Prop:=C=CN\/C=CT
def XA(CT:Addr)(C:Addr):Str:=if C=CT then "Taken" else "NoThing"
section
variable {P:Program}{w:World}{K:W.Frag}{mg:Str->Option Value}{base:Heap}{CN CT CB C3 C4 C5:Addr}
abbrev kj:Stmt:=top 60
abbrev YY:List Str:=["_law_error","_law_words","_law_marks"]
def vn:FnScope YY ["_law_error"] (zV kj):=⟨rfl,rfl,rfl,w5,rfl,w5,w5⟩
def jK(CN CT:Addr):TF:=λds n Q=>∃C,ds=[.exc C]/\zX8 CN CT C/\Q (.str (XA CT C)) n
def JI(T:Blt mg)(EN:ExOk K CN CN CT C3 C4 C5 true false)(ET:ExOk K CT CN CT C3 C4 C5 false true)(CX_NoThing:mg "NoThing" = some (.ref CN))(CX_Taken:mg "Taken" = some (.ref CT))(CX_NoText:mg "NoText" = some (.ref C3))(CX_NoLine:mg "NoLine" = some (.ref C4))(CX_NoNumber:mg "NoNumber" = some (.ref C5))(N_ValueError:mg "ValueError" = none)
  (F:Fun K "_law_class_of" "_law_class_of" kj f fd):FnOk P w K mg base CX0 1 f fd ["_law_error"] (spD K 1 (jK CN CT)):=by
 refine Fun.okD F vn (λcdv A0 outer s H E G Z _ hr=>(xa (yw (i:=1) vn.nd rfl (lo rfl) (ZE (ze qx (ze qx (ze qx (ze qx (ze qx zL)))))))
  (xa (yw (i:=2) vn.nd rfl (lo rfl) (ZE (ze (Yu (K':=K) (zn 0) CX_NoThing T.isi) (ze (Yu (K':=K) (zn 0) CX_Taken T.isi) (ze (Yu (K':=K) (zn 0) CX_NoText T.isi) zL)))))
  (xa (yw (i:=2) vn.nd rfl (lo rfl) (Yr zv8 zu6 (zn 2) (ZE (ze (Yu (K':=K) (zn 0) CX_NoLine T.isi) (ze (Yu (K':=K) (zn 0) CX_NoNumber T.isi) zL)))))
  (xa (kz (PWD.pt (zN8 (qk xg7 xa1 (zb5 rfl (zn 2)) xC (vV _)) (zB1 (za1 (Uq (zo7 (K':=K) (zn 0) N_ValueError Wq T.isi)))))) (xj (wu qx)) yY)
  (xj (wu (Zk kW Zg (zn 1) (zb4 rfl (zn 2)) (λ_ _=>rfl))))))))) ?_
 rintro ds n Q hl ⟨C,rfl,hC,q⟩;have ne:yr (.exc C)=true:=rfl
 have hne:¬ CN=CT:=λe=>by
  have h1:=EN.k1;have h2:=ET.k1;subst e;rw[h1] at h2;cases h2
 have w1:XA CT CN = "NoThing" := if_neg hne;have w2:XA CT CT = "Taken" := if_pos rfl
 rcases hC with rfl |rfl
 ·rw [w1] at q;have k1:W.kitOne K (.ref C) (Wz (.ref C))=some true:=EN.k1;have k2:W.kitOne K (.ref C) (Wz (.ref CT))=some false:=EN.k2;have k3:W.kitOne K (.ref C) (Wz (.ref C3))=some false:=EN.k3;have k4:W.kitOne K (.ref C) (Wz (.ref C4))=some false:=EN.k4;have k5:W.kitOne K (.ref C) (Wz (.ref C5))=some false:=EN.k5;have kv:W.kitOne K (.ref C) (Wz (.ty "ValueError"))=some true:=EN.ve;have ec:=EN.ec;simp[wx,ne,k1,k2,k3,k4,k5,kv,ec];refine⟨[true,false,false,false,false],rfl,?_⟩
  rw[if_pos q9]
  exact⟨[true,false,false,false,false],rfl,0,rfl,λm hm=>by lia,q9,_,rfl,q⟩
 ·rw [w2] at q;have k1:W.kitOne K (.ref C) (Wz (.ref CN))=some false:=ET.k1;have k2:W.kitOne K (.ref C) (Wz (.ref C))=some true:=ET.k2;have k3:W.kitOne K (.ref C) (Wz (.ref C3))=some false:=ET.k3;have k4:W.kitOne K (.ref C) (Wz (.ref C4))=some false:=ET.k4;have k5:W.kitOne K (.ref C) (Wz (.ref C5))=some false:=ET.k5;have kv:W.kitOne K (.ref C) (Wz (.ty "ValueError"))=some true:=ET.ve;have ec:=ET.ec;simp[wx,ne,k1,k2,k3,k4,k5,kv,ec];refine⟨[false,true,false,false,false],rfl,?_⟩
  rw[if_pos q9]
  refine⟨[false,true,false,false,false],rfl,1,rfl,λm hm=>?_,q9,_,rfl,q⟩
  have:m=0:=q5
  subst this;rfl
abbrev jj:Stmt:=top 61
abbrev Ki:List Str:=["_law_deed","_law_thing_here","_law_caught","e"]
def kE:FnScope Ki ["_law_deed","_law_thing_here"] (zV jj):=⟨rfl,rfl,rfl,w5,rfl,w5,w5⟩
def zE9(F:Fun K "_law_done" "_law_done" jj f fd)(CX_BoxError:mg "BoxError" = some (.ref CB))(EXN:W.exmOne K (.ref CN) (.ref CB)=some true)(EXT:W.exmOne K (.ref CT) (.ref CB)=some true)(Y_class_of:Fn P w K mg base "_law_class_of" 1 1 (jK CN CT)) :
  FnOkS P w K mg base CX0 20 f fd ["_law_deed","_law_thing_here"] (Ks P w K mg base 19 (zX8 CN CT) (XA CT)):=by
 refine Fun.okSD F kE (λouter s vs H Q E h=>?_) (λcdv A0 outer s H vs Q E hr h=>?_)
 ·obtain⟨G,Z,n,R,fl,d,C,tl,rs,_⟩:=h;exact rs.length
 ·obtain ⟨G, Z, n, R, fl, d, C, tl, rs, hst, gz, z0, LC, hC, hno, ht, hQ⟩ := h
  have EXM:W.exmOne K (.ref C) (.ref CB)=some true:=by
   rcases hC with rfl |rfl
   ·exact EXN
   ·exact EXT
  refine⟨G,Z,n,[.rf fl,d],_,R,rs,hst,gz,z0,(xa (yw (i:=2) kE.nd rfl (lo rfl) Vi)
  (xa (zn2 (i:=3) (j:=0) LC (hr.mono q9) rfl rfl (.inl rfl) (ze (zn 1) zL) CX_BoxError EXM kE.nd rfl rfl
  (λev=>(xj (yw (i:=2) kE.nd rfl (lo rfl) (zn 3)))))
  (xa (kz (qk zQ7 zM6 (zn 2) Vi (vV _)) (xj (wu qx)) yY)
  (xj (wu (vb Y_class_of (hr.mono q9) rfl (ze (zn 2) zL))))))),?_,hQ⟩
  have ne:yr (.exc C)=true:=rfl;simp[wx,hno]
  have e:(fun(n2:Nat)=>R (.str (XA CT C)) n2)=(λn2=>jK CN CT [.exc C] n2 R):=by
   funext n2
   refine propext ⟨λr=>⟨C,rfl,hC,r⟩,?_⟩;rintro⟨C',h,_,r⟩;cases h;exact r
  rw[e] at ht;exact ht
end
def Zm(ps:List Pt):names ps=(ps.flatMap Pt.left).map (·.1):=by unfold names;rw[List.map_flatMap]
def Wc{ps:List Pt}{p:Pt}(hp:p∈ps)(hn:(ps.map (·.r)).Nodup):(ps.flatMap Pt.left).Perm (p.left++(off p.r ps).flatMap Pt.left):=by
 have h:=List.Perm.flatMap_right Pt.left (yR hp hn)
 rwa [wq] at h
def PutM.left{ps:List Pt}{s:Nat}{T:List Thing}{ps':List Pt}{L:List Thing}(h:PutM ps s T ps' L):(ps.map (·.r)).Nodup->(ps'.flatMap Pt.left).Perm (T++ps.flatMap Pt.left):=by
 induction h with
 |@stop ps s T a g _=>
  intro _;rw[flatMap_append,wq,List.flatMap_nil,xG,ZT rfl];exact wR
 |@step ps p T ps' L hp _ ih=>
  intro hn;have h1:=ih (((xz ..).map _).nodup hn);refine h1.trans (((wR (l₁:=p.left)).append_right _).trans ?_);rw[wb];exact(Wc hp hn).symm.append_left T
def AnewM.left{ps:List Pt}{p:Pt}{ps':List Pt}{L:List Thing}(h:AnewM ps p ps' L)(hp:p∈ps)(hn:(ps.map (·.r)).Nodup):(ps'.flatMap Pt.left).Perm (ps.flatMap Pt.left):=by
 have h0:=Wc hp hn
 rcases h with ⟨e,rfl,_⟩ |⟨_,h⟩
 ·rw[e,xl] at h0;exact h0.symm
 ·exact(h.left (((xz ..).map _).nodup hn)).trans h0.symm
def GoM.left{d:Nat}{ps:List Pt}{x:Int}{ps':List Pt}{L:List Thing}{rk:List (Int × D)}(h:GoM ps x ps' L)(ht:Tran d ps [] rk):(ps'.flatMap Pt.left).Perm ((ps.flatMap Pt.left).filter λu=>decide (u.1≠x)):=by
 obtain⟨p,t,hp,htp,rfl,h⟩:=h;obtain⟨g1,g2,g3⟩:=Wk htp;have pr:=jM (gs:=vO t.1 (D.bl true) p.gs) hp ht.rn;have al:=ht.al;rw[xM,xl] at al;have al2:=(yZ (yR hp ht.rn)).nodup_iff.mp al;rw[vq,xy] at al2
 have hR:((off p.r ps).flatMap Pt.left).filter (λu=>decide (u.1≠t.1))=(off p.r ps).flatMap Pt.left:=List.filter_eq_self.mpr λu hu=>by
  simp only[yA];obtain⟨q,hq,hu⟩:=wj.mp hu;exact λe=>al2.2.2 t.1 (zG htp) u.1 (wj.mpr ⟨q,hq,zG hu⟩) e.symm
 have key:((VX p.r (vO t.1 (D.bl true) p.gs) ps).flatMap Pt.left).Perm ((ps.flatMap Pt.left).filter λu=>decide (u.1≠t.1)):=by
  have h1:=List.Perm.flatMap_right Pt.left pr;rw[wq,g3] at h1;have h2:=(Wc hp ht.rn).filter λu=>decide (u.1≠t.1);rw[List.filter_append,hR] at h2;exact h1.trans h2.symm
 rcases h with ⟨_,rfl,_⟩ |⟨h0,h⟩
 ·exact key
 ·have hp1:({ p with gs:=vO t.1 (D.bl true) p.gs }:Pt)∈VX p.r (vO t.1 (D.bl true) p.gs) ps:=pr.mem_iff.mpr zo;exact(h.left hp1 (ht.go hp htp).1.rn).trans key
def YH{d:Nat}{ps:List Pt}(h:∀p∈ps,GoodU d p.ts/\p.ts.length<=2^p.r):(ps.flatMap Pt.left).length<=yK ps:=by
 induction ps with
 |nil=>simp
 |cons p ps ih=>
  have h1:=(h p zo).2;have h2:=ih λq hq=>h q (zc _ hq);have h3:p.left.length<=p.ts.length:=List.length_filter_le ..;rw[wq,zA,yV];lia
def tsD(ts:List Thing):List (Int × D):=ts.map λt=>(t.1,zZ t)
def WZ{ts:List Thing}:plC (.dic (tsD ts))=true:=yQ.mpr λx hd=>by
 unfold tsD at hd;rw[xi] at hd;obtain⟨p,_,rfl⟩:=zD.mp hd;exact jr p
theorem WC:∀{ts:List Thing}{t:Thing},(ts.map (·.1)).Nodup->t∈ts->vd t.1 (tsD ts)=some (zZ t)
 | u :: ts, t, hn, h => by
  rw[zu] at hn;have hn':=xo.mp hn
  show(if u.1=t.1 then some (zZ u) else vd t.1 (tsD ts))=_
  rcases zd.mp h with rfl |h
  ·exact if_pos rfl
  ·rw [if_neg λe : u.1 = t.1 => hn'.1 (by rw [e]; exact zG h)]
   exact WC hn'.2 h
theorem ZJ:∀{ts:List Thing}{x:Int},x ∉ ts.map (·.1)->vd x (tsD ts)=none
 |[],x,_=>rfl
 |u::ts,x,h=>by
  show(if u.1=x then some (zZ u) else vd x (tsD ts))=none
  rw[if_neg λe=>h (by simp[e])]
  exact ZJ λz=>h (zc _ z)
def zy6{ts:List Thing}{t:Thing}(h:t.1 ∉ ts.map (·.1)):vO t.1 (zZ t) (tsD ts)=tsD (ts++[t]):=by
 unfold vO;rw[ZJ h];show tsD ts++[_]=_;unfold tsD;rw[xU];rfl
def zk9{ts:List Thing}{x:Int}:vS x (tsD ts)=tsD (ts.filter λu=>decide (u.1≠x)):=by
 unfold vS tsD;rw[List.filter_map];rfl
def zk8(ts:List Thing):(tsD ts).map (·.1)=ts.map (·.1):=by unfold tsD;rw[xi];rfl
section
variable {CP CK:Addr}{d n n' n1:Nat}{k br ro th:Addr}{m m1:Nat}{ps ps1:List Pt}{rk rk1:List (Int × D)}{ts:List Thing}{F F':Fm}
def KAt.keep(h:KAt CP CK d n k br ro m ps rk F)(hs:∀b∈jD k br ro ps,xb n' b=xb n b)(hf:Fok F' n' (jD k br ro ps)):KAt CP CK d n' k br ro m ps rk F':=
  ⟨(hs _ (by simp [jD])).trans h.i, (hs _ (by simp [jD])).trans h.b, (hs _ (by simp [jD])).trans h.o, λq hq => by
    obtain⟨z1,z2⟩:=Ws (k:=k) (br:=br) (ro:=ro) hq;obtain⟨⟨x,y,e⟩,e2⟩:=h.p q hq
    exact⟨⟨x,y,(hs _ (by unfold jD;exact zc _ (zc _ (zc _ z1)))).trans e⟩,(hs _ (by unfold jD;exact zc _ (zc _ (zc _ z2)))).trans e2⟩,h.nd,hf⟩
def KAt.ne(h:KAt CP CK d n k br ro m ps rk F):∀b∈jD k br ro ps,xb n b≠none:=λb hb=>by
 unfold jD at hb
 rcases zd.mp hb with rfl |hb
 ·rw[h.i];simp
 ·rcases zd.mp hb with rfl | hb
  ·rw[h.b];simp
  ·rcases zd.mp hb with rfl | hb
   ·rw[h.o];simp
   ·obtain ⟨q, hq, hb⟩ := wj.mp hb;obtain⟨⟨x,y,e⟩,e2⟩:=h.p q hq;simp only[zd,xZ,or_false] at hb
    rcases hb with rfl |rfl
    ·rw[e];simp
    ·rw[e2];simp
def QQ(h:Tran d ps [] rk){p:Pt}(hp:p∈ps):p.ts.length<=yK ps:=zF (h.gu p hp).2 (kQ hp)
structure Wd(CP CK:Addr)(d n:Nat)(k br ro th:Addr)(m:Nat)(ps:List Pt)(rk:List (Int × D))(ts:List Thing):Prop where
 K:∃F,KAt CP CK d n k br ro m ps rk F
 t:xb n th=some (.dic (tsD ts))
 tk:th ∉ jD k br ro ps
 tr:Tran d ps [] rk
 l1:rk.length<=m
def F1(n:Nat)(th:Addr):Fm:=⟨n,λb=>b=th⟩
def F0:Fm:=⟨0,λ_=>False⟩
def f0{n:Nat}{l:List Addr}:Fok F0 n l:=λb h=>h.elim
def Wd.k1(W:Wd CP CK d n k br ro th m ps rk ts):KAt CP CK d n k br ro m ps rk (F1 n th):=by
 obtain⟨F,h⟩:=W.K;refine h.keep (λ_ _=>rfl) λb hb=>⟨rfl,?_,?_⟩
 ·cases hb;show xb n th≠none;rw[W.t];simp
 ·cases hb;exact W.tk
def Wd.fin(W:Wd CP CK d n k br ro th m ps rk ts)(hK:KAt CP CK d n1 k br ro m1 ps1 rk1 (F1 n th))(tr:Tran d ps1 [] rk1)(l1:rk1.length<=m1):Wd CP CK d n1 k br ro th m1 ps1 rk1 ts:=by
 have ft:=hK.f th rfl;exact⟨⟨_,hK⟩,ft.1.trans W.t,ft.2.2,tr,l1⟩
def Wd.thing(W:Wd CP CK d n k br ro th m ps rk ts)(ts':List Thing):Wd CP CK d (vA n th (.dic (tsD ts'))) k br ro th m ps rk ts':=by
 obtain⟨F,h⟩:=W.K;exact⟨⟨F0,h.keep (λb hb=>vF WZ λe=>W.tk (e ▸ hb)) f0⟩,wQ WZ,W.tk,W.tr,W.l1⟩
end
structure ToldIs(d m:Nat)(ps:List Pt)(v:D):Prop where
 h:∃(qs:List Pt) (rs:List Thing),qs.Perm ps/\qs.Pairwise (λp q=>q.r<=p.r)/\rs.Perm (ps.flatMap Pt.left)/\rs.Pairwise (λs t=>s.1<t.1)/\v=.tup [.tup (qs.map QA),.int (m:Int),.tup [.int (d:Int),.tup (rs.map zZ)]]
def ToldIs.one{d m:Nat}{ps:List Pt}{v v':D}(hn:(ps.map (·.r)).Nodup)(h:ToldIs d m ps v)(h':ToldIs d m ps v'):v=v':=by
 obtain⟨qs,rs,h1,h2,h3,h4,rfl⟩:=h;obtain⟨qs',rs',h1',h2',h3',h4',rfl⟩:=h'
 have st:∀{ws:List Pt},ws.Perm ps->ws.Pairwise (λp q=>q.r<=p.r)->ws.Pairwise λp q=>q.r<p.r:=λ{ws} g1 g2=>by
  have g3:=(g1.map (·.r)).nodup_iff.mpr hn;rw[List.Nodup,xQ] at g3
  exact(g2.and g3).imp λh=>by have:=h.1;have:=h.2;lia
 have e1:qs=qs':=vX (lt:=λp q:Pt=>q.r<p.r) (λa h=>by lia) (λa b c h1 h2=>by lia) (h1.trans h1'.symm) (st h1 h2) (st h1' h2')
 have e2:rs=rs':=vX (lt:=λs t:Thing=>s.1<t.1) (λa h=>by lia) (λa b c h1 h2=>by lia) (h3.trans h3'.symm) h4 h4'
 rw[e1,e2]
def zc1(p:Pt)(k:Nat):okE (QA p) (k+2)=true:=by
 refine kL.mpr λd hd=>?_;simp only[zd,xZ,or_false] at hd
 rcases hd with rfl |rfl |rfl
 ·exact qo
 ·refine kL.mpr λd hd=>?_;obtain⟨t,_,rfl⟩:=zD.mp hd;exact qo
 ·refine kL.mpr λd hd=>?_;obtain⟨t,_,rfl⟩:=zD.mp hd;simp[okE]
def JL(t:Thing)(k:Nat):okE (zZ t) (k+2)=true:=by
 refine kL.mpr λd hd=>?_;simp only[zd,xZ,or_false] at hd
 rcases hd with rfl |rfl |rfl
 ·exact qo
 ·refine kL.mpr λd hd=>?_;obtain⟨t,_,rfl⟩:=zD.mp hd;exact qo
 ·exact qo
def Vm(d:Nat)(rs:List Thing)(k:Nat):okE (.tup [.int (d:Int),.tup (rs.map zZ)]) (k+4)=true:=by
 refine kL.mpr λe he=>?_;simp only[zd,xZ,or_false] at he
 rcases he with rfl |rfl
 ·exact qo
 ·refine kL.mpr λe he=>?_;obtain⟨t,_,rfl⟩:=zD.mp he;exact JL t k
def ToldIs.okE{d m:Nat}{ps:List Pt}{v:D}(h:ToldIs d m ps v):okE v 20=true:=by
 obtain⟨qs,rs,_,_,_,_,rfl⟩:=h;refine kL.mpr λe he=>?_;simp only[zd,xZ,or_false] at he
 rcases he with rfl |rfl |rfl
 ·refine kL.mpr λe he=>?_;obtain⟨t,_,rfl⟩:=zD.mp he;exact zc1 t 16
 ·exact qo
 ·exact Vm d rs 15
section
variable {P:Program}{w:World}{K:W.Frag}{mg:Str->Option Value}{base:Heap}{CP CK:Addr}
abbrev jg:Stmt:=top 62
abbrev Kf:List Str:=["_law_kept"]
def WO:FnScope Kf ["_law_kept"] (zV jg):=⟨rfl,rfl,rfl,w5,rfl,w5,w5⟩
def XG(CP CK:Addr):TF:=λds n Q=>∃(d:Nat) (k br ro:Addr) (m:Nat) (ps:List Pt) (rk:List (Int × D)) (F:Fm),ds=[.rf k]/\KAt CP CK d n k br ro m ps rk F/\Tran d ps [] rk/\yK ps<64/\∀v,ToldIs d m ps v->Q v n
def zp9(F:Fun K "_law_told" "_law_told" jg f fd)(M_parts:MthC P w K mg base CK "parts" 2 0 (Ug CP CK))(M_house:MthC P w K mg base CK "house" 2 0 (jJ CP CK))(M_made:MthC P w K mg base CK "made" 1 0 (QD CP CK)):FnOk P w K mg base CX0 3 f fd ["_law_kept"] (spD K 1 (XG CP CK)):=by
 refine Fun.okD F WO (λcdv A0 outer s H E G Z _ hr=>(xj (wu (qX (ze (vK M_parts (hr.mono q9) rfl (zn 0)) (ze (vK M_made (hr.mono q9) rfl (zn 0)) (ze (vK M_house (hr.mono q9) rfl (zn 0)) zL))))))) ?_
 rintro ds n Q hl ⟨d,k,br,ro,m,ps,rk,F,rfl,hk,ht,hz,q⟩;have sz:=Ye (ps:=ps);have lz:=YH ht.gu;simp[wx]
 refine xn hk.i ⟨kP,d,k,br,ro,m,ps,rk,F,rfl,hk,ht.rn,λp hp=>by have:=QQ ht hp;lia,q5,λus hu hus=>?_⟩
 refine xn hk.i ⟨kP,d,k,br,ro,m,ps,rk,F,rfl,hk,?_⟩
 refine xn hk.i ⟨kP,d,k,br,ro,m,ps,rk,F,rfl,hk,ht,q5,q5,λrs hr hrs=>?_⟩
 exact q _ ⟨us,rs,hu,hus,hr,hrs,rfl⟩
end
section
variable {P:Program}{w:World}{K:W.Frag}{mg:Str->Option Value}{base:Heap}{CP CK CN CT:Addr}
abbrev yG:Stmt:=top 63
abbrev vH:List Str:=["_law_left_here","_law_kept","_law_those","_law_d","_law_name","_law_former","_law_thing_here","_law_found"]
def yq:FnScope vH xg0 (zV yG):=⟨rfl,rfl,rfl,w5,rfl,w5,w5⟩
def qV:("_law_one" :: vH:List Str).Nodup:=w5
def QB(CP CK:Addr):TF:=λds n Q=>∃(d:Nat) (k br ro th:Addr) (m:Nat) (ps:List Pt) (rk:List (Int × D)) (ts:List Thing),ds=[.st,.rf k,.rf th,.int (d:Int)]/\kOf n=2/\1<=d/\d<=4/\Wd CP CK d n k br ro th m ps rk ts/\ts.Perm (ps.flatMap Pt.left)/\yK ps<60/\m<=90000 /\
 ∀n' m' ps' rk' ts',Wd CP CK d n' k br ro th m' ps' rk' ts'->ts'.Perm (ps'.flatMap Pt.left)->kOf n'=2->yK ps'<=yK ps+1->m'+wts 6 ps'<=m+wts 6 ps+7->Q (.bl true) n'
def zE3{f c Pt:Addr}{fd:FuncData}(T:Blt mg)(F:Fun K "_law_turn_right" "_law_turn_right" yG f fd)(hns:PySem.W.nsIn K mainGlobals "_law_turn_right" = some (some (.ref f)))(htb:PySem.W.tabIn K "_law_turn_right" = some (c,Pt))(LB:LamBase base mg c Pt)
    (hnt:CN≠CT) (FS__law_done:FnDone P w K mg base "_law_done" 20 18 (zX8 CN CT) (XA CT)) (MX_come:MthX P w K mg base CK "come" 18 1 CT (QF CP CK)) (MX_go:MthX P w K mg base CK "go" 18 1 CN (zY6 CP CK)) (M_house:MthC P w K mg base CK "house" 2 0 (jJ CP CK))
    (Y_pick:Fn P w K mg base "_law_pick" 1 2 Zy) (Y_thing:Fn P w K mg base "_law_thing" 4 4 Ud) (Y_told:Fn P w K mg base "_law_told" 3 1 (XG CP CK)):FnOk P w K mg base CX0 21 f fd xg0 (spD K 4 (QB CP CK)):=by
  have TI:vZ K Pt (("_law_turn_right" ++ ".<locals>.") ++ "<lambda>"):=⟨"_law_turn_right",by simp[kO],c,htb,rfl⟩
  refine Fun.okL F hns htb yq (λA0 outer s H E G Z n hr=>(xa (yw (i:=4) yq.nd rfl (lo rfl) (vb Y_pick (hr.mono q9) rfl (ze (zn 0) (ze xC zL))))
    (xa (yw (i:=5) yq.nd rfl (lo rfl) (vb Y_told (hr.mono q9) rfl (ze (zn 1) zL)))
    (xa (kz (qk zE1 zA0 (vb Y_pick (hr.mono q9) rfl (ze (zn 0) (ze xC zL))) xC (vV _)) (xa (yw (i:=6) yq.nd rfl (lo rfl) (vb Y_thing (hr.mono q9) rfl (ze (zn 0) (ze (zn 4) (ze (zn 3) (ze zp0 zL))))))
    (xa (yw (i:=7) yq.nd rfl (lo rfl) (Yt (j:=1) (j2:=6) (p := "_law_one") (x := "_law_kept") (clos:=[("_law_kept",s.heap.objs.size+1)]) FS__law_done MX_come (hr.mono q9) rfl rfl (by first |exact .inl rfl |exact .inr (.inl rfl)) TI LB (KN (by rfl) Jn) (Caps.one rfl rfl rfl) rfl rfl (λs f c env e=>by subst e;exact⟨rfl,rfl,_,rfl⟩)))
    (xa (kz (Ur (qL hr) (zn 4) (zn 2) (by with_unfolding_all rfl)) (xj (wu (zb6 (Yv (Xr hr) (Xq rfl) (zn 7) qx (vV _)) (zb3 (Yv (Xr hr) (Xq rfl) (vb Y_told (hr.mono q9) rfl (ze (zn 1) zL)) (zn 5) (vV _)))))) yY)
    (xj (ZM (qL hr) (zn 2) (zn 4) (zn 6)))))) (xa (yw (i:=7) yq.nd rfl (lo rfl) (Yt (j:=1) (j2:=4) (p := "_law_one") (x := "_law_kept") (clos:=[("_law_kept",s.heap.objs.size+1)]) FS__law_done MX_go (hr.mono q9) rfl rfl (by first |exact .inl rfl |exact .inr (.inl rfl)) TI LB (KN (by rfl) Jn) (Caps.one rfl rfl rfl) rfl rfl (λs f c env e=>by subst e;exact⟨rfl,rfl,_,rfl⟩)))
    (xa (kz (Zh (qL hr) (zn 4) (zn 2) (by with_unfolding_all rfl)) (xj (wu (zb6 (Yv (Xr hr) (Xq rfl) (zn 7) qx (vV _)) (zb3 (Yv (Xr hr) (Xq rfl) (vb Y_told (hr.mono q9) rfl (ze (zn 1) zL)) (zn 5) (vV _)))))) yY)
    (xj (ZN (XX (zn 2) (zn 4) ⟨rfl,rfl,rfl,rfl⟩))))))
    (xj (wu (zb6 (Yv (Xr hr) (Xq rfl) (zn 7) qx (vV _)) (zb3 (Yv (Xr hr) (Xq rfl) (vK M_house (hr.mono q9) rfl (zn 1)) (qX (ze (zn 3) (ze (yS wW vw T.tuple vz (ze (vP (own:=["_law_one"]) (M:=vH) (vW (by rfl)) rfl (va rfl (zo5 rfl T.sorted (ze (zn 2) zL))) (λ_ _ _ _=>(wD (i:=0) qV rfl (lo rfl) q9)) (λ_ _ _ _=>yP) (λ_ _ _ _=>(XZ (qL hr) (zn 3) (zn 0) (λ_ _=>rfl)))) zL)) zL))) (vV _)))))))))) ?_
  rintro ds n Q hl ⟨d,k,br,ro,th,m,ps,rk,ts,rfl,hn2,hd1,hd4,W,pm,hz,hm,q⟩;obtain⟨F',hK⟩:=W.K;have al:=W.tr.al;rw[xM,xl,Zm] at al;have nd:(ts.map (·.1)).Nodup:=(pm.map _).nodup_iff.mpr al
  have nmI:∀x,x∈names ps↔x∈ts.map (·.1):=λx=>by
    rw[Zm];exact((pm.map _).mem_iff).symm
  have tail:∀(n' m':Nat) (ps':List K54.Pt) (rk':List (Int × D)) (ts':List Thing) (z3 z4 z5 z6 z7:Option D),Wd CP CK d n' k br ro th m' ps' rk' ts'->ts'.Perm (ps'.flatMap K54.Pt.left)->kOf n'=2->yK ps'<=yK ps+1->m'+wts 6 ps'<=m+wts 6 ps+7 ->
      qK CK n' k λfs=>qe "house" fs=none/\jJ CP CK [.rf k] n' λd1 n1=>qA n1 th λkv=>kv.length<64/\∀ms:List Int,ms.Perm (kv.map (·.1))->ms.Pairwise (·<=·) ->
        VM 1 (zf5 0) zK7 (zI0 (zK5 3) (zK5 0)) [some .st,some (.rf k),some (.rf th),z3,z4,z5,z6,z7] (λd3 n1=>KO [d3] λd4=>okE d1 20=true/\okE (.tup [.int (d:Int),d4]) 20=true/\Q (.bl (eqD d1 (.tup [.int (d:Int),d4]))) n1) (ms.map D.int) n1:=λn' m' ps' rk' ts' z3 z4 z5 z6 z7 W' pm' hk' hs' hc'=>by
    obtain⟨F2,hK2⟩:=W'.K;have al':=W'.tr.al;rw[xM,xl,Zm] at al';have nd':(ts'.map (·.1)).Nodup:=(pm'.map _).nodup_iff.mpr al';have lz:=YH W'.tr.gu;have lt:=pm'.length_eq
    refine xn hK2.i ⟨kP,d,k,br,ro,m',ps',rk',F2,rfl,hK2,W'.tr,q5,q5,λws hw hws=>?_⟩
    refine wo W'.t ⟨by unfold tsD;rw[zm];lia,λms hp hs=>?_⟩
    rw[zk8] at hp;obtain⟨rs,hr,rfl⟩:=jQ hp;rw[xQ] at hs;have lr:=hr.length_eq;rw[xi]
    refine yN (λt:Thing=>D.int t.1) zZ rs (yL q5) (λt ht R hR=>?_) ?_
    · simp
      refine wo W'.t ?_;rw[WC nd' (hr.mem_iff.mp ht)]
      simpa using hR
    · refine ku.mpr ?_
      have nd2:(rs.map (·.1)).Nodup:=(hr.map _).nodup_iff.mpr nd';rw[List.Nodup,xQ] at nd2
      have e:ws=rs:=vX (lt:=λs t:Thing=>s.1<t.1) (λa h=>by lia) (λa b c h1 h2=>by lia) (hw.trans (pm'.symm.trans hr.symm)) hws ((hs.and nd2).imp λh=>by have:=h.1;have:=h.2;lia)
      subst e;have ok:=Vm d ws 16;refine⟨ok,ok,?_⟩;rw[Wm ok];exact q n' m' ps' rk' ts' W' pm' hk' hs' hc'
  have w1:XA CT CN = "NoThing" := if_neg hnt;have w2:XA CT CT = "Taken" := if_pos rfl
  have oks:∀s:Str,okE (.str s) 20=true:=λs=>by simp[okE]
  have eqs:∀s t:Str,eqD (.str s) (.str t)=decide (s=t):=λs t=>by unfold eqD;exact Bool.eq_iff_iff.mpr (by simp)
  have lts:(tsD ts).length=ts.length:=by unfold tsD;rw[zm]
  have lz:=YH W.tr.gu;have lt:=pm.length_eq;simp[wx]
  refine yW hn2 q9 q9 λx0 hx0 hx9=>?_
  refine⟨d,k,br,ro,m,ps,rk,F',rfl,hK,W.tr,q5,λv hv=>?_⟩
  obtain⟨es,rfl⟩:∃es,v=.tup es:=by
    obtain⟨_,_,_,_,_,_,e⟩:=hv.h;exact⟨_,e⟩
  refine yW hn2 q9 q9 λx1 hx1 hx2=>?_
  have again:∀R:D->Nat->Prop,(∀b,b=true->R (.bl b) n)->XG CP CK [.rf k] n λd1 n1=>okE d1 20=true/\okE (.tup es) 20=true/\R (.bl (eqD d1 (.tup es))) n1:=λR h=>by
    refine⟨d,k,br,ro,m,ps,rk,F',rfl,hK,W.tr,q5,λv' hv'=>?_⟩
    have e:=ToldIs.one W.tr.rn hv hv';subst e;exact⟨hv.okE,hv.okE,h _ (Wm hv.okE)⟩
  simp
  split
  · refine ⟨x0, d, true, rfl, hn2, hd4, λp z hp => ?_⟩
    refine⟨rfl,.inr rfl,xn hK.i kP,?_⟩
    refine⟨d,k,br,ro,m,ps,rk,F1 n th,(x0,p,z),rfl,hd1,hd4,W.k1,W.tr,hp,q5,W.l1,q5,λhx=>?_,λhx n' ps' rk' L g1 g2 g3 g4 gM=>?_⟩
    · have hxt := (nmI x0).mp hx
      obtain⟨t,ht,et⟩:=zD.mp hxt;refine wo W.t ?_
      rw[<- et,WC nd ht,if_pos (by simp)]
      refine⟨oks _,oks _,?_⟩
      rw[w2,eqs,if_pos (by simp)]
      exact again Q λb hb=>by rw[hb];exact q n m ps rk ts W pm hn2 q5 q5
    · have hxt : x0 ∉ ts.map (·.1) := λz => hx ((nmI x0).mpr z)
      have W':=W.fin g1 g3 g4;refine wo W'.t ?_
      rw[ZJ hxt,if_neg (by simp)]
      refine wo W'.t ⟨jr (x0,p,z),lt_size q5,oks _,?_⟩
      rw[eqs,if_pos (by simp)]
      have e8:=zy6 (t:=(x0,p,z)) hxt;simp only[zZ] at e8;rw[e8];have a1:=gM.size W.tr.rn
      have a3:=gM.cost W.tr.rn (R:=6) q5
      simp only[Nat.pow_zero,zt,ya,Nat.zero_add,Nat.one_mul,Nat.sub_zero] at a1 a3
      exact tail _ _ _ _ _ _ _ _ _ _ (W'.thing _) ((wR.trans (pm.append_left _)).trans (gM.left W.tr.rn).symm) ((vQ WZ).trans (g2.trans hn2)) q5 q5
  · refine ⟨.inl rfl, xn hK.i kP, ?_⟩
    refine⟨d,k,br,ro,m,ps,rk,F1 n th,x0,rfl,hd1,hd4,W.k1,W.tr,q5,W.l1,q5,λhx=>?_,λhx n' ps' rk' L g1 g2 g3 g4 gM=>?_⟩
    · have hxt : x0 ∉ ts.map (·.1) := λz => hx ((nmI x0).mpr z)
      refine wo W.t ?_
      rw[ZJ hxt,if_pos (by simp)]
      refine⟨oks _,oks _,?_⟩
      rw[w1,eqs,if_pos (by simp)]
      exact again Q λb hb=>by rw[hb];exact q n m ps rk ts W pm hn2 q5 q5
    · have hxt := (nmI x0).mp hx
      have W':=W.fin g1 g3 g4;obtain⟨t,ht,et⟩:=zD.mp hxt;refine wo W'.t ?_
      rw[<- et,WC nd ht,if_neg (by simp)]
      refine wo W'.t (wo W'.t ?_);rw[WC nd ht];refine⟨_,rfl,oks _,?_⟩
      rw[eqs,if_pos (by simp),zk9,et]
      obtain⟨b1,b2,b3⟩:=gM.all W.tr
      have b4:=b3 6 q5
      have pm7:=(pm.filter λu=>decide (u.1≠x0)).trans (gM.left W.tr).symm
      exact tail _ _ _ _ _ _ _ _ _ _ (W'.thing _) pm7 ((vQ WZ).trans (g2.trans hn2)) q5 q5
end
structure JDe(CP CK:Addr)(d:Nat)(k br ro th:Addr)(a0 a1:Option D)(i:Nat)(rho:Rho)(n':Nat):Prop where
 hk:kOf n'=2
 hx:∃(m:Nat) (ps:List Pt) (rk:List (Int × D)) (ts:List Thing) (z6:Option D),rho=[a0,a1,some .st,some (.int (d:Int)),some (.rf k),some (.rf th),z6]/\Wd CP CK d n' k br ro th m ps rk ts/\ts.Perm (ps.flatMap Pt.left)/\yK ps<=i/\m+wts 6 ps<=7*i
def UA(ns:List Int):Xs (yD ns)=true:=Vo.mpr λe he=>by
 obtain⟨x,_,rfl⟩:=zD.mp he;rfl
structure JOut(ns:List Int)(n:Nat)(i:Nat)(rho:Rho)(n':Nat):Prop where
 hn:n'=n
 he:∃a b c d e f,rho=[some (yD ns),a,b,c,d,e,f]
section
variable {P:Program}{w:World}{K:W.Frag}{mg:Str->Option Value}{base:Heap}{CP CK:Addr}
abbrev XN:Stmt:=top 64
abbrev xi4:List Str:=["_law_script","_law_k","_law_left_here","_law_d","_law_kept","_law_those","_law_turn"]
def Xp:FnScope xi4 ["_law_script"] (zV XN):=⟨rfl,rfl,rfl,w5,rfl,w5,w5⟩
def zR0(T:Blt mg)(F:Fun K "law" "law" XN f fd)(MK_Kept:MkeC P w K mg base CK "Kept" 1 1 (Ui CK))(Y_left:Fn P w K mg base "_law_left" 2 2 QE)(Y_pick:Fn P w K mg base "_law_pick" 1 2 Zy)(Y_of:Fn P w K mg base "_law_of" 2 2 zL2)(Y_turn_right:Fn P w K mg base "_law_turn_right" 21 4 (QB CP CK)):FnOk P w K mg base CX0 22 f fd ["_law_script"] (WH K):=by
 refine Fun.okLaw F Xp 2 (λ_ _ _ s H E hr=>(xa (Ut (m:=7) PassesOwn.never rfl (XU T.range (ze (wU (VP rfl) zh6 T.max zj3 (ze xC (ze (wU (zi6 rfl) zI2 T.min zx6 (ze xC (ze (wU yc qy T.len qz (ze (zn 0) zL)) zL))) zL))) zL)) (wD (i:=1) Xp.nd rfl (lo rfl) q9)
  (za2 (i:=2) rfl Xp.nd rfl (lo rfl) Y_left (hr.mono q9) rfl (ze (zn 0) (ze (zn 1) zL)) (λc Z H0=>(xa (yw (i:=3) Xp.nd rfl (lo rfl) (Yw xC (vb Y_pick (hr.mono q9) rfl (ze (zn 2) (ze xC zL)))))
  (xa (zn3 (i:=4) (j:=5) rfl Xp.nd rfl rfl q9 rfl rfl (ze (KF MK_Kept (hr.mono q9) rfl (ze (zn 3) zL)) (ze XY zL)))
  (xj (Ut (m:=7) PassesOwn.never rfl (XU T.range (ze (vb Y_of (hr.mono q9) rfl (ze (zn 2) (ze (ZE (ze xC (ze xC zL))) zL))) zL)) (wD (i:=6) Xp.nd rfl (lo rfl) q9)
  (xj (kz (za1 (Uq (vb Y_turn_right (hr.mono q9) rfl (ze (zn 2) (ze (zn 4) (ze (zn 5) (ze (zn 3) zL))))))) (xj (wu zp0)) yY)))))))))
  (xj (wu zp0)))) ?_
 intro ns hns;have nsc:yr (yD ns)=true:=id rfl;simp[wx,nsc]
 generalize hJ:(if 1<if (ns.length:Int)<5 then(ns.length:Int) else 5 then if (ns.length:Int)<5 then(ns.length:Int) else 5 else 1)=J
 have hJ1:1<=J/\J<=5:=by rw[<- hJ];split<;>(try split)<;>lia
 clear hJ
 refine⟨q5,q5,JOut ns 2,⟨rfl,_,_,_,_,_,_,rfl⟩,?_,?_⟩
 ·rintro i d' rho m e ⟨rfl, a, b, c, d1, e1, f1, rfl⟩;obtain⟨hi,rfl⟩:=zu5 e;simp
  refine JM ns (by simp) (i:Int) (by simp[nsc]) (λP P' h=>by simp[nsc];exact h _ _) ?_
  refine⟨ns,_,rfl,hns,q5,q5,λx y hx hy hy2=>⟨[x,y],rfl,rfl,by simp[hx,hy],by simp[hy2],?_⟩⟩
  have hs0:VB (some (yD ns))=some (yD ns):=ze0 (UA ns);simp[vc,hs0];generalize VB (some (D.int (i:Int)))=k1;generalize VB c=k2;generalize VB d1=k3;generalize VB e1=k4;generalize VB f1=k5
  refine yW zS7 q9 q9 λk0 hk0 hk0'=>?_
  obtain⟨d,hd⟩:=wG (show 0<=1+k0 by lia)
  have hd1:1<=d:=q5
  have hd4:d<=4:=q5
  simp;rw[hd];intro a ha;have pl0:plC (.ins CK [])=true:=rfl;have c1:=wQ (n:=2) (a:=a) pl0;have q1:=vQ (n:=2) (a:=a) pl0;generalize vA 2 a _=n0 at c1 q1 ⊢;refine⟨a,d,F0,rfl,c1,f0,λn1 br ro hK hk0=>⟨rfl,?_⟩⟩;have hK:=hK CP;intro th hth;have p1:plC (.dic (tsD []))=true:=WZ
  have ne1:∀b∈jD a br ro [],b≠th:=λb hb e=>by
   have h1:=hK.ne b hb;rw[e,hth] at h1;exact h1 rfl
  have W:Wd CP CK d (vA n1 th (.dic (tsD []))) a br ro th 0 [] [] []:=
   ⟨⟨F0,hK.keep (λb hb=>vF p1 (ne1 b hb)) f0⟩,wQ p1,λz=>ne1 th z rfl,
    ⟨by simp,by simp,by simp,by simp[names],by simp,by simp,λx hx=>by simp[vd] at hx⟩,by simp⟩
  have hk3:kOf (vA n1 th (.dic (tsD [])))=2:=(vQ p1).trans (hk0.trans (q1.trans zS7));have e0:vA n1 th (Cell.dic [])=vA n1 th (.dic (tsD [])):=rfl;rw[e0];generalize vA n1 th (.dic (tsD []))=n3 at W hk3 ⊢;clear ne1 hK c1 q1 e0
  refine⟨[10,40],rfl,hk3,by simp,by simp,λc hc=>?_⟩
  obtain⟨many,rfl⟩:=wG (show 0<=c by simp at hc;lia)
  have hmany:many<=40:=by simp at hc;lia
  refine⟨_,rfl,q5,q5,JDe CP CK d a br ro th (some (yD ns)) k1,⟨hk3,0,[],[],[],k5,rfl,W,.refl _,by simp[yK],by simp[wts]⟩,?_,?_⟩
  ·rintro j dd rho n4 ej ⟨hk4, m, ps, rk, ts, z6, rfl, W4, pm, hz, hm⟩;obtain⟨hj,rfl⟩:=zu5 ej;simp
   refine⟨d,a,br,ro,th,m,ps,rk,ts,rfl,hk4,hd1,hd4,W4,pm,q5,q5,λn5 m' ps' rk' ts' W5 pm5 hk5 hz5 hm5=>?_⟩
   simp
   exact⟨hk5,m',ps',rk',ts',_,rfl,W5,pm5,q5,q5⟩
  ·rintro rho n4 ⟨hk4, m, ps, rk, ts, z6, rfl, W4, pm, hz, hm⟩
   exact⟨rfl,_,_,_,_,_,_,by rw[zu,hs0];rfl⟩
 ·rintro rho n' ⟨rfl,a,b,c,d1,e1,f1,rfl⟩;simp
end
def vJ{α:Type}{us:List α}{c:Nat}(h:us.length=c+1):∃a r,us=a::r/\r.length=c:=by
 cases us with
 |nil=>cases h
 |cons a r=>exact⟨a,r,rfl,Nat.succ.inj h⟩
def Jt{fd:FuncData}{ps:List Str}{us:List Value}(h:us.length=1)(q:∀x0,bindArgs fd ⟨[x0],[]⟩=pure (ps.zip [x0])):bindArgs fd ⟨us,[]⟩=pure (ps.zip us):=by
 obtain⟨x0,u0,rfl,h0⟩:=vJ h;obtain rfl:=wF.mp h0;exact q x0
def Js{fd:FuncData}{ps:List Str}{us:List Value}(h:us.length=2)(q:∀x0 x1,bindArgs fd ⟨[x0,x1],[]⟩=pure (ps.zip [x0,x1])):bindArgs fd ⟨us,[]⟩=pure (ps.zip us):=by
 obtain⟨x0,u0,rfl,h0⟩:=vJ h;obtain⟨x1,u1,rfl,h1⟩:=vJ h0;obtain rfl:=wF.mp h1;exact q x0 x1
def zY4{fd:FuncData}{ps:List Str}{us:List Value}(h:us.length=3)(q:∀x0 x1 x2,bindArgs fd ⟨[x0,x1,x2],[]⟩=pure (ps.zip [x0,x1,x2])):bindArgs fd ⟨us,[]⟩=pure (ps.zip us):=by
 obtain⟨x0,u0,rfl,h0⟩:=vJ h;obtain⟨x1,u1,rfl,h1⟩:=vJ h0;obtain⟨x2,u2,rfl,h2⟩:=vJ h1;obtain rfl:=wF.mp h2;exact q x0 x1 x2
def zY3{fd:FuncData}{ps:List Str}{us:List Value}(h:us.length=4)(q:∀x0 x1 x2 x3,bindArgs fd ⟨[x0,x1,x2,x3],[]⟩=pure (ps.zip [x0,x1,x2,x3])):bindArgs fd ⟨us,[]⟩=pure (ps.zip us):=by
 obtain⟨x0,u0,rfl,h0⟩:=vJ h;obtain⟨x1,u1,rfl,h1⟩:=vJ h0;obtain⟨x2,u2,rfl,h2⟩:=vJ h1;obtain⟨x3,u3,rfl,h3⟩:=vJ h2;obtain rfl:=wF.mp h3;exact q x0 x1 x2 x3
structure Dn(K:W.Frag)(x:Str)(st:Stmt):Prop where
 ex:∃(f:Addr) (fd:FuncData),W.nsIn K mainGlobals x=some (some (.ref f))/\Fun K x x st f fd
def dn{K:W.Frag}{x:Str}{st:Stmt}{f:Addr}{oc:Value}{od an:Option Addr}{osl:Array (Option Value)}{kV doc pm cdv ct:Value}(a:W.nsIn K mainGlobals x=some (some (.ref f)))(l:K.lookup f=some ⟨oc,od,.func (W.fnOf x x (vo st) (yM st) (zV st) .none kV doc pm an cdv ct),osl⟩)(c:W.codeIn K cdv x=true)(k:W.keepIn K (.ref f)=true):Dn K x st:=⟨f,_,a,KZ (st:=st) l c k⟩
def Dn.fn{P:Program}{w:World}{K:W.Frag}{mg:Str->Option Value}{base h:Heap}{x:Str}{st:Stmt}{kk k:Nat}{t:TF}{ps:List Str}(d:Dn K x st)(X:K.In h)(G:h.Ns mainGlobals mg)(b:∀(kV doc pm:Value) (an:Option Addr) (cdv ct:Value) (us:List Value),us.length=ps.length->bindArgs (W.fnOf x x (vo st) (yM st) (zV st) .none kV doc pm an cdv ct) ⟨us,[]⟩=pure (ps.zip us))(ok:∀(f:Addr) (fd:FuncData),Fun K x x st f fd->mg x=some (.ref f)->W.keepIn K (.ref f)=true->Binds K fd ps []->FnOk P w K mg base CX0 kk f fd ps (spD K k t)):Fn P w K mg base x kk k t:=by
 obtain⟨f,fd,a,F⟩:=d.ex;have m:=W.mg_of X G a;have B:=F.binds b;exact⟨f,fd,ps,ok f fd F m F.kp B,m,F.kp,B⟩
structure Dm(K:W.Frag)(C:Addr)(m qual:Str)(st:Stmt):Prop where
 ex:∃(f:Addr) (fd:FuncData),Meth K C m f/\Fun K m qual st f fd
def dm{K:W.Frag}{C:Addr}{m qual:Str}{st:Stmt}{f:Addr}{oc:Value}{od an:Option Addr}{osl:Array (Option Value)}{kV doc pm cdv ct:Value}(a:W.findIn K (.ref C) m=some (some (.ref f)))(i:W.isFn K (.ref f)=true)(l:K.lookup f=some ⟨oc,od,.func (W.fnOf m qual (vo st) (yM st) (zV st) .none kV doc pm an cdv ct),osl⟩)(c:W.codeIn K cdv qual=true)(k:W.keepIn K (.ref f)=true):Dm K C m qual st:=⟨f,_,⟨a,i,k⟩,KZ (st:=st) l c k⟩
def Dm.mth{P:Program}{w:World}{K:W.Frag}{mg:Str->Option Value}{base:Heap}{C:Addr}{m qual:Str}{st:Stmt}{kk k:Nat}{t:TF}{ps:List Str}(d:Dm K C m qual st)(c:Cls K C)(b:∀(kV doc pm:Value) (an:Option Addr) (cdv ct:Value) (us:List Value),us.length=ps.length->bindArgs (W.fnOf m qual (vo st) (yM st) (zV st) .none kV doc pm an cdv ct) ⟨us,[]⟩=pure (ps.zip us))(ok:∀(f:Addr) (fd:FuncData),Fun K m qual st f fd->FnOk P w K mg base CX0 kk f fd ps (spD K (k+1) t)):MthC P w K mg base C m kk k t:=by
 obtain⟨f,fd,M,F⟩:=d.ex;exact⟨f,fd,ps,ok f fd F,M,c,F.binds b⟩
def Dm.mthX{P:Program}{w:World}{K:W.Frag}{mg:Str->Option Value}{base:Heap}{C:Addr}{m qual:Str}{st:Stmt}{kk k:Nat}{CE:Addr}{t:TFX}{ps:List Str}(d:Dm K C m qual st)(c:Cls K C)(b:∀(kV doc pm:Value) (an:Option Addr) (cdv ct:Value) (us:List Value),us.length=ps.length->bindArgs (W.fnOf m qual (vo st) (yM st) (zV st) .none kV doc pm an cdv ct) ⟨us,[]⟩=pure (ps.zip us))(ok:∀(f:Addr) (fd:FuncData),Fun K m qual st f fd->FnOk P w K mg base (CX1 P w) kk f fd ps (spX K CE (k+1) t)):MthX P w K mg base C m kk k CE t:=by
 obtain⟨f,fd,M,F⟩:=d.ex;exact⟨f,fd,ps,ok f fd F,M,c,F.binds b⟩
def Dm.mke{P:Program}{w:World}{K:W.Frag}{mg:Str->Option Value}{base:Heap}{C:Addr}{x qual:Str}{st:Stmt}{kk k:Nat}{t:TF}{ps:List Str}(d:Dm K C "__init__" qual st)(mk:W.makesIn K C=true)(kc:W.keepIn K (.ref C)=true)(hm:mg x=some (.ref C))(b:∀(kV doc pm:Value) (an:Option Addr) (cdv ct:Value) (us:List Value),us.length=ps.length->bindArgs (W.fnOf "__init__" qual (vo st) (yM st) (zV st) .none kV doc pm an cdv ct) ⟨us,[]⟩=pure (ps.zip us))(ok:∀(f:Addr) (fd:FuncData),Fun K "__init__" qual st f fd->FnOk P w K mg base CX0 kk f fd ps (spD K (k+1) t)):MkeC P w K mg base C x kk k t:=by
 obtain⟨f,fd,M,F⟩:=d.ex;exact⟨f,fd,ps,ok f fd F,⟨mk,M.at_,M.fn,kc⟩,hm,F.binds b⟩
def Dn.fnD{P:Program}{w:World}{K:W.Frag}{mg:Str->Option Value}{base h:Heap}{x:Str}{st:Stmt}{kd kk:Nat}{okC:Addr->Prop}{word:Addr->Str}{ps:List Str}(d:Dn K x st)(X:K.In h)(G:h.Ns mainGlobals mg)(b:∀(kV doc pm:Value) (an:Option Addr) (cdv ct:Value) (us:List Value),us.length=ps.length->bindArgs (W.fnOf x x (vo st) (yM st) (zV st) .none kV doc pm an cdv ct) ⟨us,[]⟩=pure (ps.zip us))(ok:∀(f:Addr) (fd:FuncData),Fun K x x st f fd->FnOkS P w K mg base CX0 kd f fd ps (Ks P w K mg base (kk+1) okC word)):FnDone P w K mg base x kd kk okC word:=by
 obtain⟨f,fd,a,F⟩:=d.ex;exact⟨f,fd,ps,ok f fd F,W.mg_of X G a,F.kp,F.binds b⟩
def all_mk{l:W.OpenLaw}{w:World}{K:W.Frag}{h:Heap}{mg:Str->Option Value}{fa f31 f32:Addr}(X:K.In h)(G:h.Ns mainGlobals mg)(hfa:mg "law" = some (.ref fa))
  {od31 an31 od32 an32:Option Addr}{sl31 sl32:Array (Option Value)}{oc31 kV31 dc31 pm31 cd31 ct31 oc32 kV32 dc32 pm32 cd32 ct32:Value}
  {C_BoxError:Addr}
  {C_NoThing:Addr}
  {C_Taken:Addr}
  {C_NoText:Addr}
  {C_NoLine:Addr}
  {C_NoNumber:Addr}
  {C_Part:Addr}
  {C_Kept:Addr}
  (d0:Dn K "things_by_name" vL)
  (d1:Dn K "names_by" Ze)
  (d2:Dn K "names_in_order" vM)
  (d3:Dn K "halved_up" jd)
  (d4:Dn K "bounds" XO)
  (d5:Dn K "bounds_of" je)
  (d6:Dn K "tree_of" Yh)
  (d7:Dn K "all_names" jf)
  (d8:Dn K "turns" Ul)
  (d9:Dn K "rank_for" Zd)
  (d10:Dm K C_Part "__init__" "Part.__init__" jm)
  (d11:Dm K C_Part "left" "Part.left" jl)
  (d12:Dm K C_Kept "__init__" "Kept.__init__" jp)
  (d13:Dm K C_Kept "put_in" "Kept.put_in" qi)
  (d14:Dm K C_Kept "make_anew" "Kept.make_anew" vN)
  (d15:Dm K C_Kept "come" "Kept.come" jq)
  (d16:Dm K C_Kept "go" "Kept.go" Yj)
  (d17:Dm K C_Kept "made" "Kept.made" jo)
  (d18:Dm K C_Part "told" "Part.told" jk)
  (d19:Dm K C_Kept "ranks" "Kept.ranks" qD)
  (d20:Dm K C_Kept "parts" "Kept.parts" qE)
  (d21:Dm K C_Kept "house" "Kept.house" qF)
  (d22:Dn K "_law_cell_at" kJ)
  (d23:Dn K "_law_left" ji)
  (d24:Dn K "_law_pick" jh)
  (d25:Dn K "_law_of" Yi)
  (d26:Dn K "_law_number" qh)
  (d27:Dn K "_law_thing" qC)
  (d28:Dn K "_law_class_of" kj)
  (d29:Dn K "_law_done" jj)
  (d30:Dn K "_law_told" jg)
  (a31:W.nsIn K mainGlobals "_law_turn_right" = some (some (.ref f31))) (l31:K.lookup f31=some ⟨oc31,od31,.func (W.fnOf "_law_turn_right" "_law_turn_right" (vo yG) (yM yG) (zV yG) .none kV31 dc31 pm31 an31 cd31 ct31),sl31⟩) (c31:W.codeIn K cd31 "_law_turn_right" = true) (k31:W.keepIn K (.ref f31)=true)
  (a32:W.nsIn K mainGlobals "law" = some (some (.ref f32))) (l32:K.lookup f32=some ⟨oc32,od32,.func (W.fnOf "law" "law" (vo XN) (yM XN) (zV XN) .none kV32 dc32 pm32 an32 cd32 ct32),sl32⟩) (c32:W.codeIn K cd32 "law" = true) (k32:W.keepIn K (.ref f32)=true)
  {cc31 Pt31:Addr}{pc31:Value}{pd31:Option Addr}{pe31:Array (Option Value)}{vv31:Array Value} (le31:cd31=.ref cc31) (lk31:K.lookup cc31=some ⟨pc31,pd31,.fields vv31,pe31⟩) (lp31:vv31[11]?=some (.ref Pt31))
  (cn0:W.nsIn K mainGlobals "BoxError" = some (some (.ref C_BoxError)))
  (cn1:W.nsIn K mainGlobals "NoThing" = some (some (.ref C_NoThing)))
  (cn2:W.nsIn K mainGlobals "Taken" = some (some (.ref C_Taken)))
  (cn3:W.nsIn K mainGlobals "NoText" = some (some (.ref C_NoText)))
  (cn4:W.nsIn K mainGlobals "NoLine" = some (some (.ref C_NoLine)))
  (cn5:W.nsIn K mainGlobals "NoNumber" = some (some (.ref C_NoNumber)))
  (cn6:W.nsIn K mainGlobals "Part" = some (some (.ref C_Part)))
  (cn7:W.nsIn K mainGlobals "Kept" = some (some (.ref C_Kept)))
  (xh_pgP:W.plainGet K C_Part Str.empty=true)
  (xh_hdP:W.hasDictIn K C_Part=true)
  (xh_poP:W.plainOver K C_Part=true)
  (xh_saP:W.findIn K (.ref C_Part) "__setattr__" = some (some (.builtin "object.__setattr__")))
  (xh_mkPart:W.makesIn K C_Part=true)
  (xh_kcPart:W.keepIn K (.ref C_Part)=true)
  (xh_ptg:W.findIn K (.ref C_Part) "things" = some none)
  (xh_phd:W.findIn K (.ref C_Part) "held" = some none)
  (xh_ptr:W.findIn K (.ref C_Part) "tree" = some none)
  (xh_pgn:W.findIn K (.ref C_Part) "gone" = some none)
  (xh_pgK:W.plainGet K C_Kept Str.empty=true)
  (xh_hdK:W.hasDictIn K C_Kept=true)
  (xh_poK:W.plainOver K C_Kept=true)
  (xh_saK:W.findIn K (.ref C_Kept) "__setattr__" = some (some (.builtin "object.__setattr__")))
  (xh_mkKept:W.makesIn K C_Kept=true)
  (xh_kcKept:W.keepIn K (.ref C_Kept)=true)
  (xh_kd:W.findIn K (.ref C_Kept) "d" = some none)
  (xh_kb:W.findIn K (.ref C_Kept) "by_rank" = some none)
  (xh_kr:W.findIn K (.ref C_Kept) "rank_of" = some none)
  (xh_km:W.findIn K (.ref C_Kept) "so_many_made" = some none)
  (xh_gaN:W.findIn K (.ref C_NoThing) "__getattribute__" = some (some (.builtin "BaseException.__getattribute__")))
  (xh_gtN:W.findIn K (.ref C_NoThing) "__getattr__" = some none)
  (xh_clN:W.findIn K (.ref C_NoThing) "__class__" = some (some (.builtin "object.__class__")))
  (xh_obN:W.mroIn K C_NoThing (.type "object")=some true)
  (xh_beN:W.mroIn K C_NoThing (.type "BaseException")=some true)
  (xh_hdN:W.hasDictIn K C_NoThing=true)
  (xh_eiN:W.excIn K C_NoThing Qt "ValueError.__new__" = true)
  (xh_emN:W.exmOne K (.ref C_NoThing) (.ref C_BoxError)=some true)
  (xh_keN:W.kitOne K (.ref C_NoThing) (.ref C_NoThing)=some true)
  (xh_koN:W.kitOne K (.ref C_NoThing) (.ref C_Taken)=some false)
  (xh_k3N:W.kitOne K (.ref C_NoThing) (.ref C_NoText)=some false)
  (xh_k4N:W.kitOne K (.ref C_NoThing) (.ref C_NoLine)=some false)
  (xh_k5N:W.kitOne K (.ref C_NoThing) (.ref C_NoNumber)=some false)
  (xh_kvN:W.kitOne K (.ref C_NoThing) (.type "ValueError")=some true)
  (xh_gaT:W.findIn K (.ref C_Taken) "__getattribute__" = some (some (.builtin "BaseException.__getattribute__")))
  (xh_gtT:W.findIn K (.ref C_Taken) "__getattr__" = some none)
  (xh_clT:W.findIn K (.ref C_Taken) "__class__" = some (some (.builtin "object.__class__")))
  (xh_obT:W.mroIn K C_Taken (.type "object")=some true)
  (xh_beT:W.mroIn K C_Taken (.type "BaseException")=some true)
  (xh_hdT:W.hasDictIn K C_Taken=true)
  (xh_eiT:W.excIn K C_Taken Qt "ValueError.__new__" = true)
  (xh_emT:W.exmOne K (.ref C_Taken) (.ref C_BoxError)=some true)
  (xh_keT:W.kitOne K (.ref C_Taken) (.ref C_Taken)=some true)
  (xh_koT:W.kitOne K (.ref C_Taken) (.ref C_NoThing)=some false)
  (xh_k3T:W.kitOne K (.ref C_Taken) (.ref C_NoText)=some false)
  (xh_k4T:W.kitOne K (.ref C_Taken) (.ref C_NoLine)=some false)
  (xh_k5T:W.kitOne K (.ref C_Taken) (.ref C_NoNumber)=some false)
  (xh_kvT:W.kitOne K (.ref C_Taken) (.type "ValueError")=some true)
  (xh_gs:W.specialIn K (.builtin "object.__class__") "__get__" = some (some (.builtin "getset_descriptor.__get__")))
  (xh_tk:W.takesIn K (.builtin "object.__class__")=some true)
  (zn0:W.nsIn K mainGlobals "ValueError" = some none)
  (z0:W.nsIn K mainGlobals "len" = some none) (z1:W.nsIn K mainGlobals "abs" = some none) (z2:W.nsIn K mainGlobals "all" = some none) (z3:W.nsIn K mainGlobals "any" = some none) (z4:W.nsIn K mainGlobals "isinstance" = some none) (z5:W.nsIn K mainGlobals "int" = some none) (z6:W.nsIn K mainGlobals "bool" = some none) (z7:W.nsIn K mainGlobals "str" = some none) (z8:W.nsIn K mainGlobals "tuple" = some none) (z9:W.nsIn K mainGlobals "list" = some none) (z10:W.nsIn K mainGlobals "range" = some none) (z11:W.nsIn K mainGlobals "zip" = some none) (z12:W.nsIn K mainGlobals "enumerate" = some none) (z13:W.nsIn K mainGlobals "max" = some none) (z14:W.nsIn K mainGlobals "min" = some none) (z15:W.nsIn K mainGlobals "sorted" = some none) :
  ∃fd:FuncData,(∀(s:Shared) (v:Value),BindsTo s fd ⟨[v],[]⟩ [("_law_script",v)])/\∀base:Heap,K.In base->base.Ns mainGlobals mg->base.NoDigits->VW K mg base->FnOk l.prog w K mg base CX0 22 fa fd ["_law_script"] (WH K):=by
 have tb31:=zL1 a31 l31 le31 lk31 lp31;have e:=hfa.symm.trans (W.mg_of X G a32);cases e;have T:Blt mg:=⟨W.mg_none_of X G z0,W.mg_none_of X G z1,W.mg_none_of X G z2,W.mg_none_of X G z3,W.mg_none_of X G z4,W.mg_none_of X G z5,W.mg_none_of X G z6,W.mg_none_of X G z7,W.mg_none_of X G z8,W.mg_none_of X G z9,W.mg_none_of X G z10,W.mg_none_of X G z11,W.mg_none_of X G z12,W.mg_none_of X G z13,W.mg_none_of X G z14,W.mg_none_of X G z15⟩;have CX_BoxError:=W.mg_of X G cn0;have CX_NoThing:=W.mg_of X G cn1;have CX_Taken:=W.mg_of X G cn2;have CX_NoText:=W.mg_of X G cn3;have CX_NoLine:=W.mg_of X G cn4;have CX_NoNumber:=W.mg_of X G cn5;have CX_Part:=W.mg_of X G cn6;have CX_Kept:=W.mg_of X G cn7;have N_ValueError:=W.mg_none_of X G zn0;have CL_Part:Cls K C_Part:=⟨xh_pgP,xh_hdP,xh_poP,xh_saP⟩;have CL_Kept:Cls K C_Kept:=⟨xh_pgK,xh_hdK,xh_poK,xh_saK⟩;have NA_things:NoAttr K C_Part "things" := xh_ptg;have NA_held:NoAttr K C_Part "held" := xh_phd;have NA_tree:NoAttr K C_Part "tree" := xh_ptr;have NA_gone:NoAttr K C_Part "gone" := xh_pgn;have NA_d:NoAttr K C_Kept "d" := xh_kd;have NA_by_rank:NoAttr K C_Kept "by_rank" := xh_kb;have NA_rank_of:NoAttr K C_Kept "rank_of" := xh_kr;have NA_so_many_made:NoAttr K C_Kept "so_many_made" := xh_km;have ECN:ExcC K C_NoThing:=⟨xh_gaN,xh_gtN,xh_clN,xh_gs,xh_tk,xh_obN,xh_beN,xh_hdN⟩;have CN_NoThing:ClsX K mg "NoThing" C_NoThing:=⟨CX_NoThing,ECN,xh_eiN⟩;have ECT:ExcC K C_Taken:=⟨xh_gaT,xh_gtT,xh_clT,xh_gs,xh_tk,xh_obT,xh_beT,xh_hdT⟩;have CN_Taken:ClsX K mg "Taken" C_Taken:=⟨CX_Taken,ECT,xh_eiT⟩;have EXN:ExOk K C_NoThing C_NoThing C_Taken C_NoText C_NoLine C_NoNumber true false:=⟨ECN,xh_keN,xh_koN,xh_k3N,xh_k4N,xh_k5N,xh_kvN⟩;have EXT:ExOk K C_Taken C_NoThing C_Taken C_NoText C_NoLine C_NoNumber false true:=⟨ECT,xh_koT,xh_keT,xh_k3T,xh_k4T,xh_k5T,xh_kvT⟩;have hnt:C_NoThing≠C_Taken:=zR7 xh_keN xh_koN;have U31:=KZ (st:=yG) l31 c31 k31;have U32:=KZ (st:=XN) l32 c32 k32;refine⟨W.fnOf "law" "law" (vo XN) (yM XN) (zV XN) .none kV32 dc32 pm32 an32 cd32 ct32,λs v=>.of_eq rfl,λbase _ _ ND LA=>?_⟩
 have LB31:=LA "_law_turn_right" (by simp[kO]) _ _ tb31
 have F_things_by_name:Fn l.prog w K mg base "things_by_name" 1 1 zy8:=d0.fn X G (ps:=qZ1) (λ_ _ _ _ _ _ _ h=>Jt h λ_=>rfl) λ_ _ U M N B=>zQ9 T U;have F_names_by:Fn l.prog w K mg base "names_by" 1 2 jY:=d1.fn X G (ps:=["things","i"]) (λ_ _ _ _ _ _ _ h=>Js h λ_ _=>rfl) λ_ _ U M N B=>Ux T U;have F_names_in_order:Fn l.prog w K mg base "names_in_order" 2 3 jZ:=d2.fn X G (ps:=qZ4) (λ_ _ _ _ _ _ _ h=>zY4 h λ_ _ _=>rfl) λ_ _ U M N B=>Uy U F_names_by;have F_halved_up:Fn l.prog w K mg base "halved_up" 1 1 ja:=d3.fn X G (ps:=["count"]) (λ_ _ _ _ _ _ _ h=>Jt h λ_=>rfl) λ_ _ U M N B=>Vj U;have F_bounds:Fn l.prog w K mg base "bounds" 1 1 Yd:=d4.fn X G (ps:=["places"]) (λ_ _ _ _ _ _ _ h=>Jt h λ_=>rfl) λ_ _ U M N B=>JK T U;have F_bounds_of:Fn l.prog w K mg base "bounds_of" 2 2 jb:=d5.fn X G (ps:=qZ5) (λ_ _ _ _ _ _ _ h=>Js h λ_ _=>rfl) λ_ _ U M N B=>Vk U F_bounds;have F_tree_of:Fn l.prog w K mg base "tree_of" 12 4 (WD 10):=d6.fn X G (ps:=qZ6) (λ_ _ _ _ _ _ _ h=>zY3 h λ_ _ _ _=>rfl) λ_ _ U M N B=>zE4 T U M N B F_bounds_of F_names_in_order F_halved_up 10;have F_all_names:Fn l.prog w K mg base "all_names" 1 1 jc:=d7.fn X G (ps:=qZ1) (λ_ _ _ _ _ _ _ h=>Jt h λ_=>rfl) λ_ _ U M N B=>Vl T U;have F_turns:Fn l.prog w K mg base "turns" 13 1 Uc:=d8.fn X G (ps:=qZ1) (λ_ _ _ _ _ _ _ h=>Jt h λ_=>rfl) λ_ _ U M N B=>zp2 T U F_tree_of F_things_by_name F_all_names;have F_rank_for:Fn l.prog w K mg base "rank_for" 1 1 ZZ:=d9.fn X G (ps:=["many"]) (λ_ _ _ _ _ _ _ h=>Jt h λ_=>rfl) λ_ _ U M N B=>JH U;have MK_Part:MkeC l.prog w K mg base C_Part "Part" 14 2 (Uf C_Part):=d10.mke xh_mkPart xh_kcPart CX_Part (ps:=qZ7) (λ_ _ _ _ _ _ _ h=>zY4 h λ_ _ _=>rfl) λ_ _ U=>zp7 T CL_Part NA_things NA_held NA_tree NA_gone U F_turns;have M_left:MthC l.prog w K mg base C_Part "left" 1 0 (Yb C_Part):=d11.mth CL_Part (ps:=qZ0) (λ_ _ _ _ _ _ _ h=>Jt h λ_=>rfl) λ_ _ U=>zp6 T CL_Part NA_things NA_gone U;have MK_Kept:MkeC l.prog w K mg base C_Kept "Kept" 1 1 (Ui C_Kept):=d12.mke xh_mkKept xh_kcKept CX_Kept (ps:=["self","d"]) (λ_ _ _ _ _ _ _ h=>Js h λ_ _=>rfl) λ_ _ U=>zq0 CL_Kept NA_d NA_by_rank NA_rank_of NA_so_many_made U;have M_put_in:MthC l.prog w K mg base C_Kept "put_in" 16 2 (XE C_Part C_Kept):=d13.mth CL_Kept (ps:=qZ8) (λ_ _ _ _ _ _ _ h=>zY4 h λ_ _ _=>rfl) λ_ _ U=>zp5 T CL_Kept NA_d NA_by_rank NA_rank_of NA_so_many_made U M_left MK_Part;have M_make_anew:MthC l.prog w K mg base C_Kept "make_anew" 17 1 (QG C_Part C_Kept):=d14.mth CL_Kept (ps:=qZ3) (λ_ _ _ _ _ _ _ h=>Js h λ_ _=>rfl) λ_ _ U=>zF1 T CL_Kept NA_by_rank U M_left M_put_in F_rank_for
 have MX_come:MthX l.prog w K mg base C_Kept "come" 18 1 C_Taken (QF C_Part C_Kept):=d15.mthX CL_Kept (ps:=["self","thing"]) (λ_ _ _ _ _ _ _ h=>Js h λ_ _=>rfl) λ_ _ U=>(zF0 CN_Taken CL_Kept NA_rank_of U M_put_in).mono q9
 have MX_go:MthX l.prog w K mg base C_Kept "go" 18 1 C_NoThing (zY6 C_Part C_Kept):=d16.mthX CL_Kept (ps:=["self","name"]) (λ_ _ _ _ _ _ _ h=>Js h λ_ _=>rfl) λ_ _ U=>xh2 T CN_NoThing CL_Kept CL_Part NA_things NA_gone NA_by_rank NA_rank_of U M_make_anew;have M_made:MthC l.prog w K mg base C_Kept "made" 1 0 (QD C_Part C_Kept):=d17.mth CL_Kept (ps:=qZ0) (λ_ _ _ _ _ _ _ h=>Jt h λ_=>rfl) λ_ _ U=>zE7 CL_Kept NA_so_many_made U;have M_told:MthC l.prog w K mg base C_Part "told" 1 1 (QC C_Part):=d18.mth CL_Part (ps:=qZ3) (λ_ _ _ _ _ _ _ h=>Js h λ_ _=>rfl) λ_ _ U=>zE5 T CL_Part NA_things NA_gone U;have M_ranks:MthC l.prog w K mg base C_Kept "ranks" 1 0 (Ue C_Part C_Kept):=d19.mth CL_Kept (ps:=qZ0) (λ_ _ _ _ _ _ _ h=>Jt h λ_=>rfl) λ_ _ U=>zp4 T CL_Kept NA_by_rank U;have M_parts:MthC l.prog w K mg base C_Kept "parts" 2 0 (Ug C_Part C_Kept):=d20.mth CL_Kept (ps:=qZ0) (λ_ _ _ _ _ _ _ h=>Jt h λ_=>rfl) λ_ _ U=>zp8 T CL_Kept NA_by_rank U M_told M_ranks;have M_house:MthC l.prog w K mg base C_Kept "house" 2 0 (jJ C_Part C_Kept):=d21.mth CL_Kept (ps:=qZ0) (λ_ _ _ _ _ _ _ h=>Jt h λ_=>rfl) λ_ _ U=>zc0 T CL_Kept NA_d NA_by_rank U M_left;have Y_cell_at:Fn l.prog w K mg base "_law_cell_at" 1 2 Yc:=d22.fn X G (ps:=qZ2) (λ_ _ _ _ _ _ _ h=>Js h λ_ _=>rfl) λ_ _ U M N B=>JJ T U;have Y_left:Fn l.prog w K mg base "_law_left" 2 2 QE:=d23.fn X G (ps:=qZ2) (λ_ _ _ _ _ _ _ h=>Js h λ_ _=>rfl) λ_ _ U M N B=>zE8 T ND U Y_cell_at;have Y_pick:Fn l.prog w K mg base "_law_pick" 1 2 Zy:=d24.fn X G (ps:=["_law_left_here","_law_many"]) (λ_ _ _ _ _ _ _ h=>Js h λ_ _=>rfl) λ_ _ U M N B=>zE6 U;have Y_of:Fn l.prog w K mg base "_law_of" 2 2 zL2:=d25.fn X G (ps:=qZ9) (λ_ _ _ _ _ _ _ h=>Js h λ_ _=>rfl) λ_ _ U M N B=>xh1 T U Y_pick;have Y_number:Fn l.prog w K mg base "_law_number" 3 2 XF:=d26.fn X G (ps:=["_law_left_here","_law_near"]) (λ_ _ _ _ _ _ _ h=>Js h λ_ _=>rfl) λ_ _ U M N B=>zb9 U Y_pick Y_of;have Y_thing:Fn l.prog w K mg base "_law_thing" 4 4 Ud:=d27.fn X G (ps:=xg1) (λ_ _ _ _ _ _ _ h=>zY3 h λ_ _ _ _=>rfl) λ_ _ U M N B=>zp3 T U Y_pick Y_of Y_number;have Y_class_of:Fn l.prog w K mg base "_law_class_of" 1 1 (jK C_NoThing C_Taken):=d28.fn X G (ps:=["_law_error"]) (λ_ _ _ _ _ _ _ h=>Jt h λ_=>rfl) λ_ _ U M N B=>JI T EXN EXT CX_NoThing CX_Taken CX_NoText CX_NoLine CX_NoNumber N_ValueError U;have FS__law_done:FnDone l.prog w K mg base "_law_done" 20 18 (zX8 C_NoThing C_Taken) (XA C_Taken):=d29.fnD X G (ps:=["_law_deed","_law_thing_here"]) (λ_ _ _ _ _ _ _ h=>Js h λ_ _=>rfl) λ_ _ U=>zE9 U CX_BoxError xh_emN xh_emT Y_class_of;have Y_told:Fn l.prog w K mg base "_law_told" 3 1 (XG C_Part C_Kept):=d30.fn X G (ps:=["_law_kept"]) (λ_ _ _ _ _ _ _ h=>Jt h λ_=>rfl) λ_ _ U M N B=>zp9 U M_parts M_house M_made;have Y_turn_right:Fn l.prog w K mg base "_law_turn_right" 21 4 (QB C_Part C_Kept):=⟨_,_,_,zE3 T U31 a31 tb31 LB31 hnt FS__law_done MX_come MX_go M_house Y_pick Y_thing Y_told,W.mg_of X G a31,k31,(U31.binds (ps:=xg0) λ_ _ _ _ _ _ _ h=>zY3 h λ_ _ _ _=>rfl)⟩;exact zR0 T U32 MK_Kept Y_left Y_pick Y_of Y_turn_right
def walk{l:W.OpenLaw}{q:Program}{loose:List Str}{XP:(Str->Option Value)->Heap->Prop}{YP:World->Heap->Prop}{d:DefRec}{K:Params->W.Frag}(hn:l.most=some 63)(hdf:d.params.defaults=[])
  (hY:∀(w:World) (h:Heap),YP w h->(K w.params).In h)
  (hrec:∀(w:World),∀y∈kO,∀c P,W.tabIn (K w.params) y=some (c,P)->∃d,(recsOf q).find? (λe=>e.name == y)=some d) (hnt:∀w:World,W.noTabs (K w.params)=true)
  (F : ∀ (w : World) (mg : Str -> Option Value) (fa : Addr) (h : Heap), (K w.params).In h -> h.Ns mainGlobals mg -> mg d.name = some (.ref fa) ->
   ∃fd:FuncData,(∀(s:Shared) (u:Value),BindsTo s fd ⟨[u],[]⟩ [("_law_script",u)])/\∀base:Heap,(K w.params).In base->base.Ns mainGlobals mg->base.NoDigits->VW (K w.params) mg base->FnOk l.prog w (K w.params) mg base CX0 22 fa fd ["_law_script"] (WH (K w.params))) :
  W.WalkO q loose XP YP l.row.toRowW d [] (λf vs=>PySem.call f vs):=
 L2.zk6 (n:=63) (k:=22) (x := "_law_script") (CX:=λ_=>CX0) (sp:=λw=>WH (K w.params)) hn q9 hdf ⟨rfl,q9,q9,rfl⟩ hY hrec (λw=>zy7 (K w.params)) hnt F (λ_ _ a ns hl hO hS hT=>⟨a,ns,rfl,hO,hS,hl,hT,λH h=>⟨rfl,h⟩⟩) λ_ _ _ _ _ z=>z
end K54
open PySem PySem.W PyProof.Rows
set_option maxRecDepth 100000 in
set_option maxHeartbeats 0 in
theorem PySem.Challenge.cw_boxlayers_k54_comings_refused_holds : PySem.Challenge.rw_boxlayers_k54_comings_refused.Holds := by
 w_on;refine PySem.W.holds_law (by kernel_rfl) λsaid=>?_;k_head;(case hw=>w_witness2)
 k_fill
 refine K54.walk (l:=PySem.Challenge.rw_boxlayers_k54_comings_refused) rfl rfl (λw h Y=>PySem.W.km_in_of Y) ?kR ?kN ?kF
 case kR=>
  intro w y hy c P e
  have z:y = "_law_turn_right" := by simpa [L2.kO] using hy
  subst z;exact⟨_,rfl⟩
 case kN=>
  intro w
  kernel_rfl
 case kF=>
  intro w mg fa h KX G hmg;refine' K54.all_mk KX G hmg ?d0 ?d1 ?d2 ?d3 ?d4 ?d5 ?d6 ?d7 ?d8 ?d9 ?d10 ?d11 ?d12 ?d13 ?d14 ?d15 ?d16 ?d17 ?d18 ?d19 ?d20 ?d21 ?d22 ?d23 ?d24 ?d25 ?d26 ?d27 ?d28 ?d29 ?d30 ?a31 ?l31 ?c31 ?k31 ?a32 ?l32 ?c32 ?k32 ?le31 ?lk31 ?lp31 ?cn0 ?cn1 ?cn2 ?cn3 ?cn4 ?cn5 ?cn6 ?cn7 ?xh_pgP ?xh_hdP ?xh_poP ?xh_saP ?xh_mkPart ?xh_kcPart ?xh_ptg ?xh_phd ?xh_ptr ?xh_pgn ?xh_pgK ?xh_hdK ?xh_poK ?xh_saK ?xh_mkKept ?xh_kcKept ?xh_kd ?xh_kb ?xh_kr ?xh_km ?xh_gaN ?xh_gtN ?xh_clN ?xh_obN ?xh_beN ?xh_hdN ?xh_eiN ?xh_emN ?xh_keN ?xh_koN ?xh_k3N ?xh_k4N ?xh_k5N ?xh_kvN ?xh_gaT ?xh_gtT ?xh_clT ?xh_obT ?xh_beT ?xh_hdT ?xh_eiT ?xh_emT ?xh_keT ?xh_koT ?xh_k3T ?xh_k4T ?xh_k5T ?xh_kvT ?xh_gs ?xh_tk ?zn0 ?z0 ?z1 ?z2 ?z3 ?z4 ?z5 ?z6 ?z7 ?z8 ?z9 ?z10 ?z11 ?z12 ?z13 ?z14 ?z15
  (case a31=>k_is)
  (case l31=>k_is)
  (case c31=>k_is)
  (case k31=>k_is)
  (case a32=>k_is)
  (case l32=>k_is)
  (case c32=>k_is)
  (case k32=>k_is)
  (case le31=>rfl)
  (case lk31=>k_is)
  (case lp31=>rfl)
  (case cn0=>k_is)
  (case cn1=>k_is)
  (case cn2=>k_is)
  (case cn3=>k_is)
  (case cn4=>k_is)
  (case cn5=>k_is)
  (case cn6=>k_is)
  (case cn7=>k_is)
  (case xh_pgP=>(first | k_is | rfl | kernel_rfl))
  (case xh_hdP=>(first | k_is | rfl | kernel_rfl))
  (case xh_poP=>(first | k_is | rfl | kernel_rfl))
  (case xh_saP=>(first | k_is | rfl | kernel_rfl))
  (case xh_mkPart=>(first | k_is | rfl | kernel_rfl))
  (case xh_kcPart=>(first | k_is | rfl | kernel_rfl))
  (case xh_ptg=>(first | k_is | rfl | kernel_rfl))
  (case xh_phd=>(first | k_is | rfl | kernel_rfl))
  (case xh_ptr=>(first | k_is | rfl | kernel_rfl))
  (case xh_pgn=>(first | k_is | rfl | kernel_rfl))
  (case xh_pgK=>(first | k_is | rfl | kernel_rfl))
  (case xh_hdK=>(first | k_is | rfl | kernel_rfl))
  (case xh_poK=>(first | k_is | rfl | kernel_rfl))
  (case xh_saK=>(first | k_is | rfl | kernel_rfl))
  (case xh_mkKept=>(first | k_is | rfl | kernel_rfl))
  (case xh_kcKept=>(first | k_is | rfl | kernel_rfl))
  (case xh_kd=>(first | k_is | rfl | kernel_rfl))
  (case xh_kb=>(first | k_is | rfl | kernel_rfl))
  (case xh_kr=>(first | k_is | rfl | kernel_rfl))
  (case xh_km=>(first | k_is | rfl | kernel_rfl))
  (case xh_gaN=>(first | k_is | rfl | kernel_rfl))
  (case xh_gtN=>(first | k_is | rfl | kernel_rfl))
  (case xh_clN=>(first | k_is | rfl | kernel_rfl))
  (case xh_obN=>(first | k_is | rfl | kernel_rfl))
  (case xh_beN=>(first | k_is | rfl | kernel_rfl))
  (case xh_hdN=>(first | k_is | rfl | kernel_rfl))
  (case xh_eiN=>(first | k_is | rfl | kernel_rfl))
  (case xh_emN=>(first | k_is | rfl | kernel_rfl))
  (case xh_keN=>(first | k_is | rfl | kernel_rfl))
  (case xh_koN=>(first | k_is | rfl | kernel_rfl))
  (case xh_k3N=>(first | k_is | rfl | kernel_rfl))
  (case xh_k4N=>(first | k_is | rfl | kernel_rfl))
  (case xh_k5N=>(first | k_is | rfl | kernel_rfl))
  (case xh_kvN=>(first | k_is | rfl | kernel_rfl))
  (case xh_gaT=>(first | k_is | rfl | kernel_rfl))
  (case xh_gtT=>(first | k_is | rfl | kernel_rfl))
  (case xh_clT=>(first | k_is | rfl | kernel_rfl))
  (case xh_obT=>(first | k_is | rfl | kernel_rfl))
  (case xh_beT=>(first | k_is | rfl | kernel_rfl))
  (case xh_hdT=>(first | k_is | rfl | kernel_rfl))
  (case xh_eiT=>(first | k_is | rfl | kernel_rfl))
  (case xh_emT=>(first | k_is | rfl | kernel_rfl))
  (case xh_keT=>(first | k_is | rfl | kernel_rfl))
  (case xh_koT=>(first | k_is | rfl | kernel_rfl))
  (case xh_k3T=>(first | k_is | rfl | kernel_rfl))
  (case xh_k4T=>(first | k_is | rfl | kernel_rfl))
  (case xh_k5T=>(first | k_is | rfl | kernel_rfl))
  (case xh_kvT=>(first | k_is | rfl | kernel_rfl))
  (case xh_gs=>(first | k_is | rfl | kernel_rfl))
  (case xh_tk=>(first | k_is | rfl | kernel_rfl))
  (case zn0=>k_is)
  (case z0=>k_is)
  (case z1=>k_is)
  (case z2=>k_is)
  (case z3=>k_is)
  (case z4=>k_is)
  (case z5=>k_is)
  (case z6=>k_is)
  (case z7=>k_is)
  (case z8=>k_is)
  (case z9=>k_is)
  (case z10=>k_is)
  (case z11=>k_is)
  (case z12=>k_is)
  (case z13=>k_is)
  (case z14=>k_is)
  (case z15=>k_is)
  all_goals first | (apply K54.dn;k_is;k_is;k_is;k_is) | (apply K54.dm;k_is;k_is;k_is;k_is;k_is)
end
#print axioms PySem.Challenge.cw_boxlayers_k54_comings_refused_holds
