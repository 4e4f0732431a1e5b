import PyProof.Rows.All
import Wide.All
import OpenK.AllK
import Wide.FinOn
import Lean
import PyProof.EqAt
import PyProof.EqKinds
import PyProof.TupleCall
import PyProof.CompFree
import PyProof.ZipIter
import PyProof.Cells
import PyProof.Rows.CellsFrame
import PyProof.EnumMake
import PyProof.TupleIter
import PyProof.IsiPairs
import PyProof.IsiSeqPairs
import PyProof.IsiNone
import PyProof.ConsumeWalk
import PyProof.DictCompW
import PyProof.NeKinds
import PyProof.MinMaxWalk
import PyProof.Rows.SortRev
import KE.KIsAll
import KE.KDictOf
import PyProof.AttrMissHeap
import PyProof.CallFns
import KE.KLam
import KE.KSortKey
import PyProof.MaxThree
import KE.KDictList
import PyProof.DictRoadsH
import PyProof.DictUpdate
import PyProof.DictWalks
import PyProof.Rows.SetFrom
import PySem.Challenge.RW_boxlayers_k42_one_more_each_time
set_option Elab.async false
set_option linter.all false
namespace K42H
section
open PySem PySem.W PyProof.Rows
def top (i : Nat) : Stmt := PySem.Challenge.pw_boxlayers_k42_one_more_each_time.main.body.getD i (.Pass ⟨0, 0, 0, 0⟩)
noncomputable def view:Program:={ PySem.Challenge.pw_boxlayers_k42_one_more_each_time with main:={ PySem.Challenge.pw_boxlayers_k42_one_more_each_time.main with body:=[top 1,top 2,top 3,top 4,top 5,top 6,top 7,top 8,top 9,top 10,top 11,top 12,top 14,top 16,top 17,top 18,top 19,top 20,top 22,top 23,top 24,top 25,top 26,top 27,top 28,top 29,top 30,top 31,top 32,top 33,top 34,top 35,top 36,top 37,top 38,top 39,top 40,top 41] } }
local macro_rules | `(tactic| o_head (kmHook $k $a $e $t)) => `(tactic| (assumption; exact ($a, $t)))
set_option maxRecDepth 100000 in
set_option maxHeartbeats 0 in
noncomputable def hk : List Addr × List Addr := by
  refine (fun (_ : (OpenLaw.row PySem.Challenge.rw_boxlayers_k42_one_more_each_time).Holds → (OpenLaw.row PySem.Challenge.rw_boxlayers_k42_one_more_each_time).Holds) => ?a) (fun h => ?b)
  rotate_left
  k_head
noncomputable abbrev hook : Hook := kmHook hk.heap_1 hk.1 (fun _ => by kernel_rfl) hk.2
set_option maxRecDepth 100000 in
set_option maxHeartbeats 0 in
theorem headF (w : World) : (fencedOpening treeTable (OpenLaw.row PySem.Challenge.rw_boxlayers_k42_one_more_each_time).prog w 10000).map (fun a => (topFrom treeTable (OpenLaw.row PySem.Challenge.rw_boxlayers_k42_one_more_each_time).prog (w.withFollow "special-get-raises" false) 10000 a).map (fun s => (openSeen view [] (importedModules (OpenLaw.row PySem.Challenge.rw_boxlayers_k42_one_more_each_time).prog.main.body) (fun s => xlAt view [] s && recOk (RowW.records (OpenRow.toRowW (OpenLaw.row PySem.Challenge.rw_boxlayers_k42_one_more_each_time))) s) true s, Hook.obs hook s))) = some (some (openGood view [], Hook.val hook (w.withFollow "special-get-raises" false))) := by kernel_rfl
set_option maxRecDepth 100000 in
set_option maxHeartbeats 0 in
theorem headT (w : World) : (fencedOpening treeTable (OpenLaw.row PySem.Challenge.rw_boxlayers_k42_one_more_each_time).prog w 10000).map (fun a => (topFrom treeTable (OpenLaw.row PySem.Challenge.rw_boxlayers_k42_one_more_each_time).prog (w.withFollow "special-get-raises" true) 10000 a).map (fun s => (openSeen view [] (importedModules (OpenLaw.row PySem.Challenge.rw_boxlayers_k42_one_more_each_time).prog.main.body) (fun s => xlAt view [] s && recOk (RowW.records (OpenRow.toRowW (OpenLaw.row PySem.Challenge.rw_boxlayers_k42_one_more_each_time))) s) true s, Hook.obs hook s))) = some (some (openGood view [], Hook.val hook (w.withFollow "special-get-raises" true))) := by kernel_rfl
theorem two_map {u v : Type} {o : Option u} {A B : u → v} {a b : v} (h1 : o.map A = some a) (h2 : o.map B = some b) : o.map (fun s => (A s, B s)) = some (a, b) := by
  cases o with
  | none => cases h1
  | some s => exact congrArg some (congr (congrArg Prod.mk (Option.some.inj h1)) (Option.some.inj h2))
theorem left : LeftO (OpenLaw.row PySem.Challenge.rw_boxlayers_k42_one_more_each_time).prog view [] (fun s => xlAt view [] s && recOk (RowW.records (OpenRow.toRowW (OpenLaw.row PySem.Challenge.rw_boxlayers_k42_one_more_each_time))) s) (Hook.obs hook) (Hook.val hook) 10000 := LeftO.of_split "special-get-raises" fun w => @two_map _ _ _ _ _ _ _ (headF w) (headT w)
end
end K42H
abbrev QqM:=PySem.Str->Option PySem.Value
abbrev QqA:=PySem.Addr->Prop
abbrev QqO:=Option (List Int)
abbrev QqI:=List (List Int)
abbrev QqW:=List PySem.Value
abbrev QqP:=Int × Int
abbrev QqE:=Option PySem.Addr
abbrev QqS:=Option PySem.Value->PySem.Shared->Prop
abbrev QqU:=Unit->PySem.Shared->Prop
abbrev QqV:=PySem.Value->PySem.Shared->Prop
abbrev QqL:=List (PySem.Addr × PySem.Obj)
open PySem PySem.Spec PyProof.Rows
open List (of_mem_zip replicate length_drop map_nil all_cons forIn_nil forIn_cons zipIdx_cons take_left' getElem_of_mem filter_sublist ext_getElem? nodup_nil zipWith_map sum_cons)
noncomputable section
set_option Elab.async false
set_option linter.all false
set_option maxRecDepth 100000
section
def xC:=@Array.getElem?_eq_getElem
def wB:=@Array.getElem?_eq_none
def yv:=@Array.getElem?_map
def yu:=@Array.getElem?_toList
def xU:=@Array.length_toList
def yZ:=@Array.size_range
def yM:=@Array.toArray_toList
def zL:=@Bool.and_eq_true
def wx:=@Bool.eq_iff_iff
def zZ:=@Bool.false_eq_true
def zJ:=@Bool.false_ne_true
def ze:=@Heap.get?_push_of_some
def zr:=@Heap.get?_push_size
def wA:=@Heap.get?_update_other
def xT:=@Heap.get?_update_self
def zo:=@Heap.lt_size
def wc:=@Heap.size_push
def yb:=@Int.emod_lt_of_pos
def wJ:=@Int.emod_nonneg
def xV:=@Int.eq_ofNat_of_zero_le
def yz:=@Int.le_refl
def yP:=@Int.toNat_natCast
def wm:=@List.all_eq_true
def yR:=@List.any_cons
def yi:=@List.append_assoc
def ww:=@List.append_nil
def yL:=@List.drop_left'
def yX:=@List.filterMap_cons
def yt:=@List.filterMap_map
def yq:=@List.filter_append
def xh:=@List.filter_cons_of_neg
def zY:=@List.filter_cons_of_pos
def vd:=@List.filter_eq_nil_iff
def wg:=@List.find?_cons
def wq:=@List.flatMap_cons
def yh:=@List.flatten_cons
def zM:=@List.getD_eq_getElem?_getD
def xB:=@List.getElem?_append_left
def xk:=@List.getElem?_append_right
def yp:=@List.getElem?_drop
def zd:=@List.getElem?_eq_getElem
def wW:=@List.getElem?_eq_none
def zu:=@List.getElem?_eq_some_iff
def zw:=@List.getElem?_map
def yk:=@List.getElem?_range
def xl:=@List.getElem?_replicate
def xb:=@List.getElem?_set_ne
def zW:=@List.getElem?_set_self
def wl:=@List.getElem_mem
def zy:=@List.length_append
def zI:=@List.length_cons
def zX:=@List.length_eq_zero_iff
def wV:=@List.length_filter_le
def zg:=@List.length_map
def ve:=@List.length_nil
def vc:=@List.length_pos_of_mem
def xN:=@List.length_replicate
def xt:=@List.length_take
def yK:=@List.length_zip
def wD:=@List.length_zipWith
def xF:=@List.lookup_cons
def al_List_lookup_cons_self:=@List.lookup_cons_self
def zK:=@List.map_append
def yW:=@List.map_congr_left
def zE:=@List.map_cons
def zB:=@List.map_map
def yQ:=@List.map_take
def yg:=@List.map_zip_eq_zipWith
def zS:=@List.mem_append
def zR:=@List.mem_append_left
def zp:=@List.mem_append_right
def zk:=@List.mem_cons
def zj:=@List.mem_cons_of_mem
def xo:=@List.mem_cons_self
def zt:=@List.mem_filter
def yJ:=@List.mem_iff_getElem
def zi:=@List.mem_map
def zQ:=@List.mem_of_getElem?
def yY:=@List.mem_range
def zF:=@List.mem_singleton
def wf:=@List.nil_append
def xG:=@List.nodup_append
def xu:=@List.nodup_cons
def xM:=@List.nodup_iff_pairwise_ne
def xg:=@List.not_mem_nil
def wb:=@List.pairwise_cons
def xY:=@List.pairwise_iff_getElem
def xn:=@List.pairwise_map
def wR:=@List.replicate_succ
def zq:=@List.size_toArray
def wT:=@List.sublist_append_right
def xq:=@List.take_add_one
def wj:=@List.take_length
def yl:=@List.take_of_length_le
def yO:=@List.take_sublist
def xD:=@List.zipWith_cons_cons
def wa:=@List.zip_cons_cons
def yI:=@Nat.le_of_lt
def ym:=@Nat.le_of_not_lt
def zn:=@Nat.le_refl
def xv:=@Nat.le_succ
def zD:=@Nat.le_trans
def xj:=@Nat.lt_irrefl
def zT:=@Nat.lt_of_lt_of_le
def xX:=@Nat.lt_succ_of_lt
def yH:=@Nat.lt_trans
def yG:=@Nat.mod_lt
def xS:=@Nat.ne_of_gt
def zx:=@Nat.ne_of_lt
def wo:=@Nat.zero_le
def zP:=@Option.some.inj
def zN:=@decide_eq_false
def xm:=@decide_eq_true
def wF:=@decide_eq_true_eq
def zb:=@wpAny_bind
def xO:=@wpAny_callSpecial?_slot
def wz:=@wpAny_call_entry
def yF:=@wpAny_comprehension_free
def xW:=@wpAny_dictEntries
def wy:=@wpAny_field
def xp:=@wpAny_holding
def yx:=@wpAny_letGo
def wM:=@wpAny_mono
def xz:=@wpAny_newObj_type
def yE:=@wpAny_passesOwn
def zf:=@wpAny_pure
def wQ:=@wpAny_pyIter_list
def yD:=@wpAny_rule
def wu:=@wpAny_seqItems
def yo:=@wpAny_setField_rec
def wE:=@wpAny_truthy_bool
def wY:=@wpAny_typeNameOfWhole_keyiter
def yC:=@wpAny_typeNameOf_keyiter
def xE:=@wpS_bind
def wH:=@wpS_pure
end
def w5 {p:Prop}(h:p:=by lia):p:=h
def w6 {p:Prop}(h:p:=by decide):p:=h
def x3 {p:Prop}(h:p:=by decide +kernel):p:=h
local macro_rules|`(tactic|exists $t)=>`(tactic|with_unfolding_all exact $t)
namespace L2
abbrev Key:=Sum Int Str
def ze8:Key->Value->Bool
 |.inl k,v=>Value.isInt k v
 |.inr x,v=>Value.isStrOf x v
def xU4(w:World):Key->Int
 |.inl k=>hashInt k
 |.inr x=>hashStr w x
theorem vD:∀{k:Key}{v:Value},ze8 k v=true->(∃i t,k=Sum.inl i/\v=Value.int i t)\/(∃x t,k=Sum.inr x/\v=Value.str x t)
 |.inl i,v,h=>by
  obtain⟨t,e⟩:=Value.isInt_shape (k:=i) (v:=v) h;exact .inl ⟨i,t,rfl,e⟩
 |.inr x,v,h=>by
  obtain⟨t,e⟩:=Value.isStrOf_shape (x:=x) (v:=v) h;exact .inr ⟨x,t,rfl,e⟩
def zq2(i:Int)(t:Tok):ze8 (.inl i) (.int i t)=true:=by simp[ze8,Value.isInt]
def zq1(x:Str)(t:Tok):ze8 (.inr x) (.str x t)=true:=by simp[ze8,Value.isStrOf]
def xi9(a b:Int):decide ((Sum.inl a:Key)=Sum.inl b)=(a == b):=by
 by_cases e:a=b
 ·subst e;simp
 ·have h:¬ (Sum.inl a:Key)=Sum.inl b:=λq=>e (Sum.inl.inj q);rw[zN h];exact(beq_eq_false_iff_ne.mpr e).symm
def xi6(a b:Str):decide ((Sum.inr a:Key)=Sum.inr b)=decide (a=b):=by
 by_cases e:a=b
 ·subst e;simp
 ·have h:¬ (Sum.inr a:Key)=Sum.inr b:=λq=>e (Sum.inr.inj q);rw[zN h,zN e]
def xi8(a:Int)(b:Str):decide ((Sum.inl a:Key)=Sum.inr b)=false:=zN (λq=>nomatch q)
def xi7(a:Str)(b:Int):decide ((Sum.inr a:Key)=Sum.inl b)=false:=zN (λq=>nomatch q)
def wP(prog:Program)(w:World):PySem.KeyKind prog w Key where
 is:=ze8
 hash:=xU4 w
 inj:=λv a b ha O=>by
  rcases vD ha with ⟨i,t,rfl,rfl⟩ |⟨x,t,rfl,rfl⟩
  ·rcases vD O with ⟨j, u, rfl, e⟩ | ⟨y, u, rfl, e⟩
   ·injection e with J _;rw[J]
   ·exact nomatch e
  ·rcases vD O with ⟨j, u, rfl, e⟩ | ⟨y, u, rfl, e⟩
   ·exact nomatch e
   ·injection e with J _;rw[J]
 byValue:=λk v h=>by
  rcases vD h with ⟨i,t,rfl,rfl⟩ |⟨x,t,rfl,rfl⟩<;>rfl
 pyHash:=λL h=>by
  rcases vD L with ⟨i,t,rfl,rfl⟩ |⟨x,t,rfl,rfl⟩
  ·exact wpAny_pyHash_int h
  ·exact wpAny_pyHash_str h
 eqBool:=λhu L h=>by
  rcases vD hu with ⟨i,t,rfl,rfl⟩ |⟨x,t,rfl,rfl⟩
  ·rcases vD L with ⟨j, u, rfl, rfl⟩ | ⟨y, u, rfl, rfl⟩
   ·rw[xi9] at h;exact wpAny_eqBool_int h
   ·rw[xi8] at h;exact SeqAt.EqAt.int_str i t y u _ _ _ _ h
  ·rcases vD L with ⟨j, u, rfl, rfl⟩ | ⟨y, u, rfl, rfl⟩
   ·rw[xi7] at h;exact SeqAt.EqAt.str_int x t j u _ _ _ _ h
   ·rw[xi6] at h;exact wpAny_eqBool_str h
 «strs»:=λk x t v h=>by
  rcases vD h with ⟨i,u,rfl,e⟩ |⟨y,u,rfl,e⟩
  ·exact nomatch e
  ·injection e with J _;subst J
   cases v<;>rfl
def JI(prog:Program)(w:World)(i:Int)(t:Tok):(wP prog w).is (.inl i) (.int i t)=true:=zq2 i t
def JH(prog:Program)(w:World)(x:Str)(t:Tok):(wP prog w).is (.inr x) (.str x t)=true:=zq1 x t
inductive V where
 |non |bl (b:Bool) |int (i:Int) |str (x:Str) |byt (b:Array UInt8) |flt (b:UInt64) |ref (a:Addr) |ty (n:String)
 deriving DecidableEq
def RelV:V->Value->Prop
 |.non,u=>u=Value.none
 |.bl b,u=>u=Value.bool b
 |.int i,u=>∃t,u=Value.int i t
 |.str x,u=>∃t,u=Value.str x t
 |.byt b,u=>∃t,u=Value.bytes b t
 |.flt b,u=>∃t,u=Value.float b t
 |.ref a,u=>u=Value.ref a
 |.ty n,u=>u=Value.type n
abbrev Vals:List V->List Value->Prop:=Paired RelV
def Vals.length{xs:List V}{us:QqW}(r:Vals xs us):xs.length=us.length:=Paired.length r
theorem Vals.get:∀{xs:List V}{us:QqW}{i:Nat}{x:V},Vals xs us->xs[i]?=some x->∃u,us[i]?=some u/\RelV x u
 |_,_,_,_,.nil,e=>by simp at e
 |_,_,0,_,.cons r _,e=>by simp at e;subst e;exact⟨_,rfl,r⟩
 |_,_,i+1,x,.cons _ t,e=>by
  obtain⟨u,h1,J⟩:=Vals.get (i:=i) (x:=x) t (by simpa using e)
  exact⟨u,by simpa using h1,J⟩
theorem Vals.set{x:V}{u:Value}(r:RelV x u):∀{xs:List V}{us:QqW} (i:Nat),Vals xs us->Vals (xs.set i x) (us.set i u)
 |_,_,_,.nil=>.nil
 |_,_,0,.cons _ t=>.cons r t
 |_,_,i+1,.cons q t=>.cons q (Vals.set r i t)
theorem Vals.append:∀{xs ys:List V}{us ws:QqW},Vals xs us->Vals ys ws->Vals (xs++ys) (us++ws)
 |_,_,_,_,.nil,s=>s
 |_,_,_,_,.cons r t,s=>.cons r (Vals.append t s)
theorem Vals.take:∀{xs:List V}{us:QqW} (n:Nat),Vals xs us->Vals (xs.take n) (us.take n)
 |_,_,0,_=>.nil
 |_,_,_+1,.nil=>.nil
 |_,_,n+1,.cons r t=>.cons r (Vals.take n t)
theorem Vals.drop:∀{xs:List V}{us:QqW} (n:Nat),Vals xs us->Vals (xs.drop n) (us.drop n)
 |_,_,0,r=>r
 |_,_,_+1,.nil=>.nil
 |_,_,n+1,.cons _ t=>Vals.drop n t
def RelO:Option V->Option Value->Prop
 |some v,some u=>RelV v u
 |none,none=>True
 |_,_=>False
def KV{κ:Type}:List (κ × V)->List (κ × Value)->Prop:=Paired fun(p:κ × V) (q:κ × Value)=>p.1=q.1/\RelV p.2 q.2
def kV:Key->V
 |.inl i=>.int i
 |.inr x=>.str x
inductive HO where
 /-- a list -/
 |lst (xs:List V)
 /-- a tuple (never changes) -/
 |tup (xs:List V)
 /-- a dict whose keys are ints and texts; one whose keys are tuples of ints and texts (the empty one is both) -/
 |dK (kvs:List (Key × V)) |dT (kvs:List (List Key × V))
 /-- a set of ints: its members, its size -/
 |set (S:Int->Bool) (n:Nat)
 /-- an instance of the class at C, its dict at dx, its attributes -/
 |ins (C dx:Addr) (fs:List (Str × V))
 /-- the dict of the instance at x -/
 |own (x:Addr)
 /-- the dict of an exception -/
 |xd (fs:List (Str × V))
 /-- a bound method, f of x -/
 |met (f x:Addr)
 /-- a range object lo, lo + 1, .. below hi -/
 |rng (lo hi:Int)
 /-- a thing that is known to the object (the script; a dict while a loop walks it): read, never written while it is so -/
 |frz (o:Obj) (u:HO)
 /-- a code object's table -/
 |tbl (ps:Array Value)
 /-- a code object's table: the code objects in it are known and stay -/
 |cot (q:Str)
 /-- any other thing, by what is true of its one object (a def of one's own: SetO a S n := HO.ext λh => ..) -/
 |ext (φ:Heap->Prop)
abbrev Hp:=Addr->Option HO
def upd(H:Hp)(a:Addr)(o:HO):Hp:=λb=>if b=a then some o else H b
def wX{H:Hp}{a:Addr}{o:HO}:upd H a o a=some o:=by unfold upd;rw[if_pos rfl]
def xZ{H:Hp}{a b:Addr}{o:HO}(h:b≠a):upd H a o b=H b:=by unfold upd;rw[if_neg h]
def yc{H:Hp}{a b:Addr}{o:HO}(h:H a=some o)(h':H b=none):a≠b:=by
 intro e;subst e;rw[h] at h';cases h'
def xo1(J:Obj)(q:Str):Prop:=∃vs t,J.data=.fields vs/\vs[1]?=some (.str q t)
inductive TabG(φ:QqA):List Value->Prop where
 |nil:TabG φ []
 |cons {i j:Int}{t u:Tok}{c:Addr}{r:QqW} (h:φ c) (g:TabG φ r):TabG φ (.int i t::.int j u::.ref c::r)
def TabG.imp{φ ψ:QqA}(f:∀c,φ c->ψ c){l:QqW}(g:TabG φ l):TabG ψ l:=by
 induction g with
 |nil=>exact .nil
 |cons h _ J=>exact .cons (f _ h) J
section
variable (P:Program) (w:World)
def ObjOk(H:Hp)(h:Heap)(a:Addr):HO->Prop
 |.lst xs=>xs.length<=sizeLine/\∃(its:QqW) (n:Nat),Vals xs its/\h.get? a=some { cls:=.type "list",data:=.seq its.toArray n }
 |.tup xs=>xs.length<=sizeLine/\∃its:List Value,Vals xs its/\IsTup h a its.toArray
 |.dK J=>J.length<=sizeLine/\(a == sysModules)=false/\∃vs,KV J vs/\h.DictOf (wP P w) a vs
 | .dT J => J.length <= sizeLine /\ (a == sysModules) = false /\ ∃ xs : List (List Key × Addr × Value),
   Paired (fun(p:List Key × V) (q:List Key × Addr × Value)=>p.1=q.1/\H q.2.1=some (.tup (p.1.map kV))/\RelV p.2 q.2.2) J xs /\
   ∃o es ep,h.get? a=some o/\o.ExactDict/\o.data=.dict es ep/\es.toList=xs.map (entryOfKey (tupleKind (wP P w)))/\(xs.map (·.1)).Nodup
 |.set S n=>h.SetOf (intKind P w) a S n
 | .ins C O fs => H O = some (.own a) /\ fs.length <= 1000 /\ O ≠ a /\ h.get? a = some (W.instObj C O) /\
   ∃L,h.Ns1 O L/\(∀f,RelO (fs.lookup f) (L f))/\PySem.Within L (fs.map (·.1))
 |.own _=>∃o,h.get? a=some o
 |.xd fs=>∃L,h.Ns1 a L/\∀f,RelO (fs.lookup f) (L f)
 |.rng lo hi=>∃t u v,h.get? a=some { cls:=.type "range",data:=.fields #[.int lo t,.int hi u,.int 1 v] }
 |.frz o u=>h.get? a=some o/\ObjOk H h a u
 |.tbl ps=>h.get? a=some { cls:=.none,data:=.fields ps }
 |.cot q=>∃ps:Array Value,h.get? a=some { cls:=.none,data:=.fields ps }/\TabG (λc=>∃Y,H c=some (.frz Y (.own 0))/\xo1 Y q) ps.toList
 |.met f x=>h.get? a=some (W.methodObj (.ref f) (.ref x))
 |.ext φ=>φ h/\(∃o,h.get? a=some o)/\∀h1 h2:Heap,φ h1->(∀o,h1.get? a=some o->h2.get? a=some o)->φ h2
def HOk(H:Hp)(h:Heap):Prop:=∀a o,H a=some o->ObjOk P w H h a o
end
section
variable {P:Program}{w:World}{H H':Hp}{h h':Heap}{a:Addr}{o:HO}
def ObjOk.lt(x:ObjOk P w H h a o):a<h.objs.size:=by
 cases o with
 |lst xs=>obtain⟨_,_,_,_,e⟩:=x;exact zo e
 |tup xs=>obtain⟨_,_,_,p⟩:=x;exact p.lt
 |dK J=>obtain⟨_,_,_,_,o,_,_,e,_⟩:=x;exact zo e
 |dT J=>obtain⟨_,_,_,_,o,_,_,e,_⟩:=x;exact zo e
 |set S n=>obtain⟨o,_,_,_,e,_⟩:=x;exact zo e
 |ins C O fs=>obtain⟨_,_,_,e,_⟩:=x;exact zo e
 |own y=>obtain⟨_,e⟩:=x;exact zo e
 |xd fs=>obtain⟨_,⟨_,_,_,e,_⟩,_⟩:=x;exact zo e
 |rng lo hi=>obtain⟨_,_,_,e⟩:=x;exact zo e
 |frz L u=>obtain⟨e,_⟩:=x;exact zo e
 |tbl ps=>exact zo (show h.get? a=some _ from x)
 |cot q=>obtain⟨ps,e,_⟩:=x;exact zo e
 |met f y=>exact zo (show h.get? a=some _ from x)
 |ext φ=>obtain⟨_,⟨_,e⟩,_⟩:=x;exact zo e
theorem Paired.mapP{α β:Type}{F G:α->β->Prop}:∀{J:List α}{l₂:List β},Paired F J l₂->(∀a b,F a b->G a b)->Paired G J l₂
 |_,_,.nil,_=>.nil
 |_,_,.cons r t,f=>.cons (f _ _ r) (Paired.mapP t f)
def ObjOk.stay(x:ObjOk P w H h a o)(k:∀b u,(b=a\/H b=some (.own a))->h.get? b=some u->h'.get? b=some u)
  (ho:∀b,H b=some (.own a)->H' b=some (.own a)) (ht:∀b xs,H b=some (.tup xs)->H' b=some (.tup xs)) (hz:∀b o u,H b=some (.frz o u)->H' b=some (.frz o u)):ObjOk P w H' h' a o:=by
 induction o with
 |lst xs=>obtain⟨z,its,n,r,e⟩:=x;exact⟨z,its,n,r,k _ _ (.inl rfl) e⟩
 |tup xs=>obtain⟨z,its,r,J,e,c⟩:=x;exact⟨z,its,r,J,k _ _ (.inl rfl) e,c⟩
 |dK Y=>obtain⟨z,y,vs,r,J,es,ep,e,c⟩:=x;exact⟨z,y,vs,r,J,es,ep,k _ _ (.inl rfl) e,c⟩
 |dT Y=>
  obtain⟨z,y,xs,r,J,es,ep,e,c⟩:=x;exact⟨z,y,xs,Paired.mapP r λp q z=>⟨z.1,ht _ _ z.2.1,z.2.2⟩,J,es,ep,k _ _ (.inl rfl) e,c⟩
 |set S n=>obtain⟨J,es,ep,t,e,c⟩:=x;exact⟨J,es,ep,t,k _ _ (.inl rfl) e,c⟩
 |ins C dx fs=>
  obtain⟨d,z,ne,e,O,⟨L,es,ep,e2,c⟩,r⟩:=x;exact⟨ho _ d,z,ne,k _ _ (.inl rfl) e,O,⟨L,es,ep,k _ _ (.inr d) e2,c⟩,r⟩
 |own y=>obtain⟨J,e⟩:=x;exact⟨J,k _ _ (.inl rfl) e⟩
 |xd fs=>obtain⟨O,⟨L,es,ep,e,c⟩,r⟩:=x;exact⟨O,⟨L,es,ep,k _ _ (.inl rfl) e,c⟩,r⟩
 |rng lo hi=>obtain⟨t,u,v,e⟩:=x;exact⟨t,u,v,k _ _ (.inl rfl) e⟩
 |frz J u ih=>obtain⟨e,q⟩:=x;exact⟨k _ _ (.inl rfl) e,ih q⟩
 |cot q=>obtain⟨ps,e,g⟩:=x;exact⟨ps,k _ _ (.inl rfl) e,g.imp λc ⟨oc,z,i⟩=>⟨oc,hz _ _ _ z,i⟩⟩
 |tbl ps=>
  have e:h.get? a=some { cls:=.none,data:=.fields ps }:=x;show h'.get? a=some { cls:=.none,data:=.fields ps };exact k a _ (.inl rfl) e
 |met f y=>
  have e:h.get? a=some (W.methodObj (.ref f) (.ref y)):=x;show h'.get? a=some (W.methodObj (.ref f) (.ref y));exact k a _ (.inl rfl) e
 |ext φ=>obtain⟨p,⟨o,e⟩,st⟩:=x;exact⟨st _ _ p λo q=>k _ _ (.inl rfl) q,⟨o,k _ _ (.inl rfl) e⟩,st⟩
def HOk.lt(x:HOk P w H h)(e:H a=some o):a<h.objs.size:=(x a o e).lt
def HOk.fresh(x:HOk P w H h)(e:h.objs.size<=a):H a=none:=by
 cases q:H a with
 |none=>rfl
 |some u=>exact absurd (zT (x.lt q) e) (xj _)
def HOk.kept(x:HOk P w H h)(k:∀b u,h.get? b=some u->h'.get? b=some u):HOk P w H h':=λa o e=>
 (x a o e).stay (λb u _ q=>k b u q) (λ_ q=>q) (λ_ _ q=>q) λ_ _ _ q=>q
def HOk.laid(x:HOk P w H h)(k:∀b u,h.get? b=some u->h'.get? b=some u)(W:h.objs.size<=a)(J:ObjOk P w (upd H a o) h' a o):HOk P w (upd H a o) h':=λb u e=>by
 have L:=x.fresh W
 by_cases O:b=a
 ·subst O;rw[wX] at e;cases e;exact J
 ·rw [xZ O] at e
  exact(x b u e).stay (λc v _ q=>k c v q) (λc q=>by rw[xZ (yc q L)];exact q) (λc xs q=>by rw[xZ (yc q L)];exact q) λc o u q=>by rw[xZ (yc q L)];exact q
end
def Rd(H:Hp)(a:Addr)(u:HO):Prop:=H a=some u\/∃o,H a=some (.frz o u)
def Rd.ok{P:Program}{w:World}{H:Hp}{h:Heap}{a:Addr}{u:HO}(r:Rd H a u)(x:HOk P w H h):ObjOk P w H h a u:=by
 rcases r with r |⟨o,r⟩
 ·exact x a u r
 ·obtain⟨_,q⟩:=x a _ r;exact q
def Mut:Option HO->Prop
 |some (.lst _)=>True
 |some (.dK _)=>True
 |some (.dT _)=>True
 |some (.set _ _)=>True
 |some (.ins _ _ _)=>True
 |some (.ext _)=>True
 |_=>False
section
variable {P:Program}{w:World}{H:Hp}{h h':Heap}{x e:Addr}{o':HO}
def HOk.write(ok:HOk P w H h)(O:Mut (H x))(he:e=x\/H e=some (.own x))(k:∀b u,b≠e->h.get? b=some u->h'.get? b=some u)(ac:∃u,h'.get? e=some u)
  (aa:ObjOk P w (upd H x o') h' x o'):HOk P w (upd H x o') h':=λb u q=>by
 have L:∀c y,H c=some (.own y)->c≠x:=λc y r z=>by subst z;rw[r] at O;exact O
 have W:∀c xs,H c=some (.tup xs)->c≠x:=λc xs r z=>by subst z;rw[r] at O;exact O
 by_cases hb:b=x
 ·subst hb;rw[wX] at q;cases q;exact aa
 ·rw [xZ hb] at q
  by_cases J:b=e
  ·have q' : H b = some (.own x) := by
    rcases he with z |z
    ·exact absurd (J.trans z) hb
    ·rw[J];exact z
   rw[q] at q';cases q';obtain⟨v,hv⟩:=ac
   exact⟨v,by rw[J];exact hv⟩
  ·refine (ok b u q).stay (λc v Y r => k c v ?_ r) (λc r => by rw [xZ (L c b r)]; exact r) (λc xs r => by rw [xZ (W c xs r)]; exact r) λc o u r => by rw [xZ (λz => by rw [<- z, r] at O; exact O)]; exact r
   rcases Y with rfl |Y
   ·exact J
   ·rintro rfl
    rcases he with z |z
    ·exact L c b Y z
    ·rw[Y] at z;cases z;exact hb rfl
end
structure Un(fs ex:List Addr)(H H':Hp)(h h':Heap):Prop where
 keep:∀b o,h.get? b=some o->H b=none->b ∉ fs->b ∉ ex->h'.get? b=some o
 slot:∀b o,h.get? b=some o->H b=none->b∈fs->b ∉ ex->∃sl,h'.get? b=some { o with slots:=sl }
 free:∀b o,h.get? b=some o->H b=none->b ∉ ex->H' b=none
 there:∀b o,h.get? b=some o->b ∉ ex->∃o',h'.get? b=some o'
 tups:∀b xs,H b=some (.tup xs)->H' b=some (.tup xs)
 frzs:∀b o u,H b=some (.frz o u)->H' b=some (.frz o u)
 tbls:∀b ps,H b=some (.tbl ps)->∃more,H' b=some (.tbl (ps++more))
section
variable {fs fs' ex ex':List Addr}{H H1 H2:Hp}{h h1 h2 h':Heap}{a x e:Addr}{o:HO}
def Un.any(u:Un fs ex H H1 h h1){b:Addr}{J:Obj}(q:h.get? b=some J)(n:H b=none)(hx:b ∉ ex):∃O,h1.get? b=some { J with slots:=O }:=by
 by_cases L:b∈fs
 ·exact u.slot b J q n L hx
 ·exact⟨J.slots,u.keep b J q n L hx⟩
def Un.kept(k:∀b u,h.get? b=some u->h'.get? b=some u):Un fs ex H H h h':=
 ⟨λb J q _ _ _=>k b J q,λb J q _ _ _=>⟨J.slots,k b J q⟩,λ_ _ _ n _=>n,λb J q _=>⟨J,k b J q⟩,λ_ _ q=>q,λ_ _ _ q=>q,λ_ ps q=>⟨#[],by rw[q];simp⟩⟩
def Un.refl:Un fs ex H H h h:=Un.kept λ_ _ q=>q
def Un.laid(k:∀b u,h.get? b=some u->h'.get? b=some u)(L:h.objs.size<=a)(J:H a=none):Un fs ex H (upd H a o) h h' where
 keep:=λb u q _ _ _=>k b u q
 slot:=λb u q _ _ _=>⟨u.slots,k b u q⟩
 free:=λb u q n _=>by rw[xZ (zx (zT (zo q) L))];exact n
 there:=λb u q _=>⟨u,k b u q⟩
 tups:=λb xs q=>by rw[xZ (yc q J)];exact q
 frzs:=λb u xs q=>by rw[xZ (yc q J)];exact q
 tbls:=λb ps q=>⟨#[],by rw[xZ (yc q J),q];simp⟩
def Un.write(L:Mut (H x))(he:e=x\/H e=some (.own x))(k:∀b u,b≠e->h.get? b=some u->h'.get? b=some u)(W:∃u,h'.get? e=some u):Un fs ex H (upd H x o) h h':=by
 have hx:∀b,H b=none->b≠x:=λb n z=>by subst z;rw[n] at L;exact L
 have Y:∀b,H b=none->b≠e:=λb n z=>by
  subst z
  rcases he with r |r
  ·exact hx b n r
  ·rw[n] at r;cases r
 have O:∀b u,H b=some u->¬ Mut (some u)->b≠x:=λb u q nm z=>by subst z;rw[q] at L;exact nm L
 refine⟨λb u q n _ _=>k b u (Y b n) q,λb u q n _ _=>⟨u.slots,k b u (Y b n) q⟩,λb u q n _=>by rw[xZ (hx b n)];exact n,λb u q _=>?_,
  λb xs q=>by rw[xZ (O b _ q λz=>z)];exact q,λb u xs q=>by rw[xZ (O b _ q λz=>z)];exact q,λb ps q=>⟨#[],by rw[xZ (O b _ q λz=>z),q];simp⟩⟩
 by_cases J:b=e
 ·subst J;exact W
 ·exact⟨u,k b u J q⟩
end
def trk(h:Heap)(H:Hp):List Addr:=(List.range h.objs.size).filter λa=>(H a).isSome
def zw9(h:Heap)(H:Hp):Heap:=W.hideAll h (trk h H)
def zr2(h:Heap)(H:Hp):(zw9 h H).objs.size=h.objs.size:=W.hideAll_size _ _
def zE9{h:Heap}{H:Hp}{b:Addr}{o:Obj}(e:h.get? b=some o)(n:H b=none):(zw9 h H).get? b=some o:=
 PySem.W.hideAll_get _ e λJ=>by
  have q:(H b).isSome=true:=(zt.mp J).2;rw[n] at q;simp at q
def zS3{h:Heap}{H:Hp}{b:Addr}{o:Obj}(e:(zw9 h H).get? b=some o):h.get? b=some o/\H b=none:=by
 have e':h.get? b=some o:=W.of_hideAll (trk h H) e;refine⟨e',?_⟩
 cases q:H b with
 |none=>rfl
 |some x=>
  have J:b∈trk h H:=zt.mpr ⟨yY.mpr (zo e'),by simp[q]⟩
  have z:(zw9 h H).get? b=none:=W.hideAll_none (trk h H) J;rw[z] at e;cases e
def zW8(g h:Heap)(L:Addr):List (Addr × Obj):=(List.range h.objs.size).filterMap λa=>if a=L\/(g.get? a).isSome=true then none else(h.get? a).map λo=>(a,o)
def rest(g h:Heap)(L d:Addr):List (Addr × Obj):=(zW8 g h L).filter λp=>decide (p.1≠d)
structure Mod(K:W.Frag)(mg:QqM)(base:Heap):Prop where
 kin:K.In base
 glob:base.Ns mainGlobals mg
 blt:∃mb,base.Ns builtinsNs mb/\∀x:Str,x ≠ "__name__" -> mb x=bootBuiltins x
 nolimit:base.NoLimit
structure Cx where
 prog:Program
 w:World
 K:W.Frag
 mg:Str->Option Value
 base:Heap
 A:Around
 N:List Str
 s₀:Shared
 H₀:Hp
 env:Env
 outer:List Env
 stack:List Env
 ex:List Addr
 fn:Str->Bool
 calm:Bool
 pn:List (Addr × Obj)
 xe:Value->Shared->Prop
def frs(l:List Env):List Addr:=l.filterMap (·.frame)
abbrev Cx.fs(X:Cx):List Addr:=frs X.outer
def Vis(J:Scope)(x:Str):Prop:=J.names.lookup x=some .local\/J.names.lookup x=some .cell\/J.names.lookup x=some .free
def Loc(J:Scope)(x:Str):Prop:=J.names.lookup x=some .local\/J.names.lookup x=some .cell
def xW7(env:Env)(h:Heap)(m:QqM)(x:Str)(u:Value):Prop:=
 (env.kindOf x=some .local/\m x=some u)\/((env.kindOf x=some .cell\/env.kindOf x=some .free)/\∃c,env.cells.lookup x=some c/\h.IsCell c (some u))
structure Cx.Ok(X:Cx):Prop where
 mod:Mod X.K X.mg X.base
 kind:X.env.scope.kind=.function
 glob:X.env.globals=mainGlobals
 blt:X.env.builtins=builtinsNs
 above:X.s₀.heap.objs.size<=X.env.locals
 inj:∀x y c,X.env.cells.lookup x=some c->X.env.cells.lookup y=some c->x=y
 has:∀x,(X.env.kindOf x=some .cell\/X.env.kindOf x=some .free)->∃c,X.env.cells.lookup x=some c
 cab:∀x c,X.fn x=true->X.env.cells.lookup x=some c->X.s₀.heap.objs.size<=c
 hd:X.calm=true->X.A.handled=none
 frames:X.A.frames=some X.stack
 stk:X.stack=X.outer\/(X.stack=X.env::X.outer/\X.env.frame=some X.env.locals)
 exf:∀b∈X.ex,b≠X.env.locals/\∀x c,X.env.cells.lookup x=some c->c≠b
 bs:∀b o,X.base.get? b=some o->X.s₀.heap.get? b=some o/\X.H₀ b=none
 bsz:X.base.objs.size<=X.s₀.heap.objs.size
 noex:∀b o,X.base.get? b=some o->b ∉ X.ex
 exfs:∀b∈X.ex,b ∉ X.fs
 funs:X.s₀.heap.FunFrames X.base X.outer
 frf:∀b∈X.fs,X.H₀ b=none
structure Inv(X:Cx)(pins:QqL)(σ:List (Option V))(H:Hp)(s:Shared):Prop where
 ok:X.Ok
 os:s.os=X.s₀.os
 bare:AllBare s.gens
 base:Un X.fs X.ex X.H₀ H X.s₀.heap s.heap
 loc:∃m,s.heap.Ns X.env.locals m/\∀(i:Nat) (x:Str) (v:V),X.N[i]?=some x->σ[i]?=some (some v)->Vis X.env.scope x->∃u,RelV v u/\xW7 X.env s.heap m x u
 cell:∀x c,X.env.cells.lookup x=some c->∃v,s.heap.IsCell c v
 free:H X.env.locals=none
 freeC:∀x c,X.env.cells.lookup x=some c->H c=none
 pin:∀p∈X.pn++pins,s.heap.get? p.1=some p.2/\H p.1=none/\p.1≠X.env.locals/\p.1 ∉ X.fs/\∀v,p.2.data≠.cell v
 hok:HOk X.prog X.w H s.heap
 len:σ.length=X.N.length
section
variable {X:Cx}{pins:QqL}{σ:List (Option V)}{H H':Hp}{s:Shared}{h':Heap}
def Cx.Ok.nofr(ok:X.Ok){b:Addr}{o:Obj}(e:X.base.get? b=some o):b ∉ X.fs:=λJ=>by
 have:=(ok.funs.mem J).1;rw[e] at this;cases this
def Inv.bs(I:Inv X pins σ H s):∀b o,X.base.get? b=some o->s.heap.get? b=some o/\H b=none:=λb o e=>
 ⟨I.base.keep b o (I.ok.bs b o e).1 (I.ok.bs b o e).2 (I.ok.nofr e) (I.ok.noex b o e),I.base.free b o (I.ok.bs b o e).1 (I.ok.bs b o e).2 (I.ok.noex b o e)⟩
def Inv.bk(I:Inv X pins σ H s):∀b o,X.base.get? b=some o->s.heap.get? b=some o:=λb o e=>(I.bs b o e).1
def Inv.mod(I:Inv X pins σ H s):Mod X.K X.mg X.base:=I.ok.mod
def Inv.kIn(I:Inv X pins σ H s):X.K.In s.heap:=I.ok.mod.kin.keeps I.bk
def Inv.nolimit(I:Inv X pins σ H s):s.heap.NoLimit:=I.ok.mod.nolimit.keeps I.bk
def Inv.lt(I:Inv X pins σ H s):X.env.locals<s.heap.objs.size:=let ⟨_,J,_⟩:=I.loc;J.lt
def Inv.sz(I:Inv X pins σ H s):X.s₀.heap.objs.size<=s.heap.objs.size:=zD I.ok.above (yI I.lt)
def Inv.nofs(I:Inv X pins σ H s){a:Addr}(h:s.heap.objs.size<=a):a ∉ X.fs:=λL=>by
 obtain⟨_,o,J,_⟩:=I.ok.funs.mem L;exact absurd (zT (zo J) (zD I.sz h)) (xj _)
def Inv.cne(I:Inv X pins σ H s):∀x c,X.env.cells.lookup x=some c->c≠X.env.locals:=λx c e z=>by
 obtain⟨v,o,J,hd⟩:=I.cell x c e;obtain⟨m,⟨o',es,ep,ho',hd',_⟩,_⟩:=I.loc;rw[z,ho'] at J;cases J;rw[hd'] at hd;cases hd
def Inv.funs(I:Inv X pins σ H s):s.heap.FunFrames X.base X.outer:=by
 have all:∀(l:List Env),(∀b∈frs l,b∈X.fs)->X.s₀.heap.FunFrames X.base l->s.heap.FunFrames X.base l:=by
  intro l
  induction l with
  |nil=>intro _ _;trivial
  |cons env r Y=>
   intro hs hl;obtain⟨hk,⟨L,o,J,hn,ho,hd⟩,hr⟩:=hl
   have W:L∈X.fs:=hs L (by unfold frs;rw[yX,J];exact xo)
   obtain⟨sl,e⟩:=I.base.slot L o ho (I.ok.frf L W) W λz=>I.ok.exfs L z W
   exact⟨hk,⟨L,_,J,hn,e,hd⟩,Y (λb O=>hs b (by unfold frs;rw[yX,J];exact zj _ O)) hr⟩
 exact all X.outer (λ_ O=>O) I.ok.funs
def Inv.stack(I:Inv X pins σ H s):s.heap.FunFrames X.base X.stack:=by
 rcases I.ok.stk with e |⟨e,L⟩
 ·rw[e];exact I.funs
 ·rw [e];obtain⟨m,J,_⟩:=I.loc
  refine .cons (by rw[I.ok.kind];decide) L J ?_ I.funs
  exact Heap.get?_none_of_le (zD I.ok.bsz I.ok.above)
def Inv.stkSub(I:Inv X pins σ H s):∀b∈frs X.stack,b∈X.env.locals::X.fs:=λb J=>by
 rcases I.ok.stk with e |⟨e,L⟩
 ·rw[e] at J;exact zj _ J
 ·rw[e] at J;unfold frs at J;rw[yX,L] at J;exact J
def Inv.stkFree(I:Inv X pins σ H s):∀b∈frs X.stack,H b=none:=λb J=>by
 rcases zk.mp (I.stkSub b J) with e |J
 ·rw[e];exact I.free
 ·obtain⟨_,o,L,_⟩:=I.ok.funs.mem J;exact I.base.free b o L (I.ok.frf b J) λz=>I.ok.exfs b z J
def Inv.step{g':Array GenState}{t':Nat}{d':Drawn}{ch:List Addr}(I:Inv X pins σ H s)
  (L:∀b∈ch,(b∈X.ex\/X.s₀.heap.objs.size<=b)/\b≠X.env.locals/\(∀x c,X.env.cells.lookup x=some c->c≠b)/\∀p∈X.pn++pins,p.1≠b)
  (keep:∀b o,b≠X.env.locals->b ∉ X.fs->b ∉ ch->s.heap.get? b=some o->H b=none->h'.get? b=some o)
  (slot:∀b o,b≠X.env.locals->b∈X.fs->b ∉ ch->s.heap.get? b=some o->H b=none->∃sl,h'.get? b=some { o with slots:=sl }) (free:∀b o,b ∉ ch->s.heap.get? b=some o->H b=none->H' b=none)
  (there:∀b o,b ∉ ch->s.heap.get? b=some o->∃o',h'.get? b=some o')
  (tups:∀b xs,H b=some (.tup xs)->H' b=some (.tup xs)) (frzs:∀b o u,H b=some (.frz o u)->H' b=some (.frz o u)) (tbls:∀b ps,H b=some (.tbl ps)->∃more,H' b=some (.tbl (ps++more)))
  (ns:∀m,s.heap.Ns X.env.locals m->h'.Ns X.env.locals m) (hok:HOk X.prog X.w H' h') (hg:AllBare g') :
  Inv X pins σ H' { s with heap:=h',gens:=g',drawn:=d',toks:=t' }:=by
 have aa:∀b o,X.s₀.heap.get? b=some o->b≠X.env.locals:=λb o e=>zx (zT (zo e) I.ok.above)
 have W:∀b o,X.s₀.heap.get? b=some o->b ∉ X.ex->b ∉ ch:=λb o e hx hb=>by
  rcases(L b hb).1 with z |z
  ·exact hx z
  ·exact absurd (zT (zo e) z) (xj _)
 have O:∀x c,X.env.cells.lookup x=some c->∀v,s.heap.IsCell c v->h'.IsCell c v:=λx c e v ⟨o,ho,hd⟩=>by
  have J:c ∉ ch:=λz=>(L c z).2.2.1 x c e rfl
  by_cases hc:c∈X.fs
  ·obtain⟨sl,q⟩:=slot c o (I.cne x c e) hc J ho (I.freeC x c e);exact⟨_,q,hd⟩
  ·exact⟨o,keep c o (I.cne x c e) hc J ho (I.freeC x c e),hd⟩
 refine⟨I.ok,I.os,hg,⟨λb o e n hb hx=>?_,λb o e n hb hx=>?_,λb o e n hx=>?_,λb o e hx=>?_,λb xs e=>tups b xs (I.base.tups b xs e),λb o xs e=>frzs b o xs (I.base.frzs b o xs e),λb ps e=>?_⟩,?_,λx c e=>?_,?_,λx c e=>?_,λp hp=>?_,hok,I.len⟩
 ·exact keep b o (aa b o e) hb (W b o e hx) (I.base.keep b o e n hb hx) (I.base.free b o e n hx)
 ·obtain⟨sl,Y⟩:=I.base.slot b o e n hb hx;obtain⟨sl',e2⟩:=slot b _ (aa b o e) hb (W b o e hx) Y (I.base.free b o e n hx);exact⟨sl',e2⟩
 ·obtain⟨o',Y⟩:=I.base.there b o e hx;exact free b o' (W b o e hx) Y (I.base.free b o e n hx)
 ·obtain⟨o',Y⟩:=I.base.there b o e hx;exact there b o' (W b o e hx) Y
 ·obtain ⟨m1, Y⟩ := I.base.tbls b ps e;obtain⟨m2,e2⟩:=tbls b _ Y
  exact⟨m1++m2,by rw[e2,Array.append_assoc]⟩
 ·obtain ⟨m, hn, hl⟩ := I.loc;refine⟨m,ns m hn,λi x v Y e2 e3=>?_⟩;obtain⟨u,r,l⟩:=hl i x v Y e2 e3;refine⟨u,r,?_⟩
  rcases l with l |⟨k,c,e,z⟩
  ·exact .inl l
  ·exact .inr ⟨k,c,e,O x c e _ z⟩
 ·obtain⟨v,z⟩:=I.cell x c e;exact⟨v,O x c e v z⟩
 ·obtain⟨m,⟨o,_,_,ho,_⟩,_⟩:=I.loc;exact free _ o (λz=>(L _ z).2.1 rfl) ho I.free
 ·obtain⟨v,o,ho,hd⟩:=I.cell x c e;exact free c o (λz=>(L c z).2.2.1 x c e rfl) ho (I.freeC x c e)
 ·obtain⟨e,n,ne,nf,d⟩:=I.pin p hp;have J:p.1 ∉ ch:=λz=>(L p.1 z).2.2.2 p hp rfl;exact⟨keep p.1 p.2 ne nf J e n,free p.1 p.2 J e n,ne,nf,d⟩
def Inv.un{t':Nat}(I:Inv X pins σ H s)(u:Un X.fs [] H H' s.heap h')(hok:HOk X.prog X.w H' h'):Inv X pins σ H' { s with heap:=h',toks:=t' }:=by
 obtain⟨m,⟨o,es,ep,L,r⟩,_⟩:=id I.loc
 obtain⟨Y,W⟩:=u.any L I.free (by simp)
 exact I.step (g':=s.gens) (d':=s.drawn) (ch:=[]) (λ_ z=>nomatch z) (λb o _ J _ e n=>u.keep b o e n J (by simp)) (λb o _ J _ e n=>u.slot b o e n J (by simp)) (λb o _ e n=>u.free b o e n (by simp)) (λb o _ e=>u.there b o e (by simp)) u.tups u.frzs u.tbls (λm' O=>by
  obtain⟨o',es',ep',ho',r'⟩:=O;rw[L] at ho';cases ho'
  exact⟨_,es',ep',W,r'⟩) hok I.bare
def Inv.call{g':Array GenState}{t':Nat}{d':Drawn}{ch:List Addr}(I:Inv X pins σ H s)(u:Un (frs X.stack) ch H H' s.heap h')(hok:HOk X.prog X.w H' h')(hg:AllBare g')
  (L:∀b∈ch,(b∈X.ex\/X.s₀.heap.objs.size<=b)/\b≠X.env.locals/\(∀x c,X.env.cells.lookup x=some c->c≠b)/\∀p∈X.pn++pins,p.1≠b) :
  Inv X pins σ H' { s with heap:=h',gens:=g',drawn:=d',toks:=t' }:=by
 obtain⟨m,⟨o,es,ep,W,r⟩,_⟩:=id I.loc;obtain⟨sl,O⟩:=u.any W I.free λz=>(L _ z).2.1 rfl
 exact I.step (ch:=ch) L (λb o O hb J e n=>u.keep b o e n (λz=>(zk.mp (I.stkSub b z)).elim O hb) J) (λb o _ _ J e n=>u.any e n J) (λb o J e n=>u.free b o e n J) (λb o J e=>u.there b o e J) u.tups u.frzs u.tbls (λm' Y=>by
  obtain⟨o',es',ep',ho',r'⟩:=Y;rw[W] at ho';cases ho'
  exact⟨_,es',ep',O,r'⟩) hok hg
def Inv.turned{t':Nat}{it:Addr}(I:Inv X pins σ H s)(k:∀b o,b≠it->s.heap.get? b=some o->h'.get? b=some o)(Y:H it=none)(O:it≠X.env.locals)
  (h1:it∈X.ex\/X.s₀.heap.objs.size<=it) (h2:∀x c,X.env.cells.lookup x=some c->c≠it) (h3:∀p∈X.pn++pins,p.1≠it):Inv X pins σ H { s with heap:=h',toks:=t' }:=by
 have L:∀b u,H b=some u->b≠it:=λb u e z=>by rw[z,Y] at e;cases e
 refine I.step (g':=s.gens) (d':=s.drawn) (ch:=[it]) (λb hb=>?_) (λb o _ _ J e _=>k b o (λz=>J (by simp[z])) e) (λb o _ _ J e _=>⟨o.slots,k b o (λz=>J (by simp[z])) e⟩) (λ_ _ _ _ n=>n)
  (λb o J e=>⟨o,k b o (λz=>J (by simp[z])) e⟩) (λ_ _ e=>e) (λ_ _ _ e=>e) (λb ps e=>⟨#[],by rw[e];simp⟩) (λm hm=>?_) (λb u e=>?_) I.bare
 ·have e : b = it := by simpa using hb
  subst e;exact⟨h1,O,h2,h3⟩
 ·obtain⟨o,es,ep,W,r⟩:=hm;exact⟨o,es,ep,k _ o (Ne.symm O) W,r⟩
 ·refine (I.hok b u e).stay (λc v J q => k c v ?_ q) (λ_ q => q) (λ_ _ q => q) λ_ _ _ q => q
  rcases J with z |z
  ·rw[z];exact L b u e
  ·exact L c _ z
def Inv.tok(I:Inv X pins σ H s)(t:Nat):Inv X pins σ H { s with toks:=t }:=I.un (h':=s.heap) (t':=t) Un.refl I.hok
def Inv.kept{t':Nat}(I:Inv X pins σ H s)(k:∀b u,s.heap.get? b=some u->h'.get? b=some u):Inv X pins σ H { s with heap:=h',toks:=t' }:=I.un (Un.kept k) (I.hok.kept k)
def Inv.laid{a:Addr}{o:HO}{t':Nat}(I:Inv X pins σ H s)(k:∀b u,s.heap.get? b=some u->h'.get? b=some u)(L:s.heap.objs.size<=a)(J:ObjOk X.prog X.w (upd H a o) h' a o) :
  Inv X pins σ (upd H a o) { s with heap:=h',toks:=t' }:=I.un (Un.laid k L (I.hok.fresh L)) (I.hok.laid k L J)
def Inv.write{x e:Addr}{o:HO}{t':Nat}(I:Inv X pins σ H s)(O:Mut (H x))(W:e=x\/H e=some (.own x))(k:∀b u,b≠e->s.heap.get? b=some u->h'.get? b=some u)(J:∃u,h'.get? e=some u)
  (L:ObjOk X.prog X.w (upd H x o) h' x o):Inv X pins σ (upd H x o) { s with heap:=h',toks:=t' }:=I.un (Un.write O W k J) (I.hok.write O W k J L)
def Inv.weak{σ':List (Option V)}(I:Inv X pins σ H s)(L:σ'.length=σ.length)(w:∀(i:Nat) v,σ'[i]?=some (some v)->σ[i]?=some (some v)):Inv X pins σ' H s:=
 ⟨I.ok,I.os,I.bare,I.base,let ⟨m,J,hl'⟩:=I.loc;⟨m,J,λi x v Y W O=>hl' i x v Y (w i v W) O⟩,I.cell,I.free,I.freeC,I.pin,I.hok,L.trans I.len⟩
def Inv.pins_of{pins':QqL}(I:Inv X pins σ H s)(h:∀p∈pins',s.heap.get? p.1=some p.2/\H p.1=none/\p.1≠X.env.locals/\p.1 ∉ X.fs/\∀v,p.2.data≠.cell v):Inv X pins' σ H s:=
 ⟨I.ok,I.os,I.bare,I.base,I.loc,I.cell,I.free,I.freeC,λp J=>(zS.mp J).elim (λz=>I.pin p (zR _ z)) (h p),I.hok,I.len⟩
def QL{N:List Str}(J:N.Nodup){i j:Nat}{x:Str}(a:N[i]?=some x)(b:N[j]?=some x):i=j:=by
 obtain⟨h1,O⟩:=zu.mp a;obtain⟨W,L⟩:=zu.mp b;exact(List.getElem_inj J).mp (O.trans L.symm)
def UG{M:Model}{A:Around}{E:QqV}{i:Nat}{x:Str}{v:V}{u:Value}{Q:QqU}(I:Inv X pins σ H s)(hN:X.N.Nodup)(hi:X.N[i]?=some x)(hx:Loc X.env.scope x)(r:RelV v u)
  (h:∀s',Inv X pins (σ.set i (some v)) H s'->(∃a,Heap.SameBut a s.heap s'.heap/\(a=X.env.locals\/X.env.cells.lookup x=some a))->Q () s') (hf:X.fn x=true\/X.env.scope.names.lookup x=some .local:=by first |exact .inl rfl |exact .inr rfl |assumption):wpAny M A (storeName X.env x u) Q E s:=by
 obtain⟨m,hn,hl⟩:=id I.loc
 have af:(X.env.scope.kind == .class||(X.env.scope.kind == .module&&X.env.locals != X.env.globals))=false:=by rw[I.ok.kind];rfl
 have ae:i<σ.length:=by rw[I.len];exact(zu.mp hi).1
 have cne:=I.cne
 have tracked:∀{a:Addr}{h':Heap},(∃o,s.heap.get? a=some o/\H a=none)->Heap.SameBut a s.heap h'->HOk X.prog X.w H h':=λ{a h'} ha hs b ob e=>by
  obtain⟨_,_,O⟩:=ha;refine(I.hok b ob e).stay (λc w' L q=>(hs.2 c ?_).trans q) (λ_ q=>q) (λ_ _ q=>q) λ_ _ _ q=>q;rintro rfl
  rcases L with rfl |L
  ·rw[O] at e;cases e
  ·rw[O] at L;cases L
 rcases hx with hk |hk
 ·refine wpAny_storeName_local hk hn (λh' hn' hs => ?_) af;obtain⟨oL,_,_,ah,_⟩:=id hn
  refine h _ ⟨I.ok,I.os,I.bare,⟨λb o e n hb hx=>?_,λb o e n hb hx=>?_,I.base.free,λb o e hx=>?_,I.base.tups,I.base.frzs,I.base.tbls⟩,⟨_,hn',λj y v' J W e3=>?_⟩,λy c e=>?_,I.free,I.freeC,λp hp=>?_,tracked ⟨oL,ah,I.free⟩ hs,by simpa using I.len⟩ ⟨_,hs,.inl rfl⟩
  ·exact(hs.2 b (zx (zT (zo e) I.ok.above))).trans (I.base.keep b o e n hb hx)
  ·obtain⟨sl,J⟩:=I.base.slot b o e n hb hx;exact⟨sl,(hs.2 b (zx (zT (zo e) I.ok.above))).trans J⟩
  ·obtain⟨o',J⟩:=I.base.there b o e hx;exact⟨o',(hs.2 b (zx (zT (zo e) I.ok.above))).trans J⟩
  ·by_cases Y : j = i
   ·subst Y;rw[hi] at J;cases J;rw[zW ae] at W;cases W
    exact⟨u,r,.inl ⟨hk,by simp⟩⟩
   ·rw [xb (Ne.symm Y)] at W;obtain⟨u',r',q⟩:=hl j y v' J W e3;refine⟨u',r',?_⟩
    rcases q with ⟨k,e⟩ |⟨k,c,e,z⟩
    ·refine .inl ⟨k,?_⟩;have:y≠x:=λe=>Y (QL hN J (e ▸ hi));simp[this,e]
    ·exact .inr ⟨k,c,e,z.sameBut hs (cne y c e)⟩
  ·obtain⟨w',z⟩:=I.cell y c e;exact⟨w',z.sameBut hs (cne y c e)⟩
  ·obtain⟨e,n,ne,nf,d⟩:=I.pin p hp;exact⟨(hs.2 p.1 ne).trans e,n,ne,nf,d⟩
 ·have aa : X.fn x = true := by
   rcases hf with z |z
   ·exact z
   ·rw[z] at hk;cases hk
  obtain⟨c,L⟩:=I.ok.has x (.inl hk);obtain⟨w',z⟩:=I.cell x c L;refine wpAny_storeName_cell I.ok.kind hk L z (λh' hc' hs=>?_);obtain⟨oc,ad,ac⟩:=id z
  refine h { s with heap:=h' } ⟨I.ok,I.os,I.bare,⟨λb o e n hb hx=>?_,λb o e n hb hx=>?_,I.base.free,λb o e hx=>?_,I.base.tups,I.base.frzs,I.base.tbls⟩,⟨m,hn.sameBut hs (Ne.symm (cne x c L)),λj y v' J W e3=>?_⟩,λy c' e=>?_,I.free,I.freeC,λp hp=>?_,tracked ⟨oc,ad,I.freeC x c L⟩ hs,by simpa using I.len⟩ ⟨c,hs,.inr L⟩
  ·exact(hs.2 b (zx (zT (zo e) (I.ok.cab x c aa L)))).trans (I.base.keep b o e n hb hx)
  ·obtain⟨sl,J⟩:=I.base.slot b o e n hb hx;exact⟨sl,(hs.2 b (zx (zT (zo e) (I.ok.cab x c aa L)))).trans J⟩
  ·obtain⟨o',J⟩:=I.base.there b o e hx;exact⟨o',(hs.2 b (zx (zT (zo e) (I.ok.cab x c aa L)))).trans J⟩
  ·by_cases Y : j = i
   ·subst Y;rw[hi] at J;cases J;rw[zW ae] at W;cases W;exact⟨u,r,.inr ⟨.inl hk,c,L,hc'⟩⟩
   ·rw [xb (Ne.symm Y)] at W;obtain⟨u',r',q⟩:=hl j y v' J W e3;refine⟨u',r',?_⟩
    rcases q with q |⟨k,c',e,z'⟩
    ·exact .inl q
    ·refine .inr ⟨k,c',e,z'.sameBut hs ?_⟩;rintro rfl;exact Y (QL hN J (I.ok.inj _ _ _ e L ▸ hi))
  ·by_cases ag : c' = c
   ·subst ag;exact⟨_,hc'⟩
   ·obtain⟨w2,z2⟩:=I.cell y c' e;exact⟨w2,z2.sameBut hs ag⟩
  ·obtain ⟨e, n, ne, nf, d⟩ := I.pin p hp;refine⟨(hs.2 p.1 ?_).trans e,n,ne,nf,d⟩;intro q;rw[q,ad] at e;have q':oc=p.2:=zP e
   exact d w' (by rw[<- q'];exact ac)
def ZK{M:Model}{A:Around}{E:QqV}{i:Nat}{x:Str}{v:V}{u:Value}{Q:QqU}(I:Inv X pins σ H s)(L:X.N.Nodup)(hi:X.N[i]?=some x)(hx:Loc X.env.scope x)(r:RelV v u)
  (h:∀s',Inv X pins (σ.set i (some v)) H s'->Q () s') (J:X.fn x=true\/X.env.scope.names.lookup x=some .local:=by first |exact .inl rfl |exact .inr rfl |assumption):wpAny M A (storeName X.env x u) Q E s:=
 UG I L hi hx r (λs' I' _=>h s' I') J
def Inv.call'{s':Shared}{ch:List Addr}(I:Inv X pins σ H s)(L:s'.os=s.os)(u:Un (frs X.stack) ch H H' s.heap s'.heap)(hok:HOk X.prog X.w H' s'.heap)(O:AllBare s'.gens)
  (J:∀b∈ch,(b∈X.ex\/X.s₀.heap.objs.size<=b)/\b≠X.env.locals/\(∀x c,X.env.cells.lookup x=some c->c≠b)/\∀p∈X.pn++pins,p.1≠b):Inv X pins σ H' s':=by
 obtain⟨h',g',d',t',o'⟩:=s';have e:o'=s.os:=L;subst e;exact I.call (g':=g') (t':=t') (d':=d') u hok O J
end
abbrev XK:=Value->Option Addr->Hp->Prop
abbrev St:=List (Option V)
abbrev VK:=V->Hp->Prop
abbrev TE:=St->Hp->VK->Prop
abbrev TT:=St->Hp->(Bool->Hp->Prop)->Prop
abbrev TA:=St->Hp->(List V->Hp->Prop)->Prop
structure zH8 where
 nx:St->Hp->Prop
 rt:VK
 bk:St->Hp->Prop:=λ_ _=>False
 ct:St->Hp->Prop:=λ_ _=>False
abbrev TS:=zH8->St->Hp->Prop
def EP(X:Cx)(J:QqL)(σ:St)(Q:VK)(u:Value)(s':Shared):Prop:=∃v H',Inv X J σ H' s'/\RelV v u/\Q v H'
def TP(X:Cx)(J:QqL)(σ:St)(Q:Bool->Hp->Prop)(b:Bool)(s':Shared):Prop:=∃H',Inv X J σ H' s'/\Q b H'
def AP(X:Cx)(J:QqL)(σ:St)(Q:List V->Hp->Prop)(us:QqW)(s':Shared):Prop:=∃vs H',Inv X J σ H' s'/\Vals vs us/\Q vs H'
def SP(X:Cx)(J:QqL)(D:zH8)(f:Flow)(s':Shared):Prop:=
 match f with
 |.next=>∃σ' H',Inv X J σ' H' s'/\D.nx σ' H'
 |.brk=>∃σ' H',Inv X J σ' H' s'/\D.bk σ' H'
 |.cont=>∃σ' H',Inv X J σ' H' s'/\D.ct σ' H'
 |.ret u=>∃v σ' H',Inv X J σ' H' s'/\RelV v u/\D.rt v H'
def PE(X:Cx)(e:Expr)(t:TE):Prop:=
 ∀(J:QqL) (s:Shared) (σ:St) (H:Hp) (Q:VK),Inv X J σ H s->t σ H Q->wpAny (model X.prog X.w) X.A (eval e X.env) (EP X J σ Q) X.xe s
def PT(X:Cx)(e:Expr)(t:TT):Prop:=
 ∀(J:QqL) (s:Shared) (σ:St) (H:Hp) (Q:Bool->Hp->Prop),Inv X J σ H s->t σ H Q->wpAny (model X.prog X.w) X.A (isTrue e X.env (eval e X.env)) (TP X J σ Q) X.xe s
def PW(X:Cx)(e:Expr)(t:TT):Prop:=
 ∀(L:Sem Value) (J:QqL) (s:Shared) (σ:St) (H:Hp) (Q:Bool->Hp->Prop),Inv X J σ H s->t σ H Q->wpAny (model X.prog X.w) X.A (isTrue e X.env L) (TP X J σ Q) X.xe s
def PW.pt{X:Cx}{e:Expr}{t:TT}(h:PW X e t):PT X e t:=h _
def PA(X:Cx)(es:List Expr)(t:TA):Prop:=
 ∀(pos:Pos) (J:QqL) (s:Shared) (σ:St) (H:Hp) (Q:List V->Hp->Prop),Inv X J σ H s->t σ H Q->wpAny (model X.prog X.w) X.A (spliced (backTo pos (starEach es X.env))) (AP X J σ Q) X.xe s
def PS(X:Cx)(st:Stmt)(t:TS):Prop:=
 ∀(J:QqL) (s:Shared) (σ:St) (H:Hp) (D:zH8),Inv X J σ H s->t D σ H->wpAny (model X.prog X.w) X.A (exec st X.env) (SP X J D) X.xe s
def PSs(X:Cx)(st:List Stmt)(t:TS):Prop:=
 ∀(J:QqL) (s:Shared) (σ:St) (H:Hp) (D:zH8),Inv X J σ H s->t D σ H->wpAny (model X.prog X.w) X.A (execs st X.env) (SP X J D) X.xe s
def thn{α:Type}{t:Sem α}{Q Q':α->Shared->Prop}{M:Model}{A:Around}{E:QqV}{s:Shared}(h:wpAny M A t Q E s)(J:∀a s,Q a s->Q' a s):wpAny M A t Q' E s:=wM h J λ_ _ x=>x
section
variable {X:Cx}
def xH6(i:Nat):TE:=λσ H Q=>∃v,σ[i]?=some (some v)/\Q v H
def tC(v:V):TE:=λ_ H Q=>Q v H
def qC{i:Nat}{x:Str}{pos:Pos}(hN:X.N[i]?=some x)(Y:Vis X.env.scope x)(hd:(x == ("__debug__" : Str))=false:=by decide)(O:(x == ("__classdict__" : Str))=false:=by decide):PE X (.Name x pos) (xH6 i):=by
 intro L s σ H Q I h;obtain⟨v,e,h⟩:=h;obtain⟨m,hn,hl⟩:=I.loc;obtain⟨u,r,l⟩:=hl i x v hN e Y;have fin:EP X L σ Q u s:=⟨v,H,I,r,h⟩
 rcases l with ⟨hk,hm⟩ |⟨hk,c,W,J⟩
 ·exact wpAny_Name (wpAny_loadName_local I.ok.kind hk hn hm fin) hd
 ·rcases hk with hk | hk
  ·exact wpAny_Name (wpAny_loadName_cell I.ok.kind hk W J fin) hd
  ·exact wpAny_Name (wpAny_loadName_free I.ok.kind hk W J fin O) hd
def QF{i j pos}:PE X (.Constant (.int i) j pos) (tC (.int i)):=λ_ _ _ H _ I h=>wpAny_Constant_int ⟨.int i,H,I.tok _,⟨_,rfl⟩,h⟩
def xE1{b j pos}:PE X (.Constant (.bool b) j pos) (tC (.bl b)):=λ_ _ _ H _ I h=>Constant_bool ⟨.bl b,H,I,rfl,h⟩
def xf4{j pos}:PE X (.Constant .none j pos) (tC .non):=λ_ _ _ H _ I h=>Constant_none ⟨.non,H,I,rfl,h⟩
def xf1{x j pos}:PE X (.Constant (.str x) j pos) (tC (.str x)):=λ_ _ _ H _ I h=>Calls.Constant_str ⟨.str x,H,I.tok _,⟨_,rfl⟩,h⟩
def Gl(X:Cx)(x:Str):Prop:=X.env.kindOf x=some .globalImplicit
def zp4{E:QqV}{J:QqL}{s:Shared}{σ:St}{H:Hp}{x:Str}{u:Value}{pos:Pos}{Q:QqV}(I:Inv X J σ H s)(O:Gl X x)(L:X.mg x=some u)(h:Q u s)
  (hd:(x == ("__debug__" : Str))=false:=by decide):wpAny (model X.prog X.w) X.A (eval (.Name x pos) X.env) Q E s:=
 Calls.Name_function_global I.ok.kind O (Calls.loadGlobal_global (by rw[I.ok.glob];exact I.mod.glob.keeps I.bk) L h) hd
def Kq{E:QqV}{J:QqL}{s:Shared}{σ:St}{H:Hp}{x:Str}{u:Value}{pos:Pos}{Q:QqV}(I:Inv X J σ H s)(Y:Gl X x)(W:X.mg x=none)(L:bootBuiltins x=some u)(h:Q u s)
  (O:x ≠ "__name__" := by decide) (hd:(x == ("__debug__" : Str))=false:=by decide):wpAny (model X.prog X.w) X.A (eval (.Name x pos) X.env) Q E s:=by
 obtain⟨mb,h1,h2⟩:=I.mod.blt
 exact Calls.Name_function_global I.ok.kind Y (Calls.loadGlobal_builtin (by rw[I.ok.glob];exact I.mod.glob.keeps I.bk) W (by rw[I.ok.blt];exact h1.keeps I.bk) ((h2 x O).trans L) h) hd
def zP9{x:Str}{v:V}{u:Value}{pos:Pos}(L:Gl X x)(J:X.mg x=some u)(r:RelV v u)(hd:(x == ("__debug__" : Str))=false:=by decide):PE X (.Name x pos) (tC v):=
 λ_ _ _ H _ I h=>zp4 I L J ⟨v,H,I,r,h⟩ hd
variable {a b:Expr}{ta tb:TE}{pos:Pos}
def tB(t:TE):TT:=λσ H Q=>t σ H λx J=>∃c,x=.bl c/\Q c J
def xe3{e:Expr}{t:TE}(h:PE X e t)(he:∀J,isTrue e X.env J=(do let v <- J;standAt e.pos;holding [v] (truthy v)):=by intro _;rfl):PT X e (tB t):=by
 intro L s σ H Q I Y;refine isTrue_plain (thn (h L s σ H _ I Y) λv s1 ⟨x,H1,I1,O,W⟩=>?_) (he _);obtain⟨d,rfl,q⟩:=W;cases O;exact wE ⟨H1,I1,q⟩
variable {tA tB':TT}{rest:List Expr}
def xQ3(t u:TT):TT:=λσ H Q=>t σ H λc J=>if c=true then u σ J Q else Q false J
def tOr(t u:TT):TT:=λσ H Q=>t σ H λc J=>if c=true then Q true J else u σ J Q
def xP7(t:TT):TT:=λσ H Q=>t σ H λc J=>Q (!c) J
def zO9(ha:PT X a tA):PW X (.BoolOp .And [a] pos) tA:=by
 intro L J s σ H Q I h;refine isTrue_and (thn (ha J s σ H Q I h) λc O e=>?_)
 cases c with
 |true=>exact isTrue_and_nil e
 |false=>exact e
def xe0(ha:PT X a tA):PW X (.BoolOp .Or [a] pos) tA:=by
 intro L J s σ H Q I h;refine isTrue_or (thn (ha J s σ H Q I h) λc O e=>?_)
 cases c with
 |false=>exact isTrue_or_nil e
 |true=>exact e
def xe1(ha:PT X a tA)(hb:PW X (.BoolOp .And (b::rest) pos) tB'):PW X (.BoolOp .And (a::b::rest) pos) (xQ3 tA tB'):=by
 intro Y J s σ H Q I h;refine isTrue_and (thn (ha J s σ H _ I h) λc s1 ⟨W,O,L⟩=>?_)
 cases c with
 |true=>exact hb Y J s1 σ W Q O L
 |false=>exact⟨W,O,L⟩
def xD6(ha:PT X a tA)(hb:PW X (.BoolOp .Or (b::rest) pos) tB'):PW X (.BoolOp .Or (a::b::rest) pos) (tOr tA tB'):=by
 intro Y J s σ H Q I h;refine isTrue_or (thn (ha J s σ H _ I h) λc s1 ⟨W,O,L⟩=>?_)
 cases c with
 |true=>exact⟨W,O,L⟩
 |false=>exact hb Y J s1 σ W Q O L
def xe4(ha:PT X a tA):PT X (.UnaryOp .Not a pos) (xP7 tA):=by
 intro J s σ H Q I h;exact isTrue_not (ha J s σ H (λc L=>Q (!c) L) I h)
def xu5(ta tb:TE):TE:=λσ H Q=>ta σ H λx J=>∃c,x=.bl c/\if c=true then tb σ J Q else Q (.bl false) J
def xt8(ta:TE):TE:=λσ H Q=>ta σ H λx J=>∃c,x=.bl c/\Q (.bl (!c)) J
def xf2{op}{t:TE}(h:PE X a t):PE X (.BoolOp op [a] pos) t:=λJ s σ H Q I L=>BoolOp_one (h J s σ H Q I L)
def xf6(ha:PE X a ta)(hb:PE X (.BoolOp .And (b::rest) pos) tb):PE X (.BoolOp .And (a::b::rest) pos) (xu5 ta tb):=by
 intro J s σ H Q I h;refine BoolOp_and (thn (ha J s σ H _ I h) λv Y ⟨x,W,O,r1,L⟩=>?_);obtain⟨c,rfl,L⟩:=L;cases r1;refine wE ?_
 cases c with
 |true=>exact hb J Y σ W Q O L
 |false=>exact⟨.bl false,W,O,rfl,L⟩
def xf3(ha:PE X a ta):PE X (.UnaryOp .Not a pos) (xt8 ta):=by
 intro J s σ H Q I h;refine UnaryOp_ (thn (ha J s σ H _ I h) λv s1 ⟨x,Y,W,O,L⟩=>?_);obtain⟨c,rfl,L⟩:=L;cases O;exact not_of (wE ⟨.bl (!c),Y,W,rfl,L⟩)
def tIf(t:TT)(ta tb:TE):TE:=λσ H Q=>t σ H λc J=>if c=true then ta σ J Q else tb σ J Q
def zB2{c:Expr}(hc:PT X c tA)(ha:PE X a ta)(hb:PE X b tb):PE X (.IfExp c a b pos) (tIf tA ta tb):=by
 intro J s σ H Q I h;refine wpAny_IfExp (thn (hc J s σ H _ I h) λd L ⟨Y,W,O⟩=>?_)
 cases d with
 |true=>exact ha J L σ Y Q W O
 |false=>exact hb J L σ Y Q W O
end
def SqL(K:W.Frag)(H:Hp)(a:Addr)(xs:List V):Prop:=
 Rd H a (.lst xs) \/
  ∃(o:Obj) (its:Array Value) (n:Nat),K.lookup a=some o/\o.cls=.type "list" /\ o.dict=none/\o.data=.seq its n/\its.size<=sizeLine/\Vals xs its.toList
def SqT(K:W.Frag)(H:Hp)(a:Addr)(xs:List V):Prop:=
 Rd H a (.tup xs) \/
  ∃(o:Obj) (its:Array Value) (n:Nat),K.lookup a=some o/\o.cls=.type "tuple" /\ o.data=.seq its n/\its.size<=sizeLine/\Vals xs its.toList
def xW6:Value->Option V
 |.none=>some .non
 |.bool b=>some (.bl b)
 |.int i _=>some (.int i)
 |.str x _=>some (.str x)
 |.bytes b _=>some (.byt b)
 |.float b _=>some (.flt b)
 |.ref a=>some (.ref a)
 |.type n=>some (.ty n)
 |_=>none
def RelV.abs{x:V}{u:Value}(r:RelV x u):xW6 u=some x:=by
 cases x with
 |non=>cases r;rfl
 |bl _=>cases r;rfl
 |int _=>obtain⟨t,rfl⟩:=r;rfl
 |str _=>obtain⟨t,rfl⟩:=r;rfl
 |byt _=>obtain⟨t,rfl⟩:=r;rfl
 |flt _=>obtain⟨t,rfl⟩:=r;rfl
 |ref _=>cases r;rfl
 |ty _=>cases r;rfl
def RelV.inj{x y:V}{u:Value}(r:RelV x u)(q:RelV y u):x=y:=zP (r.abs.symm.trans q.abs)
theorem Vals.inj:∀{xs ys:List V}{us:QqW},Vals xs us->Vals ys us->xs=ys
 |_,_,_,.nil,.nil=>rfl
 |_,_,_,.cons r t,.cons r' t'=>by rw[r.inj r',Vals.inj t t']
section
variable {X:Cx}{pins:QqL}{σ:St}{H:Hp}{s:Shared}{a:Addr}{xs ys:List V}
def SqL.of{K:W.Frag}(h:H a=some (.lst xs)):SqL K H a xs:=.inl (.inl h)
def Inv.list(I:Inv X pins σ H s)(h:SqL X.K H a xs):∃its:List Value,Vals xs its/\PlainL s.heap a its.toArray/\xs.length<=sizeLine:=by
 rcases h with h |⟨o,its,n,hk,J,hd,hs,hz,r⟩
 ·obtain⟨z,its,n,r,e⟩:=h.ok I.hok;exact⟨its,r,⟨_,n,e,rfl,rfl,rfl⟩,z⟩
 ·refine ⟨its.toList, r, ⟨o, n, I.kIn a o hk, J, hd, by simpa using hs⟩, ?_⟩
  have e:=r.length;simp only[xU] at e;lia
def Inv.tuple(I:Inv X pins σ H s)(h:SqT X.K H a xs):∃its:List Value,Vals xs its/\IsTup s.heap a its.toArray/\xs.length<=sizeLine:=by
 rcases h with h |⟨o,its,n,hk,J,hs,hz,r⟩
 ·obtain⟨z,its,r,p⟩:=h.ok I.hok;exact⟨its,r,p,z⟩
 ·refine ⟨its.toList, r, ⟨o, I.kIn a o hk, J, n, by simpa using hs⟩, ?_⟩
  have e:=r.length;simp only[xU] at e;lia
def Inv.list_inj(I:Inv X pins σ H s)(h:SqL X.K H a xs)(h':SqL X.K H a ys):xs=ys:=by
 obtain⟨its,r,⟨o,n,e,_,_,d⟩,_⟩:=I.list h;obtain⟨its',r',⟨o',n',e',_,_,d'⟩,_⟩:=I.list h';rw[e] at e';cases e';rw[d] at d';injection d' with d1 _
 have:its=its':=by simpa using congrArg Array.toList d1
 subst this;exact r.inj r'
def Inv.tuple_inj(I:Inv X pins σ H s)(h:SqT X.K H a xs)(h':SqT X.K H a ys):xs=ys:=by
 obtain⟨its,r,⟨o,e,_,n,d⟩,_⟩:=I.tuple h;obtain⟨its',r',⟨o',e',_,n',d'⟩,_⟩:=I.tuple h';rw[e] at e';cases e';rw[d] at d';injection d' with d1 _
 have:its=its':=by simpa using congrArg Array.toList d1
 subst this;exact r.inj r'
end
abbrev Cx.wish(X:Cx)(E:QqV):Cx:={ X with xe:=E }
abbrev Cx.nox(X:Cx):Cx:=X.wish λ_ _=>False
def Cx.Ok.wish{X:Cx}(ok:X.Ok)(E:QqV):(X.wish E).Ok:=
 ⟨ok.mod,ok.kind,ok.glob,ok.blt,ok.above,ok.inj,ok.has,ok.cab,ok.hd,ok.frames,ok.stk,ok.exf,ok.bs,ok.bsz,ok.noex,ok.exfs,ok.funs,ok.frf⟩
def Cx.Ok.unwish{X:Cx}{E:QqV}(ok:(X.wish E).Ok):X.Ok:=
 ⟨ok.mod,ok.kind,ok.glob,ok.blt,ok.above,ok.inj,ok.has,ok.cab,ok.hd,ok.frames,ok.stk,ok.exf,ok.bs,ok.bsz,ok.noex,ok.exfs,ok.funs,ok.frf⟩
section
variable {X:Cx}{pins:QqL}{σ:St}{H:Hp}{s:Shared}{E:QqV}
def Inv.wish(I:Inv X pins σ H s)(E:QqV):Inv (X.wish E) pins σ H s:=⟨I.ok.wish E,I.os,I.bare,I.base,I.loc,I.cell,I.free,I.freeC,I.pin,I.hok,I.len⟩
def Inv.unwish(I:Inv (X.wish E) pins σ H s):Inv X pins σ H s:=⟨I.ok.unwish,I.os,I.bare,I.base,I.loc,I.cell,I.free,I.freeC,I.pin,I.hok,I.len⟩
def SP.unwish{D:zH8}{f:Flow}{s':Shared}(h:SP (X.wish E) pins D f s'):SP X pins D f s':=by
 cases f with
 |next=>obtain⟨σ',H',I,q⟩:=h;exact⟨σ',H',I.unwish,q⟩
 |brk=>obtain⟨σ',H',I,q⟩:=h;exact⟨σ',H',I.unwish,q⟩
 |cont=>obtain⟨σ',H',I,q⟩:=h;exact⟨σ',H',I.unwish,q⟩
 |ret u=>obtain⟨v,σ',H',I,r,q⟩:=h;exact⟨v,σ',H',I.unwish,r,q⟩
def PSs.nox{st:List Stmt}{t:TS}(h:PSs X.nox st t):PSs X st t:=λpins s σ H D I J=>
 wM (h pins s σ H D (I.wish _) J) (λ_ _ q=>q.unwish) λ_ _ z=>False.elim z
end
section
variable {X:Cx}{st:Stmt}{rest:List Stmt}{t u:TS}{e:Expr}{te:TE}{pos:Pos}
def xt9:TS:=λD σ H=>D.nx σ H
def xP4(t u:TS):TS:=λD σ H=>t { D with nx:=u D } σ H
def zl0:PSs X [] xt9:=λ_ _ σ H _ I h=>wpAny_execs_nil ⟨σ,H,I,h⟩
def VR(h1:PS X st t)(O:PSs X rest u):PSs X (st::rest) (xP4 t u):=by
 intro J s σ H D I h;refine wpAny_execs_cons (thn (h1 J s σ H { D with nx:=u D } I h) λf L q=>?_)
 cases f with
 |next=>
  obtain⟨σ',H',I',q⟩:=q;exact O J L σ' H' D I' q
 |ret v=>exact q
 |brk=>exact q
 |cont=>exact q
def zP2(h1:PS X st t):PSs X [st] t:=by
 intro J s σ H D I h;refine wpAny_execs_cons (thn (h1 J s σ H D I h) λf L q=>?_)
 cases f with
 |next=>exact wpAny_execs_nil q
 |ret v=>exact q
 |brk=>exact q
 |cont=>exact q
def Inv.quiet{J:QqL}{σ:St}{H:Hp}{s:Shared}(I:Inv X J σ H s):interactive X.env=false:=by simp[interactive,I.ok.kind]
def xu0(te:TE):TS:=λD σ H=>te σ H λ_ J=>D.nx σ J
def JC(O:PE X e te)(hs:swapsWith e none pos.line X.env=pure false:=by rfl):PS X (.Expr e pos) (xu0 te):=by
 intro J s σ H D I h;exact wpAny_Expr_any (thn (O J s σ H _ I h) λv s1 ⟨x,Y,W,r1,L⟩=>⟨σ,Y,W,L⟩) I.quiet hs
def xP5(te:TE):TS:=λD σ H=>te σ H D.rt
def zJ2(W:PE X e te):PS X (.Return (some e) pos) (xP5 te):=by
 intro J s σ H D I h;exact wpAny_Return_some (thn (W J s σ H _ I h) λv s1 ⟨x,H1,Y,L,O⟩=>⟨x,σ,H1,Y,L,O⟩)
def xQ0(c:TT)(t u:TS):TS:=λD σ H=>c σ H λb J=>if b=true then t D σ J else u D σ J
def xD8{c:Expr}{a b:List Stmt}{L:TT}(hc:PT X c L)(ha:PSs X a t)(hb:PSs X b u):PS X (.If c a b pos) (xQ0 L t u):=by
 intro J s σ H D I h;refine wpAny_If (thn (hc J s σ H _ I h) λd O ⟨H1,Y,W⟩=>?_)
 cases d with
 |true=>exact ha J O σ H1 D Y W
 |false=>exact hb J O σ H1 D Y W
end
abbrev TG:=V->St->Hp->(St->Hp->Prop)->Prop
abbrev TGs:=List V->St->Hp->(St->Hp->Prop)->Prop
def PG(X:Cx)(J:Expr)(t:TG):Prop:=
 ∀(L:QqL) (s:Shared) (σ:St) (H:Hp) (v:V) (u:Value) (Q:St->Hp->Prop),Inv X L σ H s->RelV v u->t v σ H Q ->
  wpAny (model X.prog X.w) X.A (assign J X.env u) (λ_ s'=>∃σ' H',Inv X L σ' H' s'/\Q σ' H') X.xe s
def PGs(X:Cx)(ts:List Expr)(t:TGs):Prop:=
 ∀(J:QqL) (s:Shared) (σ:St) (H:Hp) (vs:List V) (us:QqW) (Q:St->Hp->Prop),Inv X J σ H s->Vals vs us->t vs σ H Q ->
  wpAny (model X.prog X.w) X.A (assignInOrder ((assignEach ts X.env).map (·.2)) us) (λ_ s'=>∃σ' H',Inv X J σ' H' s'/\Q σ' H') X.xe s
abbrev xH0:=V->V->V->Hp->(Hp->Prop)->Prop
def xO6(X:Cx)(t:xH0):Prop:=
 ∀(J:QqL) (s:Shared) (σ:St) (H:Hp) (o i v:V) (L O u:Value) (Q:Hp->Prop),Inv X J σ H s->RelV o L->RelV i O->RelV v u->t o i v H Q ->
  wpAny (model X.prog X.w) X.A (setItem L O u) (λ_ s'=>∃H',Inv X J σ H' s'/\Q H') X.xe s
abbrev TIp:=V->V->Hp->VK->Prop
def PIp(X:Cx)(op:Operator)(t:TIp):Prop:=
 ∀(J:QqL) (s:Shared) (σ:St) (H:Hp) (x y:V) (v u:Value) (Q:VK),Inv X J σ H s->RelV x v->RelV y u->t x y H Q ->
  wpAny (model X.prog X.w) X.A (inplaceOp op v u) (EP X J σ Q) X.xe s
section
variable {X:Cx}{pos:Pos}
def zF4(i:Nat):TG:=λv σ H Q=>Q (σ.set i (some v)) H
def zP7{i:Nat}{x:Str}(O:X.N.Nodup)(hi:X.N[i]?=some x)(hx:Loc X.env.scope x)(L:X.fn x=true\/X.env.scope.names.lookup x=some .local:=by first |exact .inl rfl |exact .inr rfl |assumption):PG X (.Name x pos) (zF4 i):=by
 intro J s σ H v u Q I r h;exact wpAny_assign_Name (ZK I O hi hx r (λs' I'=>⟨_,H,I',h⟩) L)
def xV4:TGs:=λvs σ H Q=>vs=[]/\Q σ H
def xG1(t:TG)(u:TGs):TGs:=λvs σ H Q=>∃v r,vs=v::r/\t v σ H λσ' H'=>u r σ' H' Q
def zP6:PGs X [] xV4:=by
 intro J s σ H vs us Q I r h;obtain⟨e,h⟩:=h;subst e;cases r;exact assignInOrder_nil ⟨σ,H,I,h⟩
def zB1{e:Expr}{es:List Expr}{t:TG}{u:TGs}(h1:PG X e t)(h2:PGs X es u)
  (hs:(assignEach (e::es) X.env).map (·.2)=assign e X.env::(assignEach es X.env).map (·.2):=by rfl):PGs X (e::es) (xG1 t u):=by
 intro J s σ H vs us Q I r h;obtain⟨v,vr,e1,h⟩:=h;subst e1
 cases r with
 |cons r W=>
  rw[hs];refine assignInOrder_cons (thn (h1 J s σ H _ _ _ I r h) λ_ O ⟨L,H1,I1,Y⟩=>?_);exact h2 J O L H1 _ _ Q I1 W Y
def xV2(K:W.Frag)(n:Nat)(t:TGs):TG:=λv σ H Q=>∃a xs,v=.ref a/\SqT K H a xs/\xs.length=n/\t xs σ H Q
def xe9{es:List Expr}{k:Nat}{t:TGs}{n:Nat}(hc:X.calm=true)(h:PGs X es t)
  (Y:(assignEach es X.env).length=n:=by rfl) (O:(assignEach es X.env).findIdx? (·.1)=none:=by rfl):PG X (.Tuple es k pos) (xV2 X.K n t):=by
 intro J s σ H v u Q I r L;obtain⟨a,xs,e1,W,hl,L⟩:=L;subst e1;cases r;obtain⟨its,rv,ht,hz⟩:=I.tuple W
 refine assign_Tuple_tuple (I.ok.hd hc) ht (by simp[Y,<- hl,rv.length]) O λh' hx=>?_
 have I1:Inv X J σ H { s with heap:=h' }:=I.kept (t':=s.toks) λb o e=>hx b o (zx (zo e)) e
 exact h J _ σ H xs _ Q I1 (by simpa using rv) L
def xV3(to ti:TE)(t:xH0):TG:=λv σ H Q=>to σ H λo O=>ti σ O λi L=>t o i v L λJ=>Q σ J
def xf0{o i:Expr}{to ti:TE}{t:xH0}(ho:PE X o to)(hi:PE X i ti)(hs:xO6 X t)
  (ha : ∀ v, assign (.Subscript o i pos) X.env v = (do
   let L <- holding [v] (eval o X.env)
   let O <- holding [v,L] (eval i X.env)
   standAt pos
   holding [v,L,O] (setItem L O v)
   release [v,L,O] []):=by intro _;rfl):PG X (.Subscript o i pos) (xV3 to ti t):=by
 intro J s σ H v u Q I r h;rw[ha];refine zb (xp (thn (ho J s σ H _ I h) λL Y ⟨x,H1,I1,r1,q1⟩=>?_));refine zb (xp (thn (hi J Y σ H1 _ I1 q1) λO W ⟨y,H2,I2,r2,q2⟩=>?_));refine zb (wpAny_standAt (zb (xp (thn (hs J W σ H2 x y v L O u _ I2 r1 r2 r q2) λ_ s3 ⟨H3,I3,q3⟩=>?_))));exact wpAny_release ⟨σ,H3,I3,q3⟩
def xu4(J:TE)(g:TG):TS:=λD σ H=>J σ H λx L=>g x σ L D.nx
def zl3{L e:Expr}{O:TE}{g:TG}(he:PE X e O)(hg:PG X L g)(hs:swapsWithSole [L] e pos.line X.env=pure false:=by rfl)(hw:swappedStores [L] e X.env=pure none:=by rfl)
  (h1:(assignEach [L] X.env).map (·.2)=[assign L X.env]:=by rfl):PS X (.Assign [L] e pos) (xu4 O g):=by
 intro J s σ H D I h;refine wpAny_Assign_stores (thn (he J s σ H _ I h) λv W ⟨x,H1,I1,Y,q1⟩=>?_) hs hw;rw[h1];exact thn (hg J W σ H1 x v _ I1 Y q1) λ_ s2 q=>q
def UQ{i:Nat}{x:Str}{e:Expr}{L:TE}{pos':Pos}(hN:X.N.Nodup)(hi:X.N[i]?=some x)(hx:Loc X.env.scope x)(he:PE X e L)(hs:swapsWith e (some (.Name x pos')) pos.line X.env=pure false:=by rfl)(Y:X.fn x=true\/X.env.scope.names.lookup x=some .local:=by first |exact .inl rfl |exact .inr rfl |assumption) :
  PS X (.Assign [.Name x pos'] e pos) (xu4 L (zF4 i)):=by
 intro J s σ H D I h;refine wpAny_Assign_Name (thn (he J s σ H _ I h) λv s1 ⟨y,H1,I1,O,W⟩=>?_) hs;exact ZK I1 hN hi hx O (λs2 I2=>⟨_,H1,I2,W⟩) Y
def xP6(i j:Nat)(J:TA):TS:=λD σ H=>J σ H λvs L=>∃v w,vs=[v,w]/\D.nx ((σ.set i (some v)).set j (some w)) L
def zJ3{i j:Nat}{x y:Str}{a b:Expr}{ta:TA}{px py pt:Pos}{kt k2 L}(hc:X.calm=true)(hN:X.N.Nodup)(hi:X.N[i]?=some x)(hj:X.N[j]?=some y)(aa:i≠j)
  (hx:X.env.scope.names.lookup x=some .local) (hy:X.env.scope.names.lookup y=some .local) (ha:PA X [a,b] ta)
  (hw:swappedStores [.Tuple [.Name x px,.Name y py] kt pt] (.Tuple [a,b] k2 L) X.env=pure (some [x,y]))
  (hs:swapsWithSole [.Tuple [.Name x px,.Name y py] kt pt] (.Tuple [a,b] k2 L) pos.line X.env=pure false:=by rfl) :
  PS X (.Assign [.Tuple [.Name x px,.Name y py] kt pt] (.Tuple [a,b] k2 L) pos) (xP6 i j ta):=by
 intro J s σ H D I h;rw[exec_Assign_arm];refine zb (wpAny_standAt ?_);rw[hs];refine zb (zf ?_)
 rw[if_neg w6]
 refine zb (Tuple_ (thn (ha _ J s σ H _ I h) λus Y ⟨vs,H1,I1,r1,q1⟩=>?_));obtain⟨v,w,e1,q1⟩:=q1;subst e1
 obtain⟨W,O,rfl,rv,rw'⟩:∃W O,us=[W,O]/\RelV v W/\RelV w O:=by
  cases r1 with
  | cons p q =>
   cases q with
   |cons p' q'=>
    cases q';exact⟨_,_,rfl,p,p'⟩
 refine xz ?_ (by show 2<=sizeLine;decide)
 have I2:Inv X J σ H1 { Y with heap:=Y.heap.push { cls:=.type "tuple",data:=.seq [W,O].toArray } }:=I1.kept (t':=Y.toks) λb o e=>ze _ e;rw[hw];refine zb (zf ?_)
 show wpAny (model X.prog X.w) X.A (do rule "assign.swapped-stores";let items <- unpackItems (.ref Y.heap.objs.size) 2 none;assignInOrder [λv=>bindName X.env y v,λv=>bindName X.env x v] items.reverse;pure Flow.next) _ _ _
 refine zb (yD (zb (unpackItems_tuple (items:=#[W,O]) (I.ok.hd hc) (IsTup.new Y.heap _) λh' hx'=>?_)));have I3:=I2.kept (h':=h') (t':=Y.toks) λb o e=>hx' b o (zx (zo e)) e;show wpAny _ _ (assignInOrder [λv=>bindName X.env y v,λv=>bindName X.env x v] [O,W] >>= λ_=>pure Flow.next) _ _ _;refine zb (assignInOrder_cons (wpAny_bindName (ZK I3 hN hj (.inl hy) rw' (λs2 I4=>?_) (.inr hy))));refine assignInOrder_cons (wpAny_bindName (ZK I4 hN hi (.inl hx) rv (λs3 I5=>assignInOrder_nil (zf ?_)) (.inr hx)));rw[List.set_comm _ _ (Ne.symm aa)] at I5;exact⟨_,H1,I5,q1⟩
def xQ2(i:Nat)(J:TE)(ti:TIp):TS:=λD σ H=>∃x,σ[i]?=some (some x)/\J σ H λy O=>ti x y O λz L=>D.nx (σ.set i (some z)) L
def xe6{i:Nat}{x:Str}{e:Expr}{W:TE}{op:Operator}{ti:TIp}{pos':Pos}(hN:X.N.Nodup)(hi:X.N[i]?=some x)(hx:Loc X.env.scope x)(he:PE X e W)(ho:PIp X op ti)(hf:X.fn x=true\/X.env.scope.names.lookup x=some .local:=by first |exact .inl rfl |exact .inr rfl |assumption) :
  PS X (.AugAssign (.Name x pos') op e pos) (xQ2 i W ti):=by
 intro J s σ H D I h;obtain⟨v,e1,h⟩:=h;obtain⟨m,hn,hl⟩:=I.loc
 have O:Vis X.env.scope x:=by rcases hx with k |k;exact .inl k;exact .inr (.inl k)
 obtain⟨u,r,l⟩:=hl i x v hi e1 O;refine wpAny_AugAssign_Name ?_
 have go:wpAny (model X.prog X.w) X.A (eval e X.env) (λw s₂=>wpAny (model X.prog X.w) X.A (inplaceOp op u w) (λr Y=>wpAny (model X.prog X.w) X.A (storeName X.env x r) (λ_=>SP X J D .next) X.xe Y) X.xe s₂) X.xe s:=by
  refine thn (he J s σ H _ I h) λw s1 ⟨y,H1,I1,r1,q1⟩=>?_;refine thn (ho J s1 σ H1 v y u w _ I1 r r1 q1) λz s2 ⟨zv,H2,I2,r2,q2⟩=>?_;exact ZK I2 hN hi hx r2 (λs3 I3=>⟨_,H2,I3,q2⟩) hf
 rcases l with ⟨hk,hm⟩ |⟨hk,c,hc,L⟩
 ·exact wpAny_loadName_local I.ok.kind hk hn hm go
 ·rcases hk with hk | hk
  ·exact wpAny_loadName_cell I.ok.kind hk hc L go
  ·rcases hx with k | k
   ·have:X.env.scope.names.lookup x=some .free:=hk;rw[k] at this;cases this
   ·have:X.env.scope.names.lookup x=some .free:=hk;rw[k] at this;cases this
def ipI(f:Int->Int->Int):TIp:=λx y H Q=>∃i j,x=.int i/\y=.int j/\Q (.int (f i j)) H
def xk6:PIp X .Add (ipI λi j=>i+j):=by
 intro J s σ H x y v u Q I O L h;obtain⟨i,j,Y,W,q⟩:=h;subst Y;subst W;obtain⟨t,rfl⟩:=O;obtain⟨t',rfl⟩:=L;exact iadd_int ⟨.int _,H,I.tok _,⟨_,rfl⟩,q⟩
def zY9(c:TT)(tb:TS):TS:=λD σ H=>∃W:Nat->St->Hp->Prop,(∃m,W m σ H)/\∀m σ H,W m σ H ->
 c σ H λb J=>if b=true then ∃N:St->Hp->Prop,(∀σ' H',N σ' H'->∃m',m'<m/\W m' σ' H')/\tb { D with nx:=N,ct:=N,bk:=D.nx } σ J else D.nx σ J
def zA9{c:Expr}{body:List Stmt}{tc:TT}{tb:TS}(hp:PassesOwn (model X.prog X.w) X.A X.env X.xe)(hc:PT X c tc)(hb:PSs X body tb):PS X (.While c body [] pos) (zY9 tc tb):=by
 intro J s σ H D I h;obtain⟨W,⟨m0,w0⟩,turn⟩:=h;refine wpAny_While (codeAny_whileLoop (λn s'=>∃σ' H',Inv X J σ' H' s'/\W n σ' H') ?_ m0 ⟨σ,H,I,w0⟩);rintro n s1 ⟨Y,H1,I1,w1⟩;refine yE hp (thn (hc J s1 Y H1 _ I1 (turn n Y H1 w1)) λb s2 ⟨H2,I2,q2⟩=>?_)
 cases b with
 | true =>
  obtain⟨N,hN,q2⟩:=q2;rw[if_pos rfl];refine yE hp (thn (hb J s2 Y H2 _ I2 q2) λf s3 q3=>?_)
  cases f with
  |next=>
   obtain⟨L,O,I3,n3⟩:=q3;obtain⟨m',hm,w3⟩:=hN L O n3;exact⟨m',hm,L,O,I3,w3⟩
  |cont=>
   obtain⟨L,O,I3,n3⟩:=q3;obtain⟨m',hm,w3⟩:=hN L O n3;exact⟨m',hm,L,O,I3,w3⟩
  |brk=>exact q3
  |ret v=>exact q3
 |false=>
  rw[if_neg zJ];exact wpAny_execs_nil ⟨Y,H2,I2,q2⟩
end
structure It where
 go:Nat->Hp->Prop
 yld:Nat->Hp->V->Hp->Prop
 stop:Nat->Hp->Prop
def FpOk(X:Cx)(J:QqL)(H:Hp)(b:Addr):Prop:=
 H b=none/\b≠X.env.locals/\b ∉ X.fs/\(b∈X.ex\/X.s₀.heap.objs.size<=b)/\(∀x c,X.env.cells.lookup x=some c->c≠b)/\∀p∈X.pn++J,p.1≠b
def Inv.fpOk{X:Cx}{J:QqL}{σ:St}{H H':Hp}{s:Shared}{b:Addr}(I:Inv X J σ H s)(L:s.heap.objs.size<=b)(W:H' b=none):FpOk X J H' b:=by
 refine⟨W,xS (zT I.lt L),I.nofs L,.inr (zD I.sz L),λx c e z=>?_,λp O z=>?_⟩
 ·obtain ⟨v, q⟩ := I.cell x c e
  exact absurd (zT q.lt (by rw[z];exact L)) (xj _)
 ·exact absurd (zT (zo (I.pin p O).1) (by rw[z];exact L)) (xj _)
structure Turn(P:Program)(w:World)(K:W.Frag)(tg:Expr)(J:It)(fp:List Addr)(it:Addr)(tn:Nat->Heap->Prop):Prop where
 mem:it∈fp
 obj:∀i h,tn i h->∀b∈fp,∃o,h.get? b=some o/\∀v,o.data≠.cell v
 keep:∀i h h',tn i h->(∀b∈fp,∀o,h.get? b=some o->h'.get? b=some o)->tn i h'
 item:∀(X:Cx),X.prog=P->X.w=w->X.K=K->X.calm=true->∀(i:Nat) (pins:QqL) (s:Shared) (σ:St) (H:Hp) (E:QqV),Inv X pins σ H s->(∀b∈fp,FpOk X pins H b)->tn i s.heap->J.go i H ->
  wpAny (model P w) X.A (pyNext (.ref it)) (λr s1=>∃u,r=some u /\
   wpAny (model P w) X.A (letOwnedTupleGo tg (.ref it) u) (λ_ s2=>∃x H',Inv X pins σ H' s2/\RelV x u/\J.yld i H x H'/\tn (i+1) s2.heap/\∀b∈fp,H' b=none) E s1) E s
 done:∀(X:Cx),X.prog=P->X.w=w->X.K=K->X.calm=true->∀(i:Nat) (pins:QqL) (s:Shared) (σ:St) (H:Hp) (E:QqV),Inv X pins σ H s->(∀b∈fp,FpOk X pins H b)->tn i s.heap->J.stop i H ->
  wpAny (model P w) X.A (pyNext (.ref it)) (λr s1=>r=none/\Inv X pins σ H s1) E s
 self:∀(A:Around) (i:Nat) (s:Shared) (Q:QqV) (E:QqV),tn i s.heap->Q (.ref it) s->wpAny (model P w) A (pyIter (.ref it)) Q E s
abbrev TI:=St->Hp->(It->Hp->Prop)->Prop
def PIE(X:Cx)(L:QqL)(σ:St)(tg:Expr)(R:It->Hp->Prop)(O:Value)(Y:Shared):Prop:=
 ∃(it:Addr) (fp:List Addr) (W:Nat->Heap->Prop) (J:It) (H':Hp),O=.ref it/\Inv X L σ H' Y/\Turn X.prog X.w X.K tg J fp it W/\W 0 Y.heap/\(∀b∈fp,FpOk X L H' b)/\R J H'
def PI(X:Cx)(O iter:Expr)(L:TI):Prop:=
 ∀(J:QqL) (s:Shared) (σ:St) (H:Hp) (R:It->Hp->Prop),Inv X J σ H s->L σ H R ->
  wpAny (model X.prog X.w) X.A (eval iter X.env) (λv W=>wpAny (model X.prog X.w) X.A (pyIter v) (PIE X J σ O R) X.xe W) X.xe s
def zV2{M:Model}{A:Around}{E:QqV}{s:Shared}{L:Expr}{it:Addr}{u:Value}{o:Obj}{n:String}{vs:Array Value}{Q:QqU}(O:s.heap.get? it=some o)(Y:o.cls=.type n)(hd:o.data=.fields vs)
    (W:["enumerate","zip","dict_itemiterator","dict_reverseitemiterator","odict_iterator","itertools.zip_longest","itertools.pairwise"].contains n=false) (J:Q () s):wpAny M A (letOwnedTupleGo L (.ref it) u) Q E s:=by
  unfold letOwnedTupleGo
  cases L <;> first
    |exact zf J
    |(cases u<;>first
        |exact zf J
        | (refine zb (wpAny_load O ?_)
           rw[Y,hd]
           show wpAny M A (if (["enumerate","zip","dict_itemiterator","dict_reverseitemiterator","odict_iterator","itertools.zip_longest","itertools.pairwise"].contains n&&vs[0]? == some (rawInt _))=true then _ else _) Q E s
           rw[if_neg (by intro h;rw[W,Bool.false_and] at h;cases h)]
           exact zf J))
def Itl(K:W.Frag)(a:Addr):It:=
 ⟨λi H=>∃xs x,SqL K H a xs/\xs[i]?=some x,λi H x H'=>H'=H/\∀xs,SqL K H a xs->xs[i]?=some x,λi H=>∃xs,SqL K H a xs/\xs.length<=i⟩
def Itt(K:W.Frag)(a:Addr):It:=
 ⟨λi H=>∃xs x,SqT K H a xs/\xs[i]?=some x,λi H x H'=>H'=H/\∀xs,SqT K H a xs->xs[i]?=some x,λi H=>∃xs,SqT K H a xs/\xs.length<=i⟩
def Itr(lo:Int)(n:Nat):It:=⟨λi _=>i<n,λi H x H'=>H'=H/\x=.int (lo+i),λi _=>n<=i⟩
def zh8{P:Program}{w:World}{K:W.Frag}{tg:Expr}(a it:Addr):Turn P w K tg (Itl K a) [it] it (λi h=>h.IsListIter it a i) where
 mem:=by simp
 obj:=λi h st b L=>by
  have e:b=it:=by simpa using L
  subst e;obtain⟨o,e,c,d⟩:=st
  exact⟨o,e,λv z=>by rw[d] at z;cases z⟩
 keep:=λi h h' st k=>st.at λo e=>k it (by simp) o e
 item:=by
  intro X hP hw hK hc i J s σ H E I Y st hg;subst hP hw hK;obtain⟨xs,x,O,hx⟩:=hg;obtain⟨its,rv,p,hz⟩:=I.list O;obtain⟨u,hu,ru⟩:=rv.get hx
  obtain⟨f0,f1,f2,f3,f4,f5⟩:=Y it (by simp)
  refine wpAny_pyNext_list_item st p.isList (x:=u) (by simpa using hu) λh' st' sb=>?_
  have I1:Inv X J σ H { s with heap:=h' }:=I.turned (t':=s.toks) (λb o L e=>(sb.2 b L).trans e) f0 f1 f3 f4 f5;obtain⟨o,e,c,d⟩:=id st'
  exact⟨u,rfl,zV2 (s:={ s with heap:=h' }) e c d w6 ⟨x,H,I1,ru,⟨rfl,λys hy=>by rw[I.list_inj hy O];exact hx⟩,st',λb L=>(Y b L).1⟩⟩
 done:=by
  intro X hP hw hK hc i J s σ H E I Y st hg;subst hP hw hK;obtain⟨xs,O,hx⟩:=hg;obtain⟨its,rv,p,hz⟩:=I.list O
  obtain⟨f0,f1,f2,f3,f4,f5⟩:=Y it (by simp)
  have hl:=rv.length
  exact wpAny_pyNext_list_end (I.ok.hd hc) st p.isList (by simp;lia) λh' eb=>⟨rfl,I.turned (t':=s.toks) (λb o L e=>eb b o L e) f0 f1 f3 f4 f5⟩
 self:=λ_ _ _ _ _ st h=>wpAny_pyIter_listiter st h
def zb6{P:Program}{w:World}{K:W.Frag}{tg:Expr}(a it:Addr):Turn P w K tg (Itt K a) [it] it (λi h=>h.IsTupleIter it a i) where
 mem:=by simp
 obj:=λi h st b L=>by
  have e:b=it:=by simpa using L
  subst e;obtain⟨o,e,c,d⟩:=st
  exact⟨o,e,λv z=>by rw[d] at z;cases z⟩
 keep:=λi h h' st k=>st.at λo e=>k it (by simp) o e
 item:=by
  intro X hP hw hK hc i J s σ H E I Y st hg;subst hP hw hK;obtain⟨xs,x,O,hx⟩:=hg;obtain⟨its,rv,p,hz⟩:=I.tuple O;obtain⟨u,hu,ru⟩:=rv.get hx
  obtain⟨f0,f1,f2,f3,f4,f5⟩:=Y it (by simp)
  refine wpAny_pyNext_tuple_item st (show s.heap.IsTuple a its.toArray from p) (x:=u) (by simpa using hu) λh' st' sb=>?_
  have I1:Inv X J σ H { s with heap:=h' }:=I.turned (t':=s.toks) (λb o L e=>(sb.2 b L).trans e) f0 f1 f3 f4 f5;obtain⟨o,e,c,d⟩:=id st'
  exact⟨u,rfl,zV2 (s:={ s with heap:=h' }) e c d w6 ⟨x,H,I1,ru,⟨rfl,λys hy=>by rw[I.tuple_inj hy O];exact hx⟩,st',λb L=>(Y b L).1⟩⟩
 done:=by
  intro X hP hw hK hc i J s σ H E I Y st hg;subst hP hw hK;obtain⟨xs,O,hx⟩:=hg;obtain⟨its,rv,p,hz⟩:=I.tuple O
  obtain⟨f0,f1,f2,f3,f4,f5⟩:=Y it (by simp)
  have hl:=rv.length
  exact wpAny_pyNext_tuple_end (I.ok.hd hc) st (show s.heap.IsTuple a its.toArray from p) (by simp;lia) λh' eb=>⟨rfl,I.turned (t':=s.toks) (λb o L e=>eb b o L e) f0 f1 f3 f4 f5⟩
 self:=λ_ _ _ _ _ st h=>wpAny_pyIter_tupleiter st h
def zb7{P:Program}{w:World}{K:PySem.W.Frag}{tg:Expr}(it:Addr)(lo:Int)(n:Nat):Turn P w K tg (Itr lo n) [it] it (λi h=>IsRangeIter h it (lo+(i:Nat)*1) ((n:Int)-(i:Nat)) 1) where
 mem:=by simp
 obj:=λi h st b L=>by
  have e:b=it:=by simpa using L
  subst e
  exact⟨_,st,λv z=>by
   have z':Data.fields _=Data.cell v:=z
   cases z'⟩
 keep:=λi h h' st k=>k it (by simp) _ st
 item:=by
  intro X hP Y hK hc i J s σ H E I O st hg;subst hP Y hK
  obtain⟨f0,f1,f2,f3,f4,f5⟩:=O it (by simp)
  have W:=Walks.range (prog:=X.prog) (w:=X.w) (I.ok.hd hc) it lo 1 n;refine W.item i s _ _ hg st λv h' tk hv st' kk=>?_;obtain⟨t,rfl⟩:=hv
  have I1:Inv X J σ H { s with heap:=h',toks:=tk }:=I.turned (λb o L e=>kk b o (by simpa using L) e) f0 f1 f3 f4 f5
  refine⟨_,rfl,zV2 (s:={ s with heap:=h',toks:=tk }) (n := "range_iterator") st' rfl rfl w6 ⟨.int (lo+i),H,I1,⟨t,?_⟩,⟨rfl,rfl⟩,st',λb L=>(O b L).1⟩⟩
  rw[Int.mul_one]
 done:=by
  intro X hP Y hK hc i J s σ H E I O st hg;subst hP Y hK
  obtain⟨f0,f1,f2,f3,f4,f5⟩:=O it (by simp)
  exact wpAny_pyNext_range_end (I.ok.hd hc) st (by have:n<=i:=hg;lia) λh' eb=>⟨rfl,I.turned (t':=s.toks) (λb o L e=>eb b o L e) f0 f1 f3 f4 f5⟩
 self:=λ_ _ _ _ _ st h=>wpAny_pyIter_rangeiter st h
section
variable {X:Cx}{tg:Expr}
def zz8{J:QqL}{σ:St}{H:Hp}{s:Shared}{R:It->Hp->Prop}{E:QqV}{lo hi:Int}{t u v:Tok}{L:Nat}(I:Inv X J σ H s)(h1:-(2^62)<=lo)(h2:lo<2^62)(h3:-(2^62)<=hi)(Y:hi<2^62)
  (q:R (Itr lo (hi-lo).toNat) H):wpAny (model X.prog X.w) X.A (pyIter (.ref s.heap.objs.size)) (PIE X J σ tg R) E { s with heap:=s.heap.push { cls:=.type "range",data:=.fields #[.int lo t,.int hi u,.int 1 v] },toks:=L }:=by
 refine wpAny_pyIter_range (IsRange.new ..) (small_one h1 h2 h3 Y) ?_;have O:Inv X J σ H { s with heap:=s.heap.push { cls:=.type "range",data:=.fields #[.int lo t,.int hi u,.int 1 v] },toks:=L }:=I.kept λb o e=>ze _ e
 refine⟨(s.heap.push { cls:=.type "range",data:=.fields #[.int lo t,.int hi u,.int 1 v] }).objs.size,[(s.heap.push { cls:=.type "range",data:=.fields #[.int lo t,.int hi u,.int 1 v] }).objs.size],_,_,H,rfl,
  O.kept (t':=L) λb o e=>ze _ e,zb7 _ lo (hi-lo).toNat,?_,λb W=>?_,q⟩
 ·have e1 : lo + ((0 : Nat) : Int) * 1 = lo := by simp
  have e2:(((hi-lo).toNat:Nat):Int)-((0:Nat):Int)=Builtin.Range.rangeSize lo hi 1:=by rw[rangeSize_one];split<;>lia
  show IsRangeIter _ _ (lo+((0:Nat):Int)*1) ((((hi-lo).toNat:Nat):Int)-((0:Nat):Int)) 1;rw[e1,e2];exact zr _ rfl
 ·have e : b = (s.heap.push { cls := .type "range", data := .fields #[.int lo t, .int hi u, .int 1 v] }).objs.size := by simpa using W
  subst e;exact O.fpOk (zn _) (O.hok.fresh (zn _))
def xF9(J:TA):TI:=λσ H R=>J σ H λvs L=>∃j:Int,vs=[.int j]/\-(2^62)<=j/\j<2^62/\R (Itr 0 j.toNat) L
def zl7{a:Expr}{O:TA}{p pos:Pos}(hg:Gl X "range")(hm:X.mg "range" = none)(ha:PA X [a] O)(hs:starEach [a] X.env=[(false,eval a X.env)]:=by rfl):PI X tg (.Call (.Name "range" p) [a] [] pos) (xF9 O):=by
 intro J s σ H R I h;refine Call_ (Kq I hg hm boot_range (PyProof.Rows.callWith_type1 (thn (ha pos J s σ H _ I h) λus s1 ⟨vs,H1,I1,Y,L⟩=>?_) hs rfl));obtain⟨j,e,L,q2,q⟩:=L;subst e
 cases Y with
 |cons r W=>
  cases W;obtain⟨t,rfl⟩:=r
  exact call_range_1 (zz8 I1 w5 w5 L q2 (by simpa using q))
def xQ1(O:TI)(g:TG)(tb:TS):TS:=λD σ H=>O σ H λJ H1=>∃W:Nat->Nat->St->Hp->Prop,(∃m,W 0 m σ H1)/\∀i m σ H,W i m σ H ->
 (J.stop i H/\D.nx σ H)\/(J.go i H/\∃N:St->Hp->Prop,(∀σ' H',N σ' H'->∃m',m'<m/\W (i+1) m' σ' H')/\∀x H',J.yld i H x H'->g x σ H' λL Y=>tb { D with nx:=N,ct:=N,bk:=D.nx } L Y)
def XC(J:List Addr)(h:Heap):List (Addr × Obj):=J.filterMap λb=>(h.get? b).map λo=>(b,o)
def vZ{J:List Addr}{h:Heap}{b:Addr}{o:Obj}(L:b∈J)(e:h.get? b=some o):(b,o)∈XC J h:=List.mem_filterMap.mpr ⟨b,L,by rw[e];rfl⟩
def zn8{J:List Addr}{h:Heap}{p:Addr × Obj}(L:p∈XC J h):p.1∈J/\h.get? p.1=some p.2:=by
 obtain⟨b,O,e⟩:=List.mem_filterMap.mp L
 cases q:h.get? b with
 |none=>rw[q] at e;cases e
 |some o=>
  rw[q] at e;have e':(b,o)=p:=zP e;subst e';exact⟨O,q⟩
def Inv.pinned{J:QqL}{σ:St}{H:Hp}{s:Shared}{L:List Addr}(I:Inv X J σ H s)(hf:∀b∈L,FpOk X J H b)(Y:∀b∈L,∃o,s.heap.get? b=some o/\∀v,o.data≠.cell v):Inv X (J++XC L s.heap) σ H s:=
 I.pins_of λp W=>(zS.mp W).elim (λz=>I.pin p (zp _ z)) λz=>by
  obtain⟨O,e⟩:=zn8 z;obtain⟨f0,f1,f2,_⟩:=hf p.1 O;obtain⟨o,e',d⟩:=Y p.1 O;rw[e] at e';cases e';exact⟨e,f0,f1,f2,d⟩
def Inv.unpinned{J pl:QqL}{σ:St}{H:Hp}{s:Shared}(I:Inv X (J++pl) σ H s):Inv X J σ H s:=I.pins_of λp L=>I.pin p (zp _ (zR _ L))
def xe5{iter:Expr}{body:List Stmt}{wi:TI}{g:TG}{tb:TS}{pos:Pos}(hp:PassesOwn (model X.prog X.w) X.A X.env X.xe)(hc:X.calm=true)(hi:PI X tg iter wi)(hg:PG X tg g)(hb:PSs X body tb)
  (hs:∀x,foldedSetIterable iter X.env x=pure x:=by intro _;rfl):PS X (.For tg iter body [] pos) (xQ1 wi g tb):=by
 intro L s σ H D I h;refine wpAny_For (thn (hi L s σ H _ I h) λv s1 h1=>thn h1 λah s2 h2=>?_) hs;obtain⟨it,fp,tn,J,H2,e,I2,T,af,f2,W,⟨m0,w0⟩,turn⟩:=h2;subst e;have Y:∀{H':Hp},(∀b∈fp,H' b=none)->∀b∈fp,FpOk X L H' b:=λhn b hb=>⟨hn b hb,(f2 b hb).2⟩;refine codeAny_forLoop_any (λn s'=>∃i σ' H',Inv X L σ' H' s'/\tn i s'.heap/\(∀b∈fp,H' b=none)/\W i n σ' H') ?_ m0 ⟨0,σ,H2,I2,af,λb hb=>(f2 b hb).1,w0⟩;rintro n s3 ⟨i,σ3,H3,I3,ad,ae,w3⟩
 rcases turn i n σ3 H3 w3 with ⟨stop,qn⟩ |⟨go,N,hN,step⟩
 ·refine yE hp (thn (T.done X rfl rfl rfl hc i L s3 σ3 H3 X.xe I3 (Y ae) ad stop) λr s4 ⟨hr,I4⟩=>?_);subst hr;exact wpAny_execs_nil ⟨σ3,H3,I4,qn⟩
 ·refine yE hp (thn (T.item X rfl rfl rfl hc i L s3 σ3 H3 X.xe I3 (Y ae) ad go) λr s4 ⟨u, hr, h4⟩ => ?_);subst hr;refine yE hp (thn h4 λ_ s5 ⟨x,H5,I5,r5,y5,ac,ag⟩=>?_);have I5':=I5.pinned (Y ag) (T.obj _ _ ac);refine yE hp (thn (hg _ s5 σ3 H5 x u _ I5' r5 (step x H5 y5)) λ_ s6 ⟨σ6,H6,I6,q6⟩=>?_);refine yE hp (thn (hb _ s6 σ6 H6 _ I6 q6) λf s7 q7=>?_)
  have aa:∀{O:St}{H7:Hp},Inv X (L++XC fp s5.heap) O H7 s7->N O H7->∃m,m<n/\∃i σ' H',Inv X L σ' H' s7/\tn i s7.heap/\(∀b∈fp,H' b=none)/\W i m σ' H':=λ{O H7} I7 n7=>by
   obtain⟨m',hm,w7⟩:=hN O H7 n7;refine⟨m',hm,i+1,O,H7,I7.unpinned,T.keep _ _ _ ac λb hb o e=>(I7.pin (b,o) (zp _ (zp _ (vZ hb e)))).1,λb hb=>?_,w7⟩;obtain⟨o,e,d⟩:=T.obj _ _ ac b hb;exact(I7.pin (b,o) (zp _ (zp _ (vZ hb e)))).2.1
  cases f with
  |next=>obtain⟨O,H7,I7,n7⟩:=q7;exact aa I7 n7
  |cont=>obtain⟨O,H7,I7,n7⟩:=q7;exact aa I7 n7
  |brk=>obtain⟨O,H7,I7,q7⟩:=q7;exact⟨O,H7,I7.unpinned,q7⟩
  |ret v=>obtain⟨x7,O,H7,I7,r7,q7⟩:=q7;exact⟨x7,O,H7,I7.unpinned,r7,q7⟩
end
abbrev R2:=V->V->Hp->VK->Prop
def OpR(X:Cx)(f:Value->Value->Sem Value)(r:R2):Prop:=
 ∀(J:QqL) (s:Shared) (σ:St) (H:Hp) (x y:V) (v u:Value) (Q:VK),Inv X J σ H s->RelV x v->RelV y u->r x y H Q ->
  wpAny (model X.prog X.w) X.A (f v u) (EP X J σ Q) X.xe s
def UnR(X:Cx)(f:Value->Sem Value)(r:V->Hp->VK->Prop):Prop:=
 ∀(J:QqL) (s:Shared) (σ:St) (H:Hp) (x:V) (v:Value) (Q:VK),Inv X J σ H s->RelV x v->r x H Q ->
  wpAny (model X.prog X.w) X.A (f v) (EP X J σ Q) X.xe s
def kW(X:Cx)(f:Value)(r:List V->Hp->VK->Prop):Prop:=
 ∀(J:QqL) (s:Shared) (σ:St) (H:Hp) (xs:List V) (us:QqW) (Q:VK),Inv X J σ H s->Vals xs us->r xs H Q ->
  wpAny (model X.prog X.w) X.A (call f us) (EP X J σ Q) X.xe s
def tOp(r:R2)(J tb:TE):TE:=λσ H Q=>J σ H λx O=>tb σ O λy L=>r x y L Q
def tUn(r:V->Hp->VK->Prop)(J:TE):TE:=λσ H Q=>J σ H λx L=>r x L Q
def rI(C:Int->Int->Prop)(g:Int->Int->V):R2:=λx y H Q=>∃i j,x=.int i/\y=.int j/\C i j/\Q (g i j) H
def rI0(g:Int->Int->V):R2:=λx y H Q=>∃i j,x=.int i/\y=.int j/\Q (g i j) H
def rU(g:Int->V):V->Hp->VK->Prop:=λx H Q=>∃i,x=.int i/\Q (g i) H
section
variable {X:Cx}{a b c:Expr}{ta tb tc:TE}{pos:Pos}
def xG7(ha:PE X a ta)(hb:PE X b tb){J:QqL}{s:Shared}{σ:St}{H:Hp}{R:V->V->Hp->Prop}(I:Inv X J σ H s)
  (h:ta σ H λx W=>tb σ W λy L=>R x y L) {Q:QqV}{f:Value->Value->Sem Value}
  (hf:∀v u O x y L,Inv X J σ L O->RelV x v->RelV y u->R x y L->wpAny (model X.prog X.w) X.A (f v u) Q X.xe O) :
  wpAny (model X.prog X.w) X.A (eval a X.env) (λv s₁=>wpAny (model X.prog X.w) X.A (eval b X.env) (λu Y=>wpAny (model X.prog X.w) X.A (f v u) Q X.xe Y) X.xe s₁) X.xe s:=by
 refine thn (ha J s σ H _ I h) λv s1 ⟨x,W,I1,r1,q1⟩=>?_;refine thn (hb J s1 σ W _ I1 q1) λu O ⟨y,L,I2,r2,q2⟩=>?_;exact hf v u O x y L I2 r1 r2 q2
def xE0{op:Operator}{r:R2}(Y:OpR X (binaryOp op) r)(ha:PE X a ta)(hb:PE X b tb):PE X (.BinOp a op b pos) (tOp r ta tb):=by
 intro J s σ H Q I h;exact wpAny_BinOp (xG7 ha hb I h λv u L x y H2 I2 W O q=>Y J L σ H2 x y v u Q I2 W O q)
def xD9{op:UnaryOp}{r:V->Hp->VK->Prop}(Y:UnR X (unaryOp op) r)(ha:PE X a ta):PE X (.UnaryOp op a pos) (tUn r ta):=by
 intro J s σ H Q I h;exact UnaryOp_ (thn (ha J s σ H _ I h) λv L ⟨x,H1,I1,O,W⟩=>Y J L σ H1 x v Q I1 O W)
def opI{f:Value->Value->Sem Value}{C:Int->Int->Prop}{g:Int->Int->Int}
  (rule:∀(i j:Int) (t u:Tok) (s:Shared) (Q:QqV) (E:QqV),C i j->Q (.int (g i j) s.toks) { s with toks:=s.toks+1 }->wpAny (model X.prog X.w) X.A (f (.int i t) (.int j u)) Q E s) :
  OpR X f (rI C λi j=>.int (g i j)):=by
 intro J s σ H x y v u Q I O L h;obtain⟨i,j,rfl,rfl,W,q⟩:=h;obtain⟨t,rfl⟩:=O;obtain⟨t',rfl⟩:=L;exact rule i j t t' s _ _ W ⟨.int (g i j),H,I.tok _,⟨_,rfl⟩,q⟩
def xN0{f:Value->Value->Sem Value}{g:Int->Int->Int}
  (rule:∀(i j:Int) (t u:Tok) (s:Shared) (Q:QqV) (E:QqV),Q (.int (g i j) s.toks) { s with toks:=s.toks+1 }->wpAny (model X.prog X.w) X.A (f (.int i t) (.int j u)) Q E s) :
  OpR X f (rI0 λi j=>.int (g i j)):=by
 intro J s σ H x y v u Q I O L h;obtain⟨i,j,rfl,rfl,q⟩:=h;obtain⟨t,rfl⟩:=O;obtain⟨t',rfl⟩:=L;exact rule i j t t' s _ _ ⟨.int (g i j),H,I.tok _,⟨_,rfl⟩,q⟩
def xE5{f:Value->Value->Sem Value}{g:Int->Int->Bool}
  (rule:∀(i j:Int) (t u:Tok) (s:Shared) (Q:QqV) (E:QqV),Q (.bool (g i j)) s->wpAny (model X.prog X.w) X.A (f (.int i t) (.int j u)) Q E s) :
  OpR X f (rI0 λi j=>.bl (g i j)):=by
 intro J s σ H x y v u Q I O L h;obtain⟨i,j,rfl,rfl,q⟩:=h;obtain⟨t,rfl⟩:=O;obtain⟨t',rfl⟩:=L;exact rule i j t t' s _ _ ⟨.bl (g i j),H,I,rfl,q⟩
def xP0(i j:Int):Prop:=0<j/\j<1073741824
def xO9(i j:Int):Prop:=0<=j/\j<=1000000/\i.natAbs<2^64
def CMul(i j:Int):Prop:=(-(2^64)<i/\i<2^64)\/(-(2^64)<j/\j<2^64)
def CMul.ok{i j:Int}(h:CMul i j):IntMulOk i j:=by
 rcases h with ⟨h1,J⟩ |⟨h1,J⟩
 ·exact .of_left (intBits_le_64 h1 J)
 ·exact .of_right (intBits_le_64 h1 J)
def xg9:OpR X (binaryOp .Add) (rI0 λi j=>.int (i+j)):=xN0 λ_ _ _ _ _ _ _ q=>add_int q
def xg2:OpR X (binaryOp .Sub) (rI0 λi j=>.int (i-j)):=xN0 λ_ _ _ _ _ _ _ q=>sub_int q
def xg4:OpR X (binaryOp .Mult) (rI CMul λi j=>.int (i*j)):=opI λ_ _ _ _ _ _ _ J q=>mul_int q J.ok
def zR1:OpR X (binaryOp .FloorDiv) (rI xP0 λi j=>.int (i/j)):=opI λi j _ _ _ _ _ J q=>by
 have h1:(0:Int)<j:=J.1;have L:j<1073741824:=J.2
 exact floordiv_int w5 (by rw[Int.fdiv_eq_ediv_of_nonneg i w5];exact q) (.inl (PyProof.noPylong_small w5))
def xg5:OpR X (binaryOp .Mod) (rI (λ_ j=>0<j) λi j=>.int (i%j)):=opI λi j _ _ _ _ _ J q=>by
 have h1:(0:Int)<j:=J
 exact mod_int' w5 (by rw[Int.fmod_eq_emod_of_nonneg i w5];exact q)
def xg3:OpR X (binaryOp .Pow) (rI xO9 λi j=>.int (i^j.toNat)):=opI λ_ _ _ _ _ _ _ J q=>pow_int_small J.1 J.2.1 J.2.2 q
def unI{f:Value->Sem Value}{g:Int->Int}
  (rule:∀(i:Int) (t:Tok) (s:Shared) (Q:QqV) (E:QqV),Q (.int (g i) s.toks) { s with toks:=s.toks+1 }->wpAny (model X.prog X.w) X.A (f (.int i t)) Q E s) :
  UnR X f (rU λi=>.int (g i)):=by
 intro J s σ H x v Q I L h;obtain⟨i,rfl,q⟩:=h;obtain⟨t,rfl⟩:=L;exact rule i t s _ _ ⟨.int (g i),H,I.tok _,⟨_,rfl⟩,q⟩
def zY3:UnR X (unaryOp .USub) (rU λi=>.int (-i)):=unI λ_ _ _ _ _ q=>neg_int q
end
def xu7:V->V->Bool
 |.non,.non=>true |.non,.int _=>true |.int _,.non=>true |.non,.bl _=>true |.bl _,.non=>true |.non,.str _=>true |.str _,.non=>true
 |.int _,.int _=>true |.bl _,.bl _=>true |.str _,.str _=>true |.byt _,.byt _=>true
 |.int _,.str _=>true |.str _,.int _=>true |.bl _,.str _=>true |.str _,.bl _=>true
 |_,_=>false
def rEq:R2:=λx y H Q=>xu7 x y=true/\Q (.bl (decide (x=y))) H
def zV6{i j:Int}:decide (V.int i=V.int j)=(i == j):=by
 rw[wx];simp
def xm3{i j:Bool}:decide (V.bl i=V.bl j)=(i == j):=by
 rw[wx];simp
def zV5{i j:Str}:decide (V.str i=V.str j)=(i == j):=by
 rw[wx];simp
def zV7{i j:Array UInt8}:decide (V.byt i=V.byt j)=(i.toList == j.toList):=by
 rw[wx];cases i;cases j;simp
section
variable {X:Cx}{a b c:Expr}{ta tb tc:TE}{pos:Pos}
def kG{J:QqL}{σ:St}{H:Hp}{s:Shared}{Q:VK}{k k':Bool}(I:Inv X J σ H s)(q:Q (.bl k) H)(e:k=k'):EP X J σ Q (.bool k') s:=by
 subst e;exact⟨.bl k,H,I,rfl,q⟩
def Wv:OpR X (compareOp .Eq) rEq:=by
 intro O s σ H x y v u Q I L J h;obtain⟨hs,q⟩:=h
 cases x with
 |non=>
  cases L
  cases y with
  |non=>cases J;exact PySem.EqNone.eq_none_none (kG I q (by simp))
  |bl j=>cases J;exact PySem.EqNone.eq_none_bool (kG I q (by simp))
  |int j=>obtain⟨t',rfl⟩:=J;exact PySem.EqNone.eq_none_int (kG I q (by simp))
  |str j=>obtain⟨t',rfl⟩:=J;exact PySem.EqNone.eq_none_str (kG I q (by simp))
  |_=>exact absurd (show false=true from hs) zJ
 |bl i=>
  cases L
  cases y with
  |non=>cases J;exact PySem.EqNone.eq_bool_none (kG I q (by simp))
  |bl j=>cases J;exact eq_bool (kG I q xm3)
  |str j=>obtain⟨t',rfl⟩:=J;exact PySem.EqMixed.eq_bool_str (kG I q (by simp))
  |_=>exact absurd (show false=true from hs) zJ
 |int i=>
  obtain⟨t,rfl⟩:=L
  cases y with
  |non=>cases J;exact PySem.EqNone.eq_int_none (kG I q (by simp))
  |int j=>obtain⟨t',rfl⟩:=J;exact eq_int (kG I q zV6)
  |str j=>obtain⟨t',rfl⟩:=J;exact PySem.EqMixed.eq_int_str (kG I q (by simp))
  |_=>exact absurd (show false=true from hs) zJ
 |str i=>
  obtain⟨t,rfl⟩:=L
  cases y with
  |non=>cases J;exact PySem.EqNone.eq_str_none (kG I q (by simp))
  |bl j=>cases J;exact PySem.EqMixed.eq_str_bool (kG I q (by simp))
  |int j=>obtain⟨t',rfl⟩:=J;exact PySem.EqMixed.eq_str_int (kG I q (by simp))
  |str j=>obtain⟨t',rfl⟩:=J;exact eq_str (kG I q zV5)
  |_=>exact absurd (show false=true from hs) zJ
 |byt i=>
  obtain⟨t,rfl⟩:=L
  cases y with
  |byt j=>obtain⟨t',rfl⟩:=J;exact W.eq_bytes (kG I q zV7)
  |_=>exact absurd (show false=true from hs) zJ
 |_=>cases y<;>exact absurd (show false=true from hs) zJ
def zR0:OpR X (compareOp .Lt) (rI0 λi j=>.bl (decide (i<j))):=xE5 λ_ _ _ _ _ _ _ q=>lt_int q
def XH:OpR X (compareOp .Gt) (rI0 λi j=>.bl (decide (j<i))):=xE5 λ_ _ _ _ _ _ _ q=>gt_int q
def xE4:OpR X (compareOp .GtE) (rI0 λi j=>.bl (decide (j<=i))):=xE5 λ_ _ _ _ _ _ _ q=>ge_int q
def jd:OpR X (compareOp .Is) (λx y H Q=>y=.non/\Q (.bl (decide (x=.non))) H):=by
 intro L s σ H x y v u Q I J O h;obtain⟨rfl,q⟩:=h;cases O;refine is_none_gen (kG I q ?_)
 cases x<;>first
  |(cases J;rfl)
  |(obtain⟨t,rfl⟩:=J;rfl)
def Yw:OpR X (compareOp .IsNot) (λx y H Q=>y=.non/\Q (.bl (!decide (x=.non))) H):=by
 intro L s σ H x y v u Q I J O h;obtain⟨rfl,q⟩:=h;cases O;refine isnot_none_gen (kG I q ?_)
 cases x<;>first
  |(cases J;rfl)
  |(obtain⟨t,rfl⟩:=J;rfl)
def wK(b:Expr){op:CmpOp}(h:op≠.In:=by decide)(J:op≠.NotIn:=by decide):behindInMarks op b=false:=by
 have O:(op == CmpOp.In)=false:=by cases op<;>first |rfl |exact absurd rfl h
 have L:(op == CmpOp.NotIn)=false:=by cases op<;>first |rfl |exact absurd rfl J
 cases b<;>simp[behindInMarks,O,L]
def zQ3{op:CmpOp}{r:R2}(Y:OpR X (compareOp op) r)(ha:PE X a ta)(hb:PE X b tb)(hm:behindInMarks op b=false):PE X (.Compare a [op] [b] pos) (tOp r ta tb):=by
 intro J s σ H Q I h;exact wpAny_Compare1 (xG7 ha hb I h λv u L x y H2 I2 W O q=>Y J L σ H2 x y v u Q I2 W O q) hm
def zZ0(t:TE):TT:=λσ H Q=>t σ H λx H'=>∃k,x=.bl k/\Q k H'
def zk9{op:CmpOp}{r:R2}(ho:OpR X (compareOp op) r)(ha:PE X a ta)(hb:PE X b tb)(hm:behindInMarks op b=false):PT X (.Compare a [op] [b] pos) (zZ0 (tOp r ta tb)):=by
 intro J s σ H Q I h
 refine wpAny_isTrue_Compare1 (thn (ha J s σ H _ I h) λv O ⟨x,H1,I1,r1,q1⟩=>thn (hb J O σ H1 _ I1 q1) λu L ⟨y,H2,I2,Y,q2⟩=>
  thn (ho J L σ H2 x y v u _ I2 r1 Y q2) λc s3 ⟨z,H3,I3,W,k,e,q3⟩=>?_) hm
 subst e;cases W;exact wE ⟨H3,I3,q3⟩
def Vg:(sizeLine:Nat)<2^63:=by rw[sizeLine_eq];decide
def Ye{x:V}{us:QqW}(r:Vals [x] us):∃u,us=[u]/\RelV x u:=by
 cases r with
 |cons L J=>cases J;exact⟨_,rfl,L⟩
def zM3{x y:V}{us:QqW}(r:Vals [x,y] us):∃u w',us=[u,w']/\RelV x u/\RelV y w':=by
 cases r with
 |cons W O=>
  cases O with
  |cons L J=>cases J;exact⟨_,_,rfl,W,L⟩
def za7:kW X (.builtin "abs") (λxs H Q=>∃i,xs=[.int i]/\Q (.int (if i<0 then -i else i)) H):=by
 intro J s σ H xs us Q I r h;obtain⟨i,rfl,q⟩:=h;obtain⟨u,rfl,t,rfl⟩:=Ye r
 exact call_abs_int λu L=>⟨.int (if i<0 then -i else i),H,I.tok _,⟨_,rfl⟩,q⟩
def KO(O:X.calm=true):kW X (.builtin "max") (λxs H Q=>∃i j,xs=[.int i,.int j]/\Q (.int (if j > i then j else i)) H):=by
 intro L s σ H xs us Q I r h;obtain⟨i,j,rfl,q⟩:=h;obtain⟨u,w',rfl,⟨t,rfl⟩,⟨t',rfl⟩⟩:=zM3 r;refine max_two_ints (I.ok.hd O) λh' W k=>⟨_,H,I.kept k,?_,q⟩
 by_cases J:j > i
 ·rw[if_pos J,if_pos J];exact⟨_,rfl⟩
 ·rw[if_neg J,if_neg J];exact⟨_,rfl⟩
def Wj(O:X.calm=true):kW X (.builtin "min") (λxs H Q=>∃i j,xs=[.int i,.int j]/\Q (.int (if j<i then j else i)) H):=by
 intro L s σ H xs us Q I r h;obtain⟨i,j,rfl,q⟩:=h;obtain⟨u,w',rfl,⟨t,rfl⟩,⟨t',rfl⟩⟩:=zM3 r;refine min_two_ints (I.ok.hd O) λh' W k=>⟨_,H,I.kept k,?_,q⟩
 by_cases J:j<i
 ·rw[if_pos J,if_pos J];exact⟨_,rfl⟩
 ·rw[if_neg J,if_neg J];exact⟨_,rfl⟩
def ZZ:kW X (.type "int") (λxs H Q=>(∃i,xs=[.int i]/\Q (.int i) H)\/∃k,xs=[.bl k]/\Q (.int (if k then 1 else 0)) H):=by
 intro J s σ H xs us Q I r h
 rcases h with ⟨i,rfl,q⟩ |⟨k,rfl,q⟩
 ·obtain⟨u,rfl,t,rfl⟩:=Ye r;exact call_int_int ⟨.int i,H,I,⟨_,rfl⟩,q⟩
 ·obtain ⟨u, rfl, L⟩ := Ye r;cases L
  exact call_int_bool ⟨.int (if k then 1 else 0),H,I.tok _,⟨_,rfl⟩,q⟩
end
section
variable {prog:Program}{w:World}{A:Around}{E:QqV}{s:Shared}{K:W.Frag}{x dx C f:Addr}{mA:QqM}{name:Str}{v:Value}
end
def RelO.some_of{v:V}{o:Option Value}(r:RelO (some v) o):∃u,o=some u/\RelV v u:=by
 cases o with
 |none=>exact(show False from r).elim
 |some u=>exact⟨u,rfl,r⟩
section
variable {P:Program}{w:World}{H H':Hp}{h h':Heap}{a C dx:Addr}{fs fs':List (Str × V)}
end
section
variable {X:Cx}{pins:QqL}{σ:St}{H:Hp}{s:Shared}{a C dx:Addr}{fs:List (Str × V)}{f:Str}{v:V}{A:Around}{E:QqV}
end
section
variable {X:Cx}{o e value:Expr}{f:Str}{pos pos' tpos:Pos}{ta tv:TE}
end
section
variable {X:Cx}{pins:QqL}{σ:St}{H:Hp}{s:Shared}{A:Around}{E:QqV}{Q:QqV}{c:Value}{b:Bool}
end
structure Room(k:Nat)(A:Around):Prop where
 hd:A.handled=none
 dp:A.depth+3*k+5<recursionLimit
 un:A.units+16*k+200<cLine
 gd:A.guards=some []
def Room.mono{j k:Nat}{A:Around}(r:Room k A)(h:j<=k):Room j A:=⟨r.hd,by have:=r.dp;lia,by have:=r.un;lia,r.gd⟩
def Room.deeper{k:Nat}{A:Around}(r:Room (k+1) A)(env:Env):Room k (A.deeper env):=
 ⟨r.hd,by have:=r.dp;show A.depth+1+3*k+5<_;lia,by have:=r.un;show A.units+3+16*k+200<_;lia,r.gd⟩
def Room.in1{k:Nat}{A:Around}(r:Room (k+1) A):Room k A.in1:=
 ⟨r.hd,by have:=r.dp;show A.depth+3*k+5<_;lia,by have:=r.un;show A.units+1+16*k+200<_;lia,r.gd⟩
def Room.depth{k:Nat}{A:Around}(r:Room k A):A.depth<recursionLimit:=by have:=r.dp;lia
def Room.units{k:Nat}{A:Around}(r:Room k A):A.units+64<cLine:=by have:=r.un;lia
def xP8:TA:=λ_ H Q=>Q [] H
def xu2(J:TE)(tr:TA):TA:=λσ H Q=>J σ H λx O=>tr σ O λxs L=>Q (x::xs) L
section
variable {X:Cx}{e:Expr}{es:List Expr}{te:TE}{t:TA}{pos:Pos}
def YS:PA X [] xP8:=λ_ _ _ _ H Q I h=>Calls.spliced_nil ⟨[],H,I,.nil,h⟩
def jr(ha:PE X e te)(hr:PA X es t)(hs:starEach (e::es) X.env=(false,eval e X.env)::starEach es X.env:=by rfl):PA X (e::es) (xu2 te t):=by
 intro pos J s σ H Q I h;rw[hs];show wpAny _ _ (spliced ((false,eval e X.env)::backTo pos (starEach es X.env))) _ _ s;refine Calls.spliced_cons (thn (ha J s σ H _ I h) λu L ⟨x,H1,I1,W,q1⟩=>?_);exact thn (hr pos J L σ H1 _ I1 q1) λus s2 ⟨xs,H2,I2,O,Y⟩=>⟨x::xs,H2,I2,.cons W O,Y⟩
def xP3(t:TA):TE:=λσ H Q=>t σ H λxs J=>xs.length<=sizeLine/\∀p,J p=none->Q (.ref p) (upd J p (.tup xs))
def xP9(t:TA):TE:=λσ H Q=>t σ H λxs J=>xs.length<=sizeLine/\∀p,J p=none->Q (.ref p) (upd J p (.lst xs))
def zJ5{Y}(h:PA X es t):PE X (.Tuple es Y pos) (xP3 t):=by
 intro J s σ H Q I hq
 refine wpAny_Tuple_spliced (thn (h pos J s σ H _ I hq) λus L ⟨xs,W,O,r,z,q⟩=>⟨by rw[<- r.length];exact z,?_⟩)
 have hf:W L.heap.objs.size=none:=O.hok.fresh (zn _);refine⟨.ref L.heap.objs.size,upd W L.heap.objs.size (.tup xs),O.laid (t':=L.toks) (λb u e=>ze _ e) (zn _) ?_,rfl,q _ hf⟩;exact⟨z,us,r,⟨_,zr _ rfl,rfl,_,rfl⟩⟩
def zl8(h:PA X es t):PE X (.List es pos) (xP9 t):=by
 intro J s σ H Q I Y
 refine wpAny_List_spliced (thn (h pos J s σ H _ I Y) λus L ⟨xs,W,O,r,z,q⟩=>⟨by rw[<- r.length];exact z,?_⟩)
 have hf:W L.heap.objs.size=none:=O.hok.fresh (zn _);refine⟨.ref L.heap.objs.size,upd W L.heap.objs.size (.lst xs),O.laid (t':=L.toks) (λb u e=>ze _ e) (zn _) ?_,rfl,q _ hf⟩;exact⟨z,us,0,r,zr _ rfl⟩
end
abbrev Sp:=List V->Hp->VK->XK->Prop
abbrev CXT:=List Env->Hp->Shared->XK->Value->Shared->Prop
structure Env0(P:Program)(w:World)(K:W.Frag)(mg:QqM)(base:Heap)(A:Around)(outer:List Env)(s:Shared)(H:Hp):Prop where
 frames:A.frames=some outer
 mod:Mod K mg base
 bs:∀b o,base.get? b=some o->s.heap.get? b=some o/\H b=none
 bsz:base.objs.size<=s.heap.objs.size
 funs:s.heap.FunFrames base outer
 frf:∀b∈frs outer,H b=none
 hok:HOk P w H s.heap
 bare:AllBare s.gens
def CE(outer:List Env)(P:Program)(w:World)(H:Hp)(s:Shared)(Q:VK)(u:Value)(s':Shared):Prop:=
 ∃v H',s'.os=s.os/\AllBare s'.gens/\Un (frs outer) [] H H' s.heap s'.heap/\HOk P w H' s'.heap/\RelV v u/\Q v H'
def CR(CX:CXT)(outer:List Env)(P:Program)(w:World)(H:Hp)(s:Shared)(Q:VK)(E:XK)(r:Result)(s':Shared):Prop:=
 match r with
 |.ok (.ret u)=>CE outer P w H s Q u s'
 |.ok _=>False
 |.error e=>CX outer H s E e s'
structure FnOk(P:Program)(w:World)(K:W.Frag)(mg:QqM)(base:Heap)(CX:CXT)(k:Nat)(f:Addr)(fd:FuncData)(ps:List Str)(sp:Sp):Prop where
 len:∀vs H Q E,sp vs H Q E->vs.length=ps.length
 run:∀(A:Around) (outer:List Env) (s:Shared) (H:Hp) (args:Args) (us:QqW) (vs:List V) (Q:VK) (E:XK),Room k A->Env0 P w K mg base A outer s H->BindsTo s fd args (ps.zip us)->Vals vs us->sp vs H Q E ->
  codeAny (model P w) A (.call (.ref f) args) (CR CX outer P w H s Q E) s
section
variable {X:Cx}{pins:QqL}{σ:St}{H:Hp}{s s':Shared}
def Inv.env0(I:Inv X pins σ H s):Env0 X.prog X.w X.K X.mg X.base X.A X.stack s H:=
 ⟨I.ok.frames,I.ok.mod,I.bs,zD I.ok.bsz I.sz,I.stack,I.stkFree,I.hok,I.bare⟩
def Inv.after{Q:VK}{u:Value}(I:Inv X pins σ H s)(h:CE X.stack X.prog X.w H s Q u s'):EP X pins σ Q u s':=by
 obtain⟨v,H',os,bare,un,hok,r,q⟩:=h;obtain⟨J,g,d,t,os'⟩:=s';obtain rfl:os'=s.os:=os
 exact⟨v,H',I.call (h':=J) (g':=g) (d':=d) (t':=t) (ch:=[]) un hok bare (λb z=>absurd z (by simp)),r,q⟩
end
def xu3(sp:Sp)(J:List V)(E:XK)(t:TA):TE:=λσ H Q=>t σ H λvs L=>sp (vs++J) L Q E
def Binds(K:W.Frag)(fd:FuncData)(ps:List Str)(ds:QqW):Prop:=
 ∀(s:Shared) (us:QqW),K.In s.heap->(us++ds).length=ps.length->BindsTo s fd ⟨us,[]⟩ (ps.zip (us++ds))
def Binds.all{K:W.Frag}{fd:FuncData}{ps:List Str}(h:∀us:List Value,us.length=ps.length->bindArgs fd ⟨us,[]⟩=pure (ps.zip us)):Binds K fd ps []:=λs us _ J=>by
 rw[ww] at J ⊢;exact .of_eq (h us J)
def zw5(CX:CXT)(X:Cx)(E:XK):Prop:=∀(J:QqL) (σ:St) (H:Hp) (s:Shared) (e:Value) (s':Shared),Inv X J σ H s->CX X.stack H s E e s'->X.xe e s'
section
variable {X:Cx}{CX:CXT}{k:Nat}{f C:Addr}{fd:FuncData}{ps:List Str}{sp:Sp}{dvs:List V}{ds:QqW}{E:XK}{x m:Str}{p pos apos:Pos}{e o:Expr}{es:List Expr}{ta:TE}{t:TA}
def xa9{J:QqL}{σ:St}{H:Hp}{s:Shared}{Q:VK}{us:QqW}{vs:List V}(F:FnOk X.prog X.w X.K X.mg X.base CX k f fd ps sp)(W:Room k X.A)(hb:Binds X.K fd ps ds)(hd:Vals dvs ds)(hx:zw5 CX X E)
  (I:Inv X J σ H s) (r:Vals vs us) (h:sp (vs++dvs) H Q E):wpAny (model X.prog X.w) X.A (call (.ref f) us) (EP X J σ Q) X.xe s:=by
 have O:Vals (vs++dvs) (us++ds):=r.append hd
 have Y:(us++ds).length=ps.length:=by rw[<- O.length];exact F.len _ _ _ _ h
 refine wpAny_call (codeAny_mono (F.run X.A X.stack s H ⟨us,[]⟩ (us++ds) (vs++dvs) Q E W I.env0 (hb s us I.kIn Y) O h) λr s' L=>?_)
 cases r with
 |error e=>exact hx J σ H s e s' I L
 |ok fl=>
  cases fl with
  |ret u=>exact I.after L
  |next=>exact False.elim L
  |brk=>exact False.elim L
  |cont=>exact False.elim L
def VT(F:FnOk X.prog X.w X.K X.mg X.base CX k f fd ps sp)(hr:Room k X.A)(hg:Gl X x)(hm:X.mg x=some (.ref f))(hk:W.keepIn X.K (.ref f)=true)(hb:Binds X.K fd ps ds)(hd:Vals dvs ds)(hx:zw5 CX X E)
  (ha:PA X (e::es) t) (O:(x == ("__debug__" : Str))=false:=by decide) (he:starEach (e::es) X.env=(false,eval e X.env)::starEach es X.env:=by rfl) (L:(backTo pos (starEach es X.env)).any (·.1)=false:=by rfl) :
  PE X (.Call (.Name x p) (e::es) [] pos) (xu3 sp dvs E t):=by
 intro J s σ H Q I h;refine wpAny_Call_Name_kw (zp4 I hg hm ?_ O);refine W.callWith_K (h₀:=X.base) I.ok.mod.kin hk (thn (ha pos J s σ H _ I h) λus s1 ⟨vs,H1,Y,r,q⟩=>⟨Y.kIn,?_⟩) he L;exact xa9 F hr hb hd hx Y r q
end
section
variable {X:Cx}{CX:CXT}{k:Nat}{f C:Addr}{fd:FuncData}{ps ks:List Str}{sp:Sp}{E:XK}{x m:Str}{p pos apos kpos:Pos}{e o:Expr}{es:List Expr}{kws:List Keyword}{te ta:TE}{t tk:TA}{nm:Option Str}
variable {g:List Value->List Value->List Value}{gV:List V->List V->List V}
end
structure FnScope(N P:List Str)(sc:Scope):Prop where
 kind:sc.kind=.function
 co:sc.isCoroutine=false
 gen:sc.isGenerator=false
 nd:N.Nodup
 pre:N.take P.length=P
 par:∀x∈P,sc.names.lookup x=some .local\/sc.names.lookup x=some .cell
 nofree:∀y∈sc.names,y.2≠.free
theorem KQ{kindOf:Str->Option NameKind}{x:Str}:∀{binds:List (Str × Value)}{m:QqM},(∀v,(x,v) ∉ binds)->bindL kindOf binds m x=m x
 |[],_,_=>rfl
 | (n, v) :: r, m, h => by
  unfold bindL;rw[KQ λw J=>h w (zj _ J)]
  split
  ·have : x ≠ n := by rintro rfl; exact h v xo
   simp[this]
  ·rfl
theorem KS{kindOf:Str->Option NameKind}{x:Str}:∀{binds:List (Str × Value)}{m:QqM},(∀v,(x,v) ∉ binds)->bindC kindOf binds m x=m x
 |[],_,_=>rfl
 | (n, v) :: r, m, h => by
  unfold bindC;rw[KS λw J=>h w (zj _ J)]
  split
  ·rfl
  ·have : x ≠ n := by rintro rfl; exact h v xo
   simp[this]
def KR{kindOf:Str->Option NameKind}{x:Str}{v:Value}:∀{P:List Str}{vs:QqW}{i:Nat}{m:QqM},P.Nodup->P[i]?=some x->vs[i]?=some v->kindOf x=some .local ->
  bindL kindOf (P.zip vs) m x=some v
 |[],_,_,_,_,h,_,_=>by simp at h
 |_::_,[],_,_,_,_,h,_=>by simp at h
 |p::P,w::vs,0,m,nd,h1,J,hk=>by
  simp at h1 J;subst h1;subst J;show bindL kindOf ((p,w)::P.zip vs) m p=_;unfold bindL;rw[KQ λv L=>(xu.mp nd).1 (of_mem_zip L).1,if_pos hk];simp
 |p::P,w::vs,i+1,m,nd,h1,J,hk=>by
  show bindL kindOf ((p,w)::P.zip vs) m x=_;unfold bindL
  exact KR (i:=i) (xu.mp nd).2 (by simpa using h1) (by simpa using J) hk
def KU{kindOf:Str->Option NameKind}{x:Str}{v:Value}:∀{P:List Str}{vs:QqW}{i:Nat}{m:QqM},P.Nodup->P[i]?=some x->vs[i]?=some v->kindOf x≠some .local ->
  bindC kindOf (P.zip vs) m x=some v
 |[],_,_,_,_,h,_,_=>by simp at h
 |_::_,[],_,_,_,_,h,_=>by simp at h
 |p::P,w::vs,0,m,nd,h1,J,hk=>by
  simp at h1 J;subst h1;subst J;show bindC kindOf ((p,w)::P.zip vs) m p=_;unfold bindC;rw[KS λv L=>(xu.mp nd).1 (of_mem_zip L).1,if_neg hk];simp
 |p::P,w::vs,i+1,m,nd,h1,J,hk=>by
  show bindC kindOf ((p,w)::P.zip vs) m x=_;unfold bindC
  exact KU (i:=i) (xu.mp nd).2 (by simpa using h1) (by simpa using J) hk
def start(N:List Str)(vs:List V):St:=vs.map some++replicate (N.length-vs.length) none
def zx0(CX:CXT)(P:Program)(w:World)(K:W.Frag)(mg:QqM)(base:Heap)(N:List Str)(L:Str)(J:Scope)(f:Addr)(O:Value)(A:Around)(outer:List Env)(s:Shared)(H:Hp)(E:XK):Cx where
 prog:=P
 w:=w
 K:=K
 mg:=mg
 base:=base
 A:=A.deeper (envOfC L J s.heap.objs.size f O)
 N:=N
 s₀:=s
 H₀:=H
 env:=envOfC L J s.heap.objs.size f O
 outer:=outer
 stack:=envOfC L J s.heap.objs.size f O::outer
 ex:=[]
 calm:=true
 fn:=λ_=>true
 pn:=[]
 xe:=λe s'=>wpAny (model P w) (A.deeper (envOfC L J s.heap.objs.size f O)) (leaving (envOfC L J s.heap.objs.size f O) e) (λ_ s''=>CX outer H s E e s'') (λe' s''=>CX outer H s E e' s'') s'
def za5{J:Scope}{n:Nat}{x:Str}(h:J.names.lookup x=some .cell):∃c,(cellsFrom n J.names []).lookup x=some c:=by
 have q:=W.cellsFrom_some J.names n [] (.inl h);exact Option.isSome_iff_exists.mp q
def zq8{CX:CXT}{P:Program}{w:World}{K:W.Frag}{mg:QqM}{base:Heap}{N ps:List Str}{L:Str}{J:Scope}{f:Addr}{cd:Value}{A:Around}{outer:List Env}{s s1:Shared}{H:Hp}{E:XK}{us:QqW}{vs:List V}
  (S:FnScope N ps J) (hd:A.handled=none) (e0:Env0 P w K mg base A outer s H) (hl:vs.length=ps.length) (r:Vals vs us)
  (x:InCallC s s.heap.objs.size (bindL (envOfC L J s.heap.objs.size f cd).kindOf (ps.zip us) λ_=>none) (cellsFrom (s.heap.objs.size+1) J.names []) (bindC (envOfC L J s.heap.objs.size f cd).kindOf (ps.zip us) λ_=>none) s1) :
  Inv (zx0 CX P w K mg base N L J f cd A outer s H E) [] (start N vs) H s1:=by
 have ac:ps.length<=N.length:=by have:=congrArg List.length S.pre;rw[xt] at this;lia
 obtain⟨h1,tk,rfl,hk⟩:=x.done
 have Y:∀b:Addr,b ∉ (zx0 CX P w K mg base N L J f cd A outer s H E).ex:=λb z=>absurd (show b∈([]:List Addr) from z) (by simp)
 refine⟨⟨e0.mod,S.kind,rfl,rfl,zn _,λy z c h1 O=>?_,λy hy=>?_,λy c _ h=>?_,λ_=>hd,Around.frames_deeper e0.frames,.inr ⟨rfl,rfl⟩,λb z=>absurd z (Y b),e0.bs,e0.bsz,λb _ _=>Y b,λb z=>absurd z (Y b),e0.funs,e0.frf⟩,
  rfl,e0.bare,Un.kept hk,⟨_,x.toInCall.ns,λi y v h1 O h3=>?_⟩,λy c h=>⟨_,x.cell y c h⟩,e0.hok.fresh (zn _),λy c h=>?_,λp hp=>absurd (show p∈([]:QqL) from hp) (by simp),e0.hok.kept hk,?_⟩
 ·exact name_of_addr x.apart (PySem.mem_of_lookup h1) (PySem.mem_of_lookup O)
 ·have hy : J.names.lookup y = some .cell \/ J.names.lookup y = some .free := hy
  rcases hy with hy |hy
  ·exact za5 hy
  ·exact absurd rfl (S.nofree _ (PySem.mem_of_lookup hy))
 ·exact yI (x.above y c (PySem.mem_of_lookup h))
 ·have hi : i < vs.length := by
   unfold start at O
   by_cases hi:i<vs.length
   ·exact hi
   ·rw [xk (by simpa using hi)] at O
    rw[xl] at O
    split at O<;>cases O
  have ha:vs[i]?=some v:=by
   unfold start at O
   rw[xB (by simpa using hi),zw] at O
   cases e:vs[i]? with
   |none=>rw[e] at O;cases O
   |some a=>rw[e] at O;cases O;rfl
  obtain⟨u,hu,rv⟩:=r.get ha
  have hp:ps[i]?=some y:=by
   rw[<- S.pre,List.getElem?_take_of_lt w5];exact h1
  have aa:ps.Nodup:=by rw[<- S.pre];exact S.nd.sublist (yO _ _)
  refine⟨u,rv,?_⟩
  rcases S.par y (zQ hp) with k |k
  ·exact .inl ⟨k,KR aa hp hu k⟩
  ·obtain ⟨c, e⟩ := za5 (n := s.heap.objs.size + 1) k;refine .inr ⟨.inl k,c,e,?_⟩;have q:=x.cell y c e
   rw[KU aa hp hu (by show J.names.lookup y≠_;rw[k];decide)] at q
   exact q
 ·exact e0.hok.fresh (yI (x.above y c (PySem.mem_of_lookup h)))
 ·unfold start;show _=N.length;rw[zy,zg,xN];lia
def xl5{CX:CXT}{P:Program}{w:World}{K:W.Frag}{mg:QqM}{base:Heap}{k:Nat}{f:Addr}{name O:Str}{aa:Arguments}{body:List Stmt}{L:Scope}{dV kV af pm Y ct oc:Value}{an od:QqE}
  {ag:Array (Option Value)}{N ps:List Str}{sp:Sp} (lk:K.lookup f=some ⟨oc,od,.func (W.fnOf name O aa body L dV kV af pm an Y ct),ag⟩) (ai:W.codeIn K Y O=true) (S:FnScope N ps L)
  (len:∀vs H Q E,sp vs H Q E->vs.length=ps.length)
  (ad : ∀ (A : Around) (outer : List Env) (s : Shared) (H : Hp) (vs : List V) (Q : VK) (E : XK), Room k (A.deeper (envOfC O L s.heap.objs.size f Y)) -> sp vs H Q E ->
   ∃t,PSs (zx0 CX P w K mg base N O L f Y A outer s H E) body t/\t { nx:=λ_ H'=>Q .non H',rt:=Q } (start N vs) H) :
  FnOk P w K mg base CX (k+1) f (W.fnOf name O aa body L dV kV af pm an Y ct) ps sp:=by
 refine⟨len,λA outer s H args us vs Q E hr e0 hb r ae=>?_⟩;have hl:=len _ _ _ _ ae;have KX:K.In s.heap:=e0.mod.kin.keeps λb o e=>(e0.bs b o e).1;have ah:s.heap.NoLimit:=e0.mod.nolimit.keeps λb o e=>(e0.bs b o e).1
 have ac:∀y∈ps.zip us,L.names.lookup y.1=some .local\/(L.names.lookup y.1=some .cell/\((cellsFrom (s.heap.objs.size+1) L.names []).lookup y.1).isSome=true):=fun⟨n,v⟩ hy=>by
  rcases S.par n (of_mem_zip hy).1 with q |q
  ·exact .inl q
  ·exact .inr ⟨q,W.cellsFrom_some _ _ _ (.inl q)⟩
 refine codeAny_call_function hr.depth (KX _ _ lk) rfl S.co S.gen rfl (W.codeRec_of KX ai) (hb _ _ _ _ ?_);refine wpAny_newFunctionEnv_cells S.kind ac λenv he s1 x=>?_;subst he;refine⟨ah.keeps x.toInCall.keep,codeAny_func ?_⟩;obtain⟨t,ht,hq⟩:=ad A outer s H vs Q E (hr.deeper _) ae;have I:Inv (zx0 CX P w K mg base N O L f Y A outer s H E) [] (start N vs) H s1:=zq8 S hr.hd e0 hl r x;refine wM (ht [] s1 (start N vs) H _ I hq) (λfl s' hs=>?_) λe s' hs=>hs
 have fin:∀{σ':St}{H':Hp}{v:V}{u:Value},Inv (zx0 CX P w K mg base N O L f Y A outer s H E) [] σ' H' s'->RelV v u->Q v H'->CE outer P w H s Q u s':=
  λ{σ' H' v u} J rv q=>⟨v,H',J.os,J.bare,J.base,J.hok,rv,q⟩
 cases fl with
 |ret u=>
  obtain⟨v,σ',H',J,rv,q⟩:=hs;exact fin J rv q
 |next=>
  obtain⟨σ',H',J,q⟩:=hs;exact fin (v:=V.non) (u:=Value.none) J rfl q
 |brk=>
  obtain⟨_,_,_,q⟩:=hs;exact False.elim q
 |cont=>
  obtain⟨_,_,_,q⟩:=hs;exact False.elim q
section
variable {X:Cx}{x:Str}{p pos:Pos}{e:Expr}{es:List Expr}{t:TA}{id T:String}{r:List V->Hp->VK->Prop}
def tCB(r:List V->Hp->VK->Prop)(t:TA):TE:=λσ H Q=>t σ H λvs J=>r vs J Q
def Xg(hc:kW X (.builtin id) r)(hg:Gl X x)(hm:X.mg x=none)(hv:bootBuiltins x=some (.builtin id))(ha:PA X (e::es) t)(hn:x ≠ "__name__" := by decide)(O:(x == ("__debug__" : Str))=false:=by decide)
  (he:starEach (e::es) X.env=(false,eval e X.env)::starEach es X.env:=by rfl) (L:(backTo pos (starEach es X.env)).any (·.1)=false:=by rfl):PE X (.Call (.Name x p) (e::es) [] pos) (tCB r t):=by
 intro J s σ H Q I h;refine wpAny_Call_Name_kw (Kq I hg hm hv ?_ hn O);exact PyProof.Rows.callWith_builtin1 (thn (ha pos J s σ H _ I h) λus W ⟨vs,H1,I1,Y,q1⟩=>hc J W σ H1 vs us Q I1 Y q1) he L
def ZO(hc:kW X (.type T) r)(hg:Gl X x)(hm:X.mg x=none)(hv:bootBuiltins x=some (.type T))(ha:PA X (e::es) t)(hn:x ≠ "__name__" := by decide)(O:(x == ("__debug__" : Str))=false:=by decide)
  (he:starEach (e::es) X.env=(false,eval e X.env)::starEach es X.env:=by rfl) (L:(backTo pos (starEach es X.env)).any (·.1)=false:=by rfl):PE X (.Call (.Name x p) (e::es) [] pos) (tCB r t):=by
 intro J s σ H Q I h;refine wpAny_Call_Name_kw (Kq I hg hm hv ?_ hn O);exact PyProof.Rows.callWith_type1 (thn (ha pos J s σ H _ I h) λus W ⟨vs,H1,I1,Y,q1⟩=>hc J W σ H1 vs us Q I1 Y q1) he L
end
end L2
namespace HT
open PySem PyProof.Rows
def ku:List Int->List Int->Bool
 |[],[]=>false
 |[],_::_=>true
 |_::_,[]=>false
 |x::xs,y::ys=>if x=y then ku xs ys else decide (x<y)
def kZ(x y:Int)(xs ys:List Int):ku (x::xs) (y::ys)=if x=y then ku xs ys else decide (x<y):=rfl
def Uc:ku [] []=false:=rfl
def WE(y:Int)(ys:List Int):ku [] (y::ys)=true:=rfl
def WF(x:Int)(xs:List Int):ku (x::xs) []=false:=rfl
def QU(A:Around)(s:Shared)(a:Int)(t:Tok)(c:Int)(u:Tok):∃e,SeqAt.EqAt A s (.int a t) (.int c u) e/\(e=true↔a=c):=
 ⟨(a == c),SeqAt.EqAt.int_int a t c u,by simp⟩
def zz6(A:Around)(s:Shared)(a:Int)(t:Tok)(c:Int)(u:Tok)(prog:Program)(w:World)(E:QqV)(Q:QqV)(h:Q (.bool (decide (a<c))) s) :
  wpAny (model prog w) A (richCompare .Lt (.int a t) (.int c u)) Q E s:=
 (PyProof.Rows.lt_int h:wpAny (model prog w) A (compareOp .Lt (.int a t) (.int c u)) Q E s)
section
open PySem.SeqAt
open PySem.AutoSeq1 (wpAny_loadPart')
open PySem.MeetsSeq PySem.MeetsSeq2 PySem.MeetsSeq3
def Vu(l b:Addr)(items J:Array Value)(n n2:Nat)(dd ag:QqE)(sl ad:Array (Option Value))(ns ms:List Int)(hi:IntsAre items.toList ns)(hj:IntsAre J.toList ms) :
  Meets (Builtin.«tuple.__lt__» ⟨[.ref l,.ref b],[]⟩)
   (λ_ R s => s.heap.get? l = some { cls := .type "tuple", dict := dd, data := .seq items n, slots := sl } /\ s.heap.get? b = some { cls := .type "tuple", dict := ag, data := .seq J n2, slots := ad } /\
    R (.ok (.ret (.bool (ku ns ms)))) s):=
 .of_wp λprog w A R s h=>by
  obtain⟨hp,g,d,tk,os⟩:=s;obtain⟨hl,hb,h⟩:=h;have f2:=AutoSeq1.sub_tuple_tuple
  have z1:items.size=ns.length:=by rw[<- hi.length];simp
  have z2:J.size=ms.length:=by rw[<- hj.length];simp
  wp_walk using wpAny_loadPart' hl,wpAny_loadPart' hb,wpAny_forIn_list _ (λrest b s'=>b.1=none/\s'=⟨hp,g,d,tk,os⟩/\∃(vs ws:QqW) (ns' ms':List Int),rest=vs.zip ws /\
   IntsAre vs ns'/\IntsAre ws ms'/\ns'.length+J.size=ms'.length+items.size/\R (.ok (.ret (.bool (ku ns' ms')))) ⟨hp,g,d,tk,os⟩) _
  case turn=>
   rintro⟨y,x⟩ rest b s' ⟨hb',rfl,vs,ws,ns',ms',hz,aa,O,L,Y⟩
   cases aa with
   |nil=>rw[List.zip_nil_left] at hz;cases hz
   | cons a t hvi' =>
    cases O with
    |nil=>rw[List.zip_nil_right] at hz;cases hz
    | cons c u hwi' =>
     rw[wa] at hz;injection hz with ae ac;injection ae with hy hx;subst hy hx;rw[kZ] at Y;simp only[zI] at L;obtain⟨e,he,W⟩:=QU A.in1 ⟨hp,g,d,tk,os⟩ a t c u;refine zb (he prog w _ _ ?_)
     cases e with
     |true=>
      rw[if_pos (W.mp rfl)] at Y
      wp_walk
      exact⟨rfl,rfl,_,_,_,_,ac,hvi',hwi',w5,Y⟩
     |false=>
      rw[if_neg (λq=>absurd (W.mpr q) zJ)] at Y;have af:=zz6 A.in1 ⟨hp,g,d,tk,os⟩ a t c u prog w
      wp_walk using af
      exact⟨_,rfl,by simpa using Y⟩
  case fin=>
   rintro⟨b1,b2⟩ s' ⟨hb',rfl,vs,ws,ns',ms',hz,aa,O,L,Y⟩;simp only at hb';subst hb'
   have hv:ku ns' ms'=decide (items.size<J.size):=by
    cases aa with
    | nil =>
     cases O with
     |nil=>
      simp only[ve] at L;rw[Uc]
      exact(zN w5).symm
     |cons c u hw=>
      simp only[ve,zI] at L;rw[WE]
      exact(xm w5).symm
    | cons a t hv =>
     cases O with
     |nil=>
      simp only[ve,zI] at L;rw[WF]
      exact(zN w5).symm
     |cons c u hw=>
      rw[wa] at hz;cases hz
   rw[hv] at Y
   wp_walk
   exact⟨_,rfl,by simpa [Builtin.Tuple.tupleCompareSizes] using Y⟩
  case h=>
   exact⟨rfl,rfl,items.toList,J.toList,ns,ms,rfl,hi,hj,w5,h⟩
end
section
variable {prog:Program}{w:World}{A:Around}{E:QqV}{s:Shared}
def Yz{l b:Addr}{items J:Array Value}{ns ms:List Int}{Q:QqV}(hl:IsTup s.heap l items)(hb:IsTup s.heap b J)(hi:IntsAre items.toList ns)(hj:IntsAre J.toList ms)
  (hu:A.units<cLine) (h:Q (.bool (ku ns ms)) s):wpAny (model prog w) A (compareOp .Lt (.ref l) (.ref b)) Q E s:=by
 obtain⟨⟨cls,dd,data,sl⟩,ho,hc,n,hd⟩:=id hl;obtain⟨⟨ac,Y,aa,W⟩,L,hc2,n2,O⟩:=id hb;simp only at hc hd hc2 O;subst hc hd hc2 O
 exact richCompare_meets_room (op:=.Lt) ⟨_,ho,rfl⟩ ⟨_,L,rfl⟩ PySem.F.slot_tuple_lt PySem.F.entry_tuple_lt (PySem.F.args_tuple_lt_2 _ _) (Vu l b items J n n2 dd Y sl W ns ms hi hj)
  ⟨ho,L,show Value.bool (ku ns ms)≠Value.notImplemented/\Q (.bool (ku ns ms)) s from⟨(λx=>nomatch x),h⟩⟩ hu
def zW2{t b:Addr}{vs ws:QqW}{Q:QqV}(ht:IsTup s.heap t vs.toArray)(hb:IsTup s.heap b ws.toArray)(hv:vs≠[])
  (h1:ws=[]->Q (.ref t) s) (h2:ws≠[]->Q (.ref s.heap.objs.size) { s with heap:=s.heap.push { cls:=.type "tuple",data:=.seq (vs++ws).toArray } })
  (hsz:vs.length+ws.length<=sizeLine):wpAny (model prog w) A (binaryOp .Add (.ref t) (.ref b)) Q E s:=by
 obtain⟨⟨cls,dd,data,sl⟩,ho,hc,n,hd⟩:=id ht;obtain⟨⟨ac,W,aa,L⟩,J,hc2,n2,O⟩:=id hb;simp only at hc hd hc2 O;subst hc hd hc2 O
 have e:vs.toArray++ws.toArray=(vs++ws).toArray:=by simp
 by_cases Y:ws=[]
 ·exact concat_meets ⟨_,ho,rfl⟩ ⟨_,J,rfl⟩ noFill_tuple_add seq_tuple_add PySem.F.slot_tuple_add PySem.F.entry_tuple_add (PySem.F.args_tuple_add_2 _ _)
   (tuple_addW1 t b vs.toArray ws.toArray n n2 dd W sl L (by simpa using hv) (by simp[Y])) ⟨ho,J,h1 Y⟩
 ·refine concat_meets ⟨_, ho, rfl⟩ ⟨_, J, rfl⟩ noFill_tuple_add seq_tuple_add PySem.F.slot_tuple_add PySem.F.entry_tuple_add (PySem.F.args_tuple_add_2 _ _)
   (tuple_addW2 t b vs.toArray ws.toArray n n2 dd W sl L (by simpa using hv) (by simpa using Y) (by rw[zq,zq];exact hsz)) ⟨ho,J,?_⟩
  rw[e];exact h2 Y
def sIx(n d:Nat):Option Int->Nat
 |none=>d
 |some v=>if v<0 then(v+(n:Int)).toNat else min v.toNat n
def Qv(n d:Nat):sIx n d none=d:=rfl
def zj5(n d k:Nat):sIx n d (some (k:Int))=min k n:=by
 show(if (k:Int)<0 then((k:Int)+(n:Int)).toNat else min (k:Int).toNat n)=min k n
 rw[if_neg w5,yP]
def xa7(n d:Nat)(hd:d<=n)(o:Option Int):sIx n d o<=n:=by
 cases o with
 |none=>exact hd
 |some v=>
  show(if v<0 then(v+(n:Int)).toNat else min v.toNat n)<=n
  by_cases J:v<0
  ·rw[if_pos J];lia
  ·rw[if_neg J];exact Nat.min_le_right _ _
def zu8(v:Int)(n d:Nat):(if v<0 then max (v+(n:Int)) 0 else min v (n:Int))=((sIx n d (some v):Nat):Int):=by
 show(if v<0 then max (v+(n:Int)) 0 else min v (n:Int))=(((if v<0 then(v+(n:Int)).toNat else min v.toNat n):Nat):Int)
 by_cases J:v<0
 ·simp only[if_pos J];lia
 ·simp only[if_neg J];lia
def zg0(lo hi:Option Int)(n:Nat):Builtin.Slice.sliceAdjust lo hi 1 (n:Int)=(((sIx n 0 lo:Nat):Int),((sIx n n hi:Nat):Int)):=by
 have h1:¬ ((1:Int)<0):=w5
 unfold Builtin.Slice.sliceAdjust;simp only[h1,if_false];refine Prod.ext ?_ ?_
 ·cases lo with
  |none=>rfl
  |some v=>exact zu8 v n 0
 ·cases hi with
  |none=>rfl
  |some v=>exact zu8 v n n
def zc9(i j:Nat):Builtin.Slice.slicePlaces (i:Int) (j:Int) 1=j-i:=by
 unfold Builtin.Slice.slicePlaces
 have h1:(1:Int) > 0:=w5
 simp only[h1,if_true,Int.ediv_one]
 split<;>lia
def WR{v:Value}{o:Option Int}{Q:Option Int->Shared->Prop}(p:IsPart v o)(h:Q o s):wpAny (model prog w) A (Builtin.Slice.slicePartIndex v) Q E s:=by
 cases p with
 |none=>exact slicePart_none h
 |int i t=>exact slicePart_int h
def jb{Y:Addr}{W O:Value}{lo hi:Option Int}{n:Nat}{Q:Int × Int × Nat->Shared->Prop}(hs:s.heap.IsSliceOf Y W O .none)(pl:IsPart W lo)(pu:IsPart O hi)
  (h:Q (((sIx n 0 lo:Nat):Int),1,sIx n n hi-sIx n 0 lo) s):wpAny (model prog w) A (Builtin.Slice.sliceApplied (.ref Y) (pure (n:Int))) Q E s:=by
 obtain⟨os,J,aa,L⟩:=id hs;unfold Builtin.Slice.sliceApplied Builtin.Slice.sliceFields;refine zb (zb (wy J L (x:=W) rfl (zb (wy J L (x:=O) rfl (zb (wy J L (x:=.none) rfl (zf ?_)))))));refine zb (slicePart_none ?_)
 show wpAny _ _ (if ((1:Int) == 0)=true then _ else _) _ _ s
 rw[if_neg w6]
 refine zb (WR pl (zb (WR pu (zb (zf ?_)))))
 show wpAny _ _ (match Builtin.Slice.sliceAdjust lo hi 1 (n:Int) with |(lo,hi)=>pure (lo,(1:Int),Builtin.Slice.slicePlaces lo hi 1)) _ _ s
 rw[zg0 lo hi n];show wpAny _ _ (pure (((sIx n 0 lo:Nat):Int),(1:Int),Builtin.Slice.slicePlaces ((sIx n 0 lo:Nat):Int) ((sIx n n hi:Nat):Int) 1)) _ _ s;rw[zc9];exact zf h
def zB0(xs:Array Value)(i k:Nat):((List.range k).filterMap fun(m:Nat)=>xs[((i:Int)+(m:Int)*1).toNat]?).toArray=((xs.toList.drop i).take k).toArray:=by
 have e:(fun(m:Nat)=>xs[((i:Int)+(m:Int)*1).toNat]?)=λm=>xs[i+m]?:=by
  funext m
  have:((i:Int)+(m:Int)*1).toNat=i+m:=w5
  rw[this]
 rw[e];have:=pick_run xs i k;rw[yt] at this;have J:((λx=>xs[x]?)∘λx=>i+x)=λm=>xs[i+m]?:=rfl;rw[J] at this;rw[this]
def YE{t L:Addr}{items:Array Value}{vl vu:Value}{lo hi:Option Int}{Q:QqV}(ht:IsTup s.heap t items)(hs:s.heap.IsSliceOf L vl vu .none)(pl:IsPart vl lo)(pu:IsPart vu hi)
  (hw:¬ (sIx items.size 0 lo=0/\sIx items.size items.size hi=items.size))
  (h:Q (.ref s.heap.objs.size) { s with heap:=s.heap.push { cls:=.type "tuple",data:=.seq ((items.toList.drop (sIx items.size 0 lo)).take (sIx items.size items.size hi-sIx items.size 0 lo)).toArray } })
  (hsz:items.size<=sizeLine):wpAny (model prog w) A (getItem (.ref t) (.ref L)) Q E s:=by
 have J:sizeOk (.seq ((items.toList.drop (sIx items.size 0 lo)).take (sIx items.size items.size hi-sIx items.size 0 lo)).toArray):=by
  show((items.toList.drop (sIx items.size 0 lo)).take (sIx items.size items.size hi-sIx items.size 0 lo)).toArray.size<=sizeLine;rw[zq,xt,length_drop,xU];lia
 have hj:sIx items.size items.size hi<=items.size:=xa7 _ _ (zn _) hi;obtain⟨os,O,Y,ac⟩:=id hs;have aa:s.TypeIs (.ref L) "slice" := ⟨os,O,Y⟩;unfold getItem
 try with_reducible refine xp ?_
 first |refine zb (zf ?_) |skip
 refine zb (wpAny_sequenceKey ht.typeIs w6 ?_)
 refine zb (xO (name:=Str.ofString "__getitem__") ht.typeIs PyProof.Rows.slot_tuple_getitem
  (wz PyProof.Rows.slot_tuple_getitem ht.typeIs entry_tuple_getitem ?_ (args_tuple_getitem _ _)))
 show wpAny _ _ (Builtin.Tuple.tupleItemsOf (.ref t) >>= _) _ _ s;refine zb (tupleItemsOf_ ht ?_);refine zb (wpAny_typeOf aa ?_)
 rw[if_pos w6]
 refine zb (jb hs pl pu ?_)
 have W:¬ ((((sIx items.size 0 lo:Nat):Int) == 0&&(1:Int) == 1&&(sIx items.size items.size hi-sIx items.size 0 lo) == items.size)=true):=by
  intro q;rw[zL,zL] at q;have q1:((sIx items.size 0 lo:Nat):Int)=0:=eq_of_beq q.1.1;have q2:sIx items.size items.size hi-sIx items.size 0 lo=items.size:=eq_of_beq q.2
  exact hw ⟨w5,w5⟩
 show wpAny _ _ (if (((sIx items.size 0 lo:Nat):Int) == 0&&(1:Int) == 1&&(sIx items.size items.size hi-sIx items.size 0 lo) == items.size)=true then _ else _) _ _ s
 rw[if_neg W,zB0]
 first
  |exact zb (m:=Builtin.Tuple.tupleExact _) (xz (zf ⟨_,rfl,zf h⟩) J)
  |exact zb (m:=Builtin.Tuple.tupleExact _) (xz (zb (zf (zf ⟨_,rfl,zf h⟩))) J)
  |exact zb (zb (m:=Builtin.Tuple.tupleExact _) (xz (zf (zf ⟨_,rfl,zf h⟩)) J))
  |exact zb (zb (m:=Builtin.Tuple.tupleExact _) (xz (zf ⟨_,rfl,zf h⟩) J))
end
end HT
namespace L2
abbrev TO:=St->Hp->(Option Int->Hp->Prop)->Prop
def PO(X:Cx)(e:Option Expr)(t:TO):Prop:=
 ∀(J:QqL) (s:Shared) (σ:St) (H:Hp) (Q:Option Int->Hp->Prop),Inv X J σ H s->t σ H Q ->
  wpAny (model X.prog X.w) X.A (evalPart e X.env) (λu s'=>∃o H',Inv X J σ H' s'/\IsPart u o/\Q o H') X.xe s
def zN0:TO:=λ_ H Q=>Q none H
def xt7(t:TE):TO:=λσ H Q=>t σ H λx J=>∃i,x=.int i/\Q (some i) J
def vy{ns:List Int}:∀{us:QqW},Vals (ns.map V.int) us->IntsAre us ns:=by
 induction ns with
 |nil=>intro us r;rw[map_nil] at r;cases r;exact .nil
 | cons n ns O =>
  intro us r;rw[zE] at r
  cases r with
  |cons L J=>
   obtain⟨t,e⟩:=L;subst e;exact .cons n t (O J)
section
variable {X:Cx}{e:Expr}{te:TE}{lo hi:Option Expr}{tl th:TO}{pos p2:Pos}
def zP4:PO X none zN0:=by
 intro J s σ H Q I h;rw[evalPart_none];exact zf ⟨none,H,I,.none,h⟩
def zl5(h:PE X e te):PO X (some e) (xt7 te):=by
 intro J s σ H Q I W;rw[evalPart_some];refine thn (h J s σ H _ I W) λu s1 ⟨x,H1,Y,L,O⟩=>?_;obtain⟨i,rfl,q⟩:=O;obtain⟨t,rfl⟩:=L;exact⟨some i,H1,Y,.int i t,q⟩
def SlR(X:Cx)(r:V->Option Int->Option Int->Hp->VK->Prop):Prop:=
 ∀(J:QqL) (s:Shared) (σ:St) (H:Hp) (x:V) (v O L:Value) (lo hi:Option Int) (W:Addr) (Q:VK),Inv X J σ H s->RelV x v->s.heap.IsSliceOf W O L .none->IsPart O lo->IsPart L hi->r x lo hi H Q ->
  ∃T id,typeLookup (.type T) "__getitem__" = pure (some (.builtin id))/\s.TypeIs v T/\wpAny (model X.prog X.w) X.A (getItem v (.ref W)) (EP X J σ Q) X.xe s
def tSl(r:V->Option Int->Option Int->Hp->VK->Prop)(te:TE)(tl th:TO):TE:=λσ H Q=>te σ H λx O=>tl σ O λl L=>th σ L λu J=>r x l u J Q
def QE{r:V->Option Int->Option Int->Hp->VK->Prop}(hr:SlR X r)(he:PE X e te)(hl:PO X lo tl)(hu:PO X hi th):PE X (.Subscript e (.Slice lo hi none p2) pos) (tSl r te tl th):=by
 intro J s σ H Q I h;refine Subscript_ (thn (he J s σ H _ I h) λv s1 ⟨x,H1,I1,r1,q1⟩=>?_);refine wpAny_Slice (thn (hl J s1 σ H1 _ I1 q1) λW s2 ⟨l,H2,I2,pl,q2⟩=>thn (hu J s2 σ H2 _ I2 q2) λO L ⟨u,Y,I3,pu,q3⟩=>?_);rw[evalPart_none];refine zf ?_;have I4:Inv X J σ Y { L with heap:=L.heap.push { cls:=.type "slice",data:=.fields #[W,O,.none] } }:=I3.kept (t':=L.toks) λb ob q=>ze _ q;obtain⟨T,id,hT,ht,hg⟩:=hr J { L with heap:=L.heap.push { cls:=.type "slice",data:=.fields #[W,O,.none] } } σ Y x v W O l u L.heap.objs.size Q I4 r1 (Heap.IsSliceOf.new ..) pl pu q3;show wpAny (model X.prog X.w) X.A (subscriptTail e (.Slice lo hi none p2) v (.ref L.heap.objs.size)) (EP X J σ Q) X.xe { L with heap:=L.heap.push { cls:=.type "slice",data:=.fields #[W,O,.none] } }
 exact tail_any (ops:=[.ref L.heap.objs.size,v]) ht hT hg (by with_unfolding_all rfl)
def zG5(xs:List V)(lo hi:Option Int):List V:=(xs.drop (HT.sIx xs.length 0 lo)).take (HT.sIx xs.length xs.length hi-HT.sIx xs.length 0 lo)
def Wh(xs:List V)(lo hi:Option Int):(zG5 xs lo hi).length<=xs.length:=by
 unfold zG5;rw[xt,length_drop];lia
def xR0(K:W.Frag):V->Option Int->Option Int->Hp->VK->Prop:=λx lo hi H Q=>∃a xs,x=.ref a/\SqT K H a xs /\
 ¬ (HT.sIx xs.length 0 lo=0/\HT.sIx xs.length xs.length hi=xs.length)/\∀p,H p=none->Q (.ref p) (upd H p (.tup (zG5 xs lo hi)))
def zZ6:SlR X (xR0 X.K):=by
 intro L s σ H x v vl vu lo hi sl Q I O hs pl W h;obtain⟨a,xs,rfl,hx,Y,q⟩:=h;cases O;obtain⟨its,r,ht,hz⟩:=I.tuple hx
 have J:its.toArray.size=xs.length:=by rw[zq];exact r.length.symm
 refine⟨"tuple",_,PyProof.Rows.slot_tuple_getitem.lookup,ht.typeIs,?_⟩
 refine HT.YE ht hs pl W (by rw[J];exact Y) ?_ (by rw[J];exact hz)
 rw[J];refine⟨.ref s.heap.objs.size,_,I.laid (t':=s.toks) (o:=.tup (zG5 xs lo hi)) (λb ob q=>ze _ q) (zn _) ?_,rfl,q _ (I.hok.fresh (zn _))⟩;exact⟨zD (Wh xs lo hi) hz,_,(r.drop (HT.sIx xs.length 0 lo)).take (HT.sIx xs.length xs.length hi-HT.sIx xs.length 0 lo),IsTup.new _ _⟩
def xw8(K:W.Frag):R2:=λx y H Q=>∃a b xs ys,x=.ref a/\y=.ref b/\SqT K H a xs/\SqT K H b ys/\xs≠[]/\xs.length+ys.length<=sizeLine /\
 (ys=[]->Q (.ref a) H)/\(ys≠[]->∀p,H p=none->Q (.ref p) (upd H p (.tup (xs++ys))))
def Vals.nil_iff{xs:List V}{us:QqW}(r:Vals xs us):us=[]↔xs=[]:=by
 cases r with
 |nil=>simp
 |cons _ _=>simp
def zR2:OpR X (binaryOp .Add) (xw8 X.K):=by
 intro O s σ H x y v u Q I rx Y h;obtain⟨a,b,xs,ys,rfl,rfl,ha,hb,hx,hz,q1,q2⟩:=h;cases rx;cases Y;obtain⟨its,L,p1,_⟩:=I.tuple ha;obtain⟨W,J,p2,_⟩:=I.tuple hb
 refine HT.zW2 p1 p2 (λz=>hx (L.nil_iff.mp z)) (λz=>⟨.ref a,H,I,rfl,q1 (J.nil_iff.mp z)⟩) (λz=>?_) (by rw[<- L.length,<- J.length];exact hz)
 refine⟨.ref s.heap.objs.size,_,I.laid (t':=s.toks) (o:=.tup (xs++ys)) (λb ob q=>ze _ q) (zn _) ?_,rfl,q2 (λw=>z (J.nil_iff.mpr w)) _ (I.hok.fresh (zn _))⟩
 exact⟨by rw[zy];exact hz,_,L.append J,IsTup.new _ _⟩
end
def ixN(n:Nat)(i:Int):Option Nat:=if 0<=i then(if i<n then some i.toNat else none) else if -(n:Int)<=i then some (i+n).toNat else none
def atI{α:Type}(xs:List α)(i:Int):Option α:=(ixN xs.length i).bind λj=>xs[j]?
def zq6{n:Nat}{i:Int}{j:Nat}(h:ixN n i=some j):seqIndex? i n=some j/\j<n/\-(n:Int)<=i/\i<n:=by
 unfold ixN at h
 by_cases h0:0<=i
 ·rw [if_pos h0] at h
  by_cases h1:i<n
  ·rw [if_pos h1] at h;have e:i.toNat=j:=zP h
   exact⟨by rw[seqIndex_of h0 h1,e],w5,w5,h1⟩
  ·rw[if_neg h1] at h;cases h
 ·rw [if_neg h0] at h
  by_cases h1:-(n:Int)<=i
  ·rw [if_pos h1] at h;have e:(i+n).toNat=j:=zP h
   exact⟨by rw[seqIndex_neg w5 h1,e],w5,h1,w5⟩
  ·rw[if_neg h1] at h;cases h
def Qg{α:Type}{xs:List α}{i:Int}{v:α}(h:atI xs i=some v):∃j,seqIndex? i xs.length=some j/\xs[j]?=some v/\j<xs.length/\-(xs.length:Int)<=i/\i<xs.length:=by
 unfold atI at h
 cases e:ixN xs.length i with
 |none=>rw[e] at h;cases h
 |some j=>
  rw[e] at h;obtain⟨h1,O,L,J⟩:=zq6 e;exact⟨j,h1,h,O,L,J⟩
def qh{α:Type}{xs:List α}{j:Nat}{v:α}(h:xs[j]?=some v):atI xs (j:Int)=some v:=by
 have J:j<xs.length:=(zu.mp h).1
 have e:ixN xs.length (j:Int)=some j:=by
  unfold ixN
  rw[if_pos w5,if_pos w5];simp
 unfold atI;rw[e];exact h
def zH3{α:Type}(xs:List α)(v:α):atI (xs++[v]) (-1)=some v:=by
 have J:(xs++[v]).length=xs.length+1:=by simp
 have e:ixN (xs++[v]).length (-1)=some xs.length:=by
  unfold ixN
  rw[J,if_neg w6,if_pos w5]
  congr 1
  lia
 unfold atI;rw[e];show(xs++[v])[xs.length]?=some v;simp
def Uv(b:Expr):Prop:=∀o i,subscripted b false o i=operate [o,i] (getItem o i)
def IxR(X:Cx)(r:R2):Prop:=
 ∀(O J:Expr) (L:QqL) (s:Shared) (σ:St) (H:Hp) (x y:V) (v u:Value) (Q:VK),Inv X L σ H s->RelV x v->RelV y u->r x y H Q ->
  subscripted J false v u=operate [v,u] (getItem v u)->wpAny (model X.prog X.w) X.A (subscriptTail O J v u) (EP X L σ Q) X.xe s
def MtR(X:Cx)(id:String)(r:V->List V->Hp->VK->Prop):Prop:=
 ∀(J:QqL) (s:Shared) (σ:St) (H:Hp) (x:V) (xs:List V) (v:Value) (us:QqW) (Q:VK),Inv X J σ H s->RelV x v->Vals xs us->r x xs H Q ->
  wpAny (model X.prog X.w) X.A (call (.builtin id) (v::us)) (EP X J σ Q) X.xe s
section
variable {X:Cx}{a b:Expr}{ta tb:TE}{pos:Pos}
def IxR.or{r r':R2}(h:IxR X r)(h':IxR X r'):IxR X (λx y H Q=>r x y H Q\/r' x y H Q):=by
 intro J L O s σ H x y v u Q I Y W q hs
 rcases q with q |q
 ·exact h J L O s σ H x y v u Q I Y W q hs
 ·exact h' J L O s σ H x y v u Q I Y W q hs
def zP8{r:R2}(Y:IxR X r)(ha:PE X a ta)(hb:PE X b tb)(hs:Uv b):PE X (.Subscript a b pos) (tOp r ta tb):=by
 intro J s σ H Q I h;exact Subscript_ (xG7 ha hb I h λv u L x y H2 I2 W O q=>Y a b J L σ H2 x y v u Q I2 W O q (hs _ _))
def xI5(K:W.Frag):R2:=λx y H Q=>∃p xs i v,x=.ref p/\y=.int i/\SqL K H p xs/\atI xs i=some v/\Q v H
def xI3(K:W.Frag):R2:=λx y H Q=>∃p xs i v,x=.ref p/\y=.int i/\SqT K H p xs/\atI xs i=some v/\Q v H
def xI4:R2:=λx y H Q=>∃z i c,x=.str z/\y=.int i/\z.length<=sizeLine/\atI z.cps.toList i=some c/\Q (.str ⟨#[c]⟩) H
def JO:IxR X (xI5 X.K):=by
 intro L O J s σ H x y v u Q I rx ry h hs;obtain⟨p,xs,i,z,rfl,rfl,hq,he,q⟩:=h;cases rx;obtain⟨t,rfl⟩:=ry;obtain⟨its,r,pl,hz⟩:=I.list hq;obtain⟨j,h1,h2,h3,h4,h5⟩:=Qg he;obtain⟨w,Y,rw'⟩:=r.get h2;have hl:=r.length;have hn:=Vg;have fin:EP X J σ Q w s:=⟨z,H,I,rw',q⟩
 by_cases h0:0<=i
 ·have W : i.toNat = j := by
   rw[seqIndex_of h0 h5] at h1;exact zP h1
  exact item_listR pl.isList h0 w5 (by rw[W];simpa using Y) fin hs
 ·have W : (i + (its.toArray.size : Int)).toNat = j := by
   rw[seqIndex_neg w5 h4] at h1
   rw[zq,<- hl];exact zP h1
  exact subscriptTail_builtinR (x:=w) pl.isList.typeIs slot_list_getitem.lookup
   (wpAny_getItem_list_neg (Q:=λr s'=>r=w/\EP X J σ Q r s') pl.isList w5 (by rw[zq]<;>lia) w5 (by rw[W];simpa using Y) ⟨rfl,fin⟩) hs
def xk3:IxR X (xI3 X.K):=by
 intro L O J s σ H x y v u Q I Y W h hs;obtain⟨p,xs,i,z,rfl,rfl,hq,he,q⟩:=h;cases Y;obtain⟨t,rfl⟩:=W;obtain⟨its,r,pl,hz⟩:=I.tuple hq;obtain⟨j,h1,h2,h3,h4,h5⟩:=Qg he;obtain⟨w,ew,rw'⟩:=r.get h2;have hl:=r.length;have hn:=Vg;have fin:EP X J σ Q w s:=⟨z,H,I,rw',q⟩
 exact subscriptTail_builtinR (x:=w) pl.typeIs slot_tuple_getitem.lookup
  (getItem_tuple (j:=j) (Q:=λr s'=>r=w/\EP X J σ Q r s') pl w5 w5 (by rw[zq,<- hl];exact h1) (by simpa using ew) ⟨rfl,fin⟩) hs
def xk4:IxR X xI4:=by
 intro J L O s σ H x y v u Q I Y W h hs;obtain⟨z,i,c,rfl,rfl,hz,he,q⟩:=h;obtain⟨t,rfl⟩:=Y;obtain⟨t',rfl⟩:=W;obtain⟨j,h1,h2,h3,h4,h5⟩:=Qg he
 have hl:z.cps.toList.length=z.length:=by simp[Str.length]
 rw[hl] at h1 h4 h5;have hn:=Vg
 exact tail_any (typeIs_str s z t) slot_str_getitem.lookup (getItem_str (c:=c) (by
  have e1:decide (i < -(2^63:Int))=false:=zN w5
  have e2:decide (i>=2^63)=false:=zN w5
  rw[e1,e2,Bool.or_false]) (by rw[h1];simpa using h2) ⟨.str ⟨#[c]⟩,H,I.tok _,⟨_,rfl⟩,q⟩) hs
def rIx(K:W.Frag):R2:=λx y H Q=>xI5 K x y H Q\/xI3 K x y H Q\/xI4 x y H Q
def xJ:IxR X (rIx X.K):=JO.or (xk3.or xk4)
def ze3(its:QqW)(n j:Nat)(u:Value):Obj.mapSeq (·.setIfInBounds j u) { cls:=.type "list",data:=.seq its.toArray n }={ cls:=.type "list",data:=.seq (its.set j u).toArray n }:=by
 simp[Obj.mapSeq]
def Inv.lst{J:QqL}{σ:St}{H:Hp}{s:Shared}{p:Addr}{xs:List V}(I:Inv X J σ H s)(h:H p=some (.lst xs)) :
  ∃(its:QqW) (n:Nat),Vals xs its/\s.heap.get? p=some { cls:=.type "list",data:=.seq its.toArray n }/\xs.length<=sizeLine:=by
 obtain⟨z,its,n,r,e⟩:=I.hok p _ h;exact⟨its,n,r,e,z⟩
def Inv.lstUpd{J:QqL}{σ:St}{H:Hp}{s:Shared}{p:Addr}{xs ys:List V}{its its':QqW}{n n':Nat}{f:Obj->Obj}(I:Inv X J σ H s)(h:H p=some (.lst xs))
  (O:s.heap.get? p=some { cls:=.type "list",data:=.seq its.toArray n }) (L:f { cls:=.type "list",data:=.seq its.toArray n }={ cls:=.type "list",data:=.seq its'.toArray n' }) (r:Vals ys its') (hz:ys.length<=sizeLine) (t:Nat) :
  Inv X J σ (upd H p (.lst ys)) { s with heap:=s.heap.update p f,toks:=t }:=by
 have e:(s.heap.update p f).get? p=some { cls:=.type "list",data:=.seq its'.toArray n' }:=by
  rw[xT f O (by rw[L]<;>rfl),L]
 refine I.write (x:=p) (e:=p) (by rw[h];trivial) (.inl rfl) (λb u W q=>(wA _ _ (Ne.symm W)).trans q) ⟨_,e⟩ ?_
 exact⟨hz,its',n',r,e⟩
def xw5:V->V->V->Hp->(Hp->Prop)->Prop:=λo i v H Q=>∃p xs k j,o=.ref p/\i=.int k/\H p=some (.lst xs)/\ixN xs.length k=some j/\Q (upd H p (.lst (xs.set j v)))
def zy3:xO6 X xw5:=by
 intro J s σ H o i v ov iv u Q I ro ri rv h;obtain⟨p,xs,k,j,rfl,rfl,Y,hj,q⟩:=h;cases ro;obtain⟨t,rfl⟩:=ri;obtain⟨its,n,r,L,hz⟩:=I.lst Y;obtain⟨h1,h2,h3,h4⟩:=zq6 hj;have O:=r.length;have hn:=Vg
 have I':Inv X J σ (upd H p (.lst (xs.set j v))) { s with heap:=s.heap.update p (Obj.mapSeq (·.setIfInBounds j u)) }:=
  I.lstUpd Y L (ze3 its n j u) (r.set rv j) (by rw[List.length_set];exact hz) s.toks
 by_cases h0:0<=k
 ·have hk : k.toNat = j := by
   rw[seqIndex_of h0 h4] at h1;exact zP h1
  exact W.ki_setAt L h0 w5 (by rw[zq,<- O];exact h4) (by rw[hk];exact⟨_,I',q⟩)
 ·have hk : (k + (its.toArray.size : Int)).toNat = j := by
   rw[seqIndex_neg w5 h3] at h1
   rw[zq,<- O];exact zP h1
  exact W.ki_setBack L w5 (by rw[zq,<- O];exact h3) w5 (by rw[hk];exact⟨_,I',q⟩)
def UI(lo hi:Option Int)(n:Nat):(sliceBounds lo hi none n).1=((HT.sIx n 0 lo:Nat):Int)/\(sliceBounds lo hi none n).2.1=((HT.sIx n n hi:Nat):Int)/\(sliceBounds lo hi none n).2.2=1:=by
 refine⟨?_,?_,rfl⟩
 ·cases lo with
  |none=>simp[sliceBounds,HT.sIx]
  |some i=>
   simp only[sliceBounds,HT.sIx,Option.getD_none,show(1:Int) > 0 by decide,if_true]
   by_cases h:i<0
   ·simp only[h,if_true]<;>lia
   ·simp only[h,if_false]<;>lia
 ·cases hi with
  |none=>simp[sliceBounds,HT.sIx]
  |some i=>
   simp only[sliceBounds,HT.sIx,Option.getD_none,show(1:Int) > 0 by decide,if_true]
   by_cases h:i<0
   ·simp only[h,if_true]<;>lia
   ·simp only[h,if_false]<;>lia
def VG(its:QqW)(lo hi:Option Int):slicePick its.toArray lo hi none=((its.drop (HT.sIx its.length 0 lo)).take (HT.sIx its.length its.length hi-HT.sIx its.length 0 lo)).toArray:=by
 obtain⟨h1,L,J⟩:=UI lo hi its.toArray.size;unfold slicePick;rw[h1,L,J]
 simp only[sliceRange_one,pick_run,zq]<;>rfl
def xR1(K:W.Frag):V->Option Int->Option Int->Hp->VK->Prop:=λx lo hi H Q=>∃a xs,x=.ref a/\SqL K H a xs/\∀p,H p=none->Q (.ref p) (upd H p (.lst (zG5 xs lo hi)))
def zN2:SlR X (xR1 X.K):=by
 intro L s σ H x v vl Y lo hi sl Q I O hs pl W h;obtain⟨a,xs,rfl,hx,q⟩:=h;cases O;obtain⟨its,r,ht,hz⟩:=I.list hx;have J:=r.length;refine⟨"list",_,slot_list_getitem.lookup,ht.isList.typeIs,?_⟩
 refine wpAny_getItem_list_slice ht.isList hs pl W .none (by simp) ?_ (by rw[zq]<;>lia)
 rw[VG,<- J];refine⟨.ref s.heap.objs.size,_,I.laid (t':=s.toks) (o:=.lst (zG5 xs lo hi)) (λb ob q=>ze _ q) (zn _) ?_,rfl,q _ (I.hok.fresh (zn _))⟩;exact⟨zD (Wh xs lo hi) hz,_,0,(r.drop (HT.sIx xs.length 0 lo)).take (HT.sIx xs.length xs.length hi-HT.sIx xs.length 0 lo),zr _ rfl⟩
def WJ:V->Bool
 |.non=>true
 |.bl _=>true
 |.int _=>true
 |.str _=>true
 |_=>false
def eqV:V->V->Bool
 |.non,.non=>true
 |.bl a,.bl b=>a == b
 |.bl a,.int b=>(if a then 1 else 0) == b
 |.int a,.bl b=>a == (if b then 1 else 0)
 |.int a,.int b=>a == b
 |.str a,.str b=>a == b
 |_,_=>false
def xl6{A:Around}{s:Shared}{y x:V}{u v:Value}(L:RelV y u)(J:RelV x v)(W:WJ y=true)(O:WJ x=true):SeqAt.EqAt A s u v (eqV y x):=by
 cases y with
 |non=>
  cases L
  cases x with
  |non=>cases J;exact SeqAt.EqAt.same _
  |bl b=>cases J;exact SeqAt.EqAt.none_bool b
  |int b=>obtain⟨t,rfl⟩:=J;exact SeqAt.EqAt.none_int b t
  |str b=>obtain⟨t,rfl⟩:=J;exact SeqAt.EqAt.none_str b t
  |_=>exact absurd (show false=true from O) zJ
 |bl a=>
  cases L
  cases x with
  |non=>cases J;exact SeqAt.EqAt.bool_none a
  |bl b=>cases J;exact SeqAt.EqAt.bool_bool a b
  |int b=>obtain⟨t,rfl⟩:=J;exact SeqAt.EqAt.bool_int a b t
  |str b=>obtain⟨t,rfl⟩:=J;exact SeqAt.EqAt.bool_str a b t
  |_=>exact absurd (show false=true from O) zJ
 |int a=>
  obtain⟨t',rfl⟩:=L
  cases x with
  |non=>cases J;exact SeqAt.EqAt.int_none a t'
  |bl b=>cases J;exact SeqAt.EqAt.int_bool a t' b
  |int b=>obtain⟨t,rfl⟩:=J;exact SeqAt.EqAt.int_int a t' b t
  |str b=>obtain⟨t,rfl⟩:=J;exact SeqAt.EqAt.int_str a t' b t
  |_=>exact absurd (show false=true from O) zJ
 |str a=>
  obtain⟨t',rfl⟩:=L
  cases x with
  |non=>cases J;exact SeqAt.EqAt.str_none a t'
  |bl b=>cases J;exact SeqAt.EqAt.str_bool a t' b
  |int b=>obtain⟨t,rfl⟩:=J;exact SeqAt.EqAt.str_int a t' b t
  |str b=>obtain⟨t,rfl⟩:=J;exact SeqAt.EqAt.str_str a t' b t
  |_=>exact absurd (show false=true from O) zJ
 |_=>exact absurd (show false=true from W) zJ
def eqU(x:V)(u:Value):Bool:=match u with
 |.none=>eqV .non x
 |.bool b=>eqV (.bl b) x
 |.int i _=>eqV (.int i) x
 |.str z _=>eqV (.str z) x
 |_=>false
def zL3{x y:V}{u:Value}(r:RelV y u)(f:WJ y=true):eqU x u=eqV y x:=by
 cases y with
 |non=>cases r;rfl
 |bl b=>cases r;rfl
 |int i=>obtain⟨t,rfl⟩:=r;rfl
 |str z=>obtain⟨t,rfl⟩:=r;rfl
 |_=>exact absurd (show false=true from f) zJ
theorem Qh{x:V}:∀{xs:List V}{us:QqW},Vals xs us->xs.all WJ=true->us.any (eqU x)=xs.any λy=>eqV y x
 |_,_,.nil,_=>rfl
 |y::xs,u::us,.cons r t,f=>by
  rw[all_cons,zL] at f;rw[yR,yR,zL3 r f.1,Qh t f.2]
theorem Ua{A:Around}{s:Shared}{x:V}{v:Value}(J:RelV x v)(L:WJ x=true):∀{xs:List V}{us:QqW},Vals xs us->xs.all WJ=true->∀u∈us,SeqAt.EqAt A s u v (eqU x u)
 |_,_,.nil,_=>λu hu=>by cases hu
 |y::xs,u::us,.cons r t,f=>λu' hu=>by
  rw[all_cons,zL] at f
  rcases zk.mp hu with rfl |hu
  ·rw[zL3 r f.1];exact xl6 r J f.1 L
  ·exact Ua J L t f.2 u' hu
def inV(x:V)(xs:List V):Bool:=xs.any λy=>eqV y x
def rIn(K:W.Frag)(neg:Bool):R2:=λx y H Q=>∃p xs,y=.ref p/\(SqL K H p xs\/SqT K H p xs)/\WJ x=true/\xs.all WJ=true/\Q (.bl (if neg then !inV x xs else inV x xs)) H
def zm6:OpR X (compareOp .In) (rIn X.K false):=by
 intro W s σ H x y v u Q I O ry h;obtain⟨p,xs,rfl,J,Y,fs,q⟩:=h;cases ry
 rcases J with J |J
 ·obtain ⟨its, r, pl, hz⟩ := I.list J
  refine SeqAt.in_listAt (eqU x) pl.isList (λw L=>Ua O Y r fs w (by simpa using L)) ⟨.bl _,H,I,rfl,?_⟩
  rw[show its.toArray.any (eqU x)=its.any (eqU x) by simp,Qh r fs]
  exact q
 ·obtain ⟨its, r, pl, hz⟩ := I.tuple J
  refine SeqAt.in_tupleAt (eqU x) pl (λw L=>Ua O Y r fs w (by simpa using L)) ⟨.bl _,H,I,rfl,?_⟩
  rw[show its.toArray.any (eqU x)=its.any (eqU x) by simp,Qh r fs]
  exact q
def wL:kW X (.builtin "len") (λxs H Q=>∃p ys,xs=[.ref p]/\(SqL X.K H p ys\/SqT X.K H p ys)/\Q (.int ys.length) H):=by
 intro O s σ H xs us Q I r h;obtain⟨p,ys,rfl,L,q⟩:=h;obtain⟨u,rfl,W⟩:=Ye r;cases W;have Y:=Vg
 rcases L with L |L
 ·obtain ⟨its, r', pl, hz⟩ := I.list L;have J:=r'.length
  exact Calls.call_len_list pl.isList (by simp only[zq]<;>lia) ⟨.int ys.length,H,I.tok _,⟨s.toks+1,by rw[zq,J]⟩,q⟩
 ·obtain ⟨its, r', pl, hz⟩ := I.tuple L;have J:=r'.length
  exact len_tuple pl (by simp only[zq]<;>lia) ⟨.int ys.length,H,I.tok _,⟨s.toks+1,by rw[zq,J]⟩,q⟩
def jC:kW X (.type "list") (λxs H Q=>∃p ys,xs=[.ref p]/\(SqL X.K H p ys\/SqT X.K H p ys)/\∀l,H l=none->Q (.ref l) (upd H l (.lst ys))):=by
 intro J s σ H xs us Q I r h;obtain⟨p,ys,rfl,L,q⟩:=h;obtain⟨u,rfl,rx⟩:=Ye r;cases rx
 have fin:∀(its:QqW),Vals ys its->ys.length<=sizeLine->∀(h':Heap) (c':Nat),(∀b o',s.heap.get? b=some o'->h'.get? b=some o') ->
   h'.get? s.heap.objs.size=some { cls:=.type "list",dict:=none,data:=.seq its.toArray c',slots:=#[] }->EP X J σ Q (.ref s.heap.objs.size) { s with heap:=h' }:=λits r' hz h' c' kp e=>
  ⟨.ref s.heap.objs.size,_,I.laid (t':=s.toks) kp (zn _) (show ObjOk X.prog X.w _ h' _ (.lst ys) from⟨hz,its,c',r',e⟩),rfl,q _ (I.hok.fresh (zn _))⟩
 rcases L with L |L
 ·obtain ⟨its, r', pl, hz⟩ := I.list L;have O:=r'.length;obtain⟨o,W,Y,n,hd⟩:=pl.isList
  exact call_list_seq p (.inl rfl) W Y hd (λh' c' kp e=>fin its r' hz h' c' kp e) (by simp only[zq]<;>lia)
 ·obtain ⟨its, r', pl, hz⟩ := I.tuple L;have O:=r'.length;obtain⟨o,W,Y,n,hd⟩:=pl
  exact call_list_seq p (.inr rfl) W Y hd (λh' c' kp e=>fin its r' hz h' c' kp e) (by simp only[zq]<;>lia)
def yB:kW X (.type "tuple") (λxs H Q=>∃p ys,xs=[.ref p]/\((SqL X.K H p ys/\∀l,H l=none->Q (.ref l) (upd H l (.tup ys)))\/(SqT X.K H p ys/\Q (.ref p) H))):=by
 intro J s σ H xs us Q I r h;obtain⟨p,ys,rfl,h⟩:=h;obtain⟨u,rfl,Y⟩:=Ye r;cases Y
 rcases h with ⟨L,q⟩ |⟨L,q⟩
 ·obtain ⟨its, r', pl, hz⟩ := I.list L;have O:=r'.length
  refine call_tuple_list pl.isList (λh' kp=>?_) (by simp only[zq]<;>lia)
  have W:Inv X J σ H { s with heap:=h' }:=I.kept (t':=s.toks) kp
  have I2:Inv X J σ (upd H h'.objs.size (.tup ys)) { s with heap:=h'.push { cls:=.type "tuple",data:=.seq its.toArray } }:=
   W.laid (t':=s.toks) (λb o e=>ze _ e) (zn _) (show ObjOk X.prog X.w _ _ _ (.tup ys) from⟨hz,its,r',IsTup.new _ _⟩)
  exact⟨.ref h'.objs.size,_,I2,rfl,q _ (W.hok.fresh (zn _))⟩
 ·obtain⟨its,r',pl,hz⟩:=I.tuple L;exact call_tuple_same pl ⟨.ref p,H,I,rfl,q⟩
def tyV(K:W.Frag)(T:String)(x:V)(H:Hp):Prop:=match x with
 |.str _=>T = "str"
 |.int _=>T = "int"
 | .ref p => (T = "list" /\ ∃ xs, SqL K H p xs) \/ (T = "tuple" /\ ∃ o, K.lookup p = some o /\ o.cls = .type "tuple" /\ o.dict = none) \/
   (T = "dict" /\ ((∃J,H p=some (.dK J))\/∃J,H p=some (.dT J)))\/(T = "set" /\ ∃S n,H p=some (.set S n))
 |_=>False
def zY4{J:QqL}{σ:St}{H:Hp}{s:Shared}{T:String}{x:V}{v:Value}(I:Inv X J σ H s)(r:RelV x v)(ty:tyV X.K T x H) :
  s.TypeIs v T/\∀a,v=.ref a->∃W,s.heap.get? a=some W/\W.dict=none:=by
 cases x with
 |str z=>
  obtain⟨t,rfl⟩:=r;cases(show T = "str" from ty)
  exact⟨typeIs_str s z t,λ_ e=>nomatch e⟩
 |int i=>
  obtain⟨t,rfl⟩:=r;cases(show T = "int" from ty)
  exact⟨typeIs_int s i t,λ_ e=>nomatch e⟩
 | ref p =>
  cases r
  rcases ty with ⟨rfl,xs,Y⟩ |⟨rfl,o,hk,hc,hd⟩ |⟨rfl,hk⟩ |⟨rfl,S,n,hk⟩
  ·obtain⟨its,_,pl,_⟩:=I.list Y;refine⟨pl.isList.typeIs,λa e=>?_⟩;cases e;obtain⟨o,n,e,c,hd,_⟩:=pl;exact⟨o,e,hd⟩
  ·refine⟨⟨o,I.kIn p o hk,hc⟩,λa e=>?_⟩;cases e;exact⟨o,I.kIn _ o hk,hd⟩
  ·have z : ∃ o, s.heap.get? p = some o /\ o.ExactDict := by
    rcases hk with ⟨L,hk⟩ |⟨L,hk⟩
    ·obtain⟨_,_,_,_,o,_,_,e,ex,_⟩:=I.hok p _ hk;exact⟨o,e,ex⟩
    ·obtain⟨_,_,_,_,o,_,_,e,ex,_⟩:=I.hok p _ hk;exact⟨o,e,ex⟩
   obtain⟨o,e,ex⟩:=z;refine⟨⟨o,e,ex.1⟩,λa O=>?_⟩;cases O;exact⟨o,e,ex.2.1⟩
  ·obtain⟨o,_,_,_,e,ex,_⟩:=I.hok p _ hk;refine⟨⟨o,e,ex.1⟩,λa O=>?_⟩;cases O;exact⟨o,e,ex.2.1⟩
 |_=>exact False.elim ty
def tBM(K:W.Frag)(T:String)(r:V->List V->Hp->VK->Prop)(to:TE)(t:TA):TE:=λσ H Q=>to σ H λx J=>tyV K T x J/\t σ J λxs L=>r x xs L Q
variable {o e:Expr}{es:List Expr}{to:TE}{t:TA}{name:Str}{apos cpos:Pos}{T id:String}{r:V->List V->Hp->VK->Prop}
def xf5(pa:PlainAttrs T)(slot:Slot T name id)(aa:typeOf (.builtin id)=pure (.type "method_descriptor"))(hm:MtR X id r)(ho:PE X o to)(ha:PA X (e::es) t)
  (W:attributeBase o name X.env (eval o X.env)=eval o X.env:=by rfl)
  (Y : ((backTo cpos (starEach (e :: es) X.env)).all (λx => !x.1) && (backToKw cpos (keywordEach [] X.env)).all (λx => x.1.isSome)
   && decide ((e::es).length+([]:List Keyword).length+(if ([]:List Keyword).isEmpty then 0 else 1)<30))=true:=by rfl)
  (O:(apos.endLine == cpos.line)=true:=by rfl) (hs:starEach (e::es) X.env=(false,eval e X.env)::starEach es X.env:=by rfl) (L:(backTo cpos (starEach es X.env)).any (·.1)=false:=by rfl) :
  PE X (.Call (.Attribute o name apos) (e::es) [] cpos) (tBM X.K T r to t):=by
 intro J s σ H Q I h;refine wpAny_Call_method_late W Y O rfl (thn (ho J s σ H _ I h) λv s1 ⟨x,H1,I1,r1,ty,q1⟩=>?_);obtain⟨h1,h2⟩:=zY4 I1 r1 ty;refine⟨T,id,pa,slot,aa,h1,h2,?_⟩;have hA:=ha cpos J s1 σ H1 _ I1 q1;rw[hs] at hA ⊢
 refine Calls.callWith_builtin (by show(false||(backTo cpos (starEach es X.env)).any (·.1))=false;rw[L]<;>rfl) (Calls.evalArgs_plain ?_)
 exact thn hA λus s2 ⟨vs,H2,I2,r2,q2⟩=>hm J s2 σ H2 x vs v us Q I2 r1 r2 q2
end
def MtM(X:Cx)(id:String)(r:V->List V->Hp->VK->Prop):Prop:=
 ∀(J:QqL) (s:Shared) (σ:St) (H:Hp) (x:V) (xs:List V) (v:Value) (us:QqW) (Q:VK),Inv X J σ H s->RelV x v->Vals xs us->r x xs H Q ->
  wpAny (model X.prog X.w) X.A (call (.builtin id) (v::us)) (EP X J σ Q) X.xe s
theorem Vals.one:∀{x:V}{us:QqW},Vals [x] us->∃u,us=[u]/\RelV x u
 |_,_,.cons r .nil=>⟨_,rfl,r⟩
theorem Vals.rep{xs:List V}{us:QqW}(h:Vals xs us):∀k:Nat,Vals (replicate k xs).flatten (replicate k us).flatten
 |0=>.nil
 |k+1=>by
  rw[wR,wR,yh,yh];exact Vals.append h (Vals.rep h k)
def Kx(its:QqW):∀(k:Nat) (J:QqW),
  List.foldl (λO L=>O++L) J.toArray (replicate k its.toArray)=(J++(replicate k its).flatten).toArray
 |0,J=>by simp
 | k + 1, J => by
  have e:J.toArray++its.toArray=(J++its).toArray:=by simp
  have W:(J++its)++(replicate k its).flatten=J++(replicate (k+1) its).flatten:=by
   rw[wR,yh,yi]
  rw[<- W,<- Kx its k (J++its),<- e,wR,List.foldl_cons]
section
variable {X:Cx}{pins:QqL}{σ:St}{H:Hp}{s:Shared}{l b:Addr}{xs ys zs:List V}
def Inv.lset{its its':QqW}{n:Nat}{f:Array Value->Array Value}{t':Nat}(I:Inv X pins σ H s)(W:H l=some (.lst xs))
  (e:s.heap.get? l=some { cls:=.type "list",data:=.seq its.toArray n }) (L:f its.toArray=its'.toArray) (J:Vals ys its') (hz:ys.length<=sizeLine) :
  Inv X pins σ (upd H l (.lst ys)) { s with heap:=s.heap.update l (Obj.mapSeq f),toks:=t' }:=by
 have q:=PySem.IsL.update e f;rw[L] at q
 refine I.write (x:=l) (e:=l) (by rw[W];exact trivial) (.inl rfl) (λb' u O hu=>(wA s.heap (Obj.mapSeq f) (Ne.symm O)).trans hu) ⟨_,q⟩ ?_
 exact⟨hz,its',_,J,q⟩
def Inv.lnew{its:QqW}{t':Nat}(I:Inv X pins σ H s)(J:Vals ys its)(hz:ys.length<=sizeLine) :
  Inv X pins σ (upd H s.heap.objs.size (.lst ys)) { s with heap:=s.heap.push { cls:=.type "list",data:=.seq its.toArray },toks:=t' }:=
 I.laid (λ_ _ q=>ze _ q) (zn _) ⟨hz,its,0,J,zr _ rfl⟩
def Inv.fresh(I:Inv X pins σ H s):H s.heap.objs.size=none:=I.hok.fresh (zn _)
def Inv.lstM(I:Inv X pins σ H s)(J:H l=some (.lst xs)):xs.length<=sizeLine/\∃(its:QqW) (n:Nat),Vals xs its/\xs.length=its.length/\s.heap.get? l=some { cls:=.type "list",data:=.seq its.toArray n }:=by
 obtain⟨z,its,n,r,e⟩:=I.hok l _ J;exact⟨z,its,n,r,r.length,e⟩
def zD2{n:Nat}(h:n<=sizeLine):Builtin.List.listTooLong n=false:=by
 unfold Builtin.List.listTooLong
 exact zN w5
end
section
variable {X:Cx}
def zO6:V->List V->Hp->VK->Prop:=λx vs H Q=>∃l xs y,x=.ref l/\vs=[y]/\H l=some (.lst xs)/\xs.length<sizeLine/\Q .non (upd H l (.lst (xs++[y])))
def zo6:MtM X "list.append" zO6:=by
 intro J s σ H x vs v us Q I O rv h;obtain⟨l,xs,y,rfl,rfl,L,hz,q⟩:=h;cases O;obtain⟨u,rfl,W⟩:=rv.one;obtain⟨z,its,n,r,Y,e⟩:=I.lstM L
 refine call_meets F.slot_list_append ⟨_,e,rfl⟩ F.entry_list_append (F.args_list_append_2 _ _) (PySem.list_append l its.toArray n u (by rw[zq];lia)) ⟨e,?_⟩
 refine⟨.non,_,I.lset (its':=its++[u]) L e (by simp) (r.append (.cons W .nil)) ?_,rfl,q⟩
 rw[zy,List.length_singleton];lia
def zO5:V->List V->Hp->VK->Prop:=λx vs H Q=>∃l b xs J,x=.ref l/\vs=[.ref b]/\H l=some (.lst xs)/\H b=some (.lst J)/\xs.length+J.length<=sizeLine/\Q .non (upd H l (.lst (xs++J)))
def zo5:MtM X "list.extend" zO5:=by
 intro O s σ H x vs v us Q I Y rv h;obtain⟨l,b,xs,zs,rfl,rfl,W,hB,hz,q⟩:=h;cases Y;obtain⟨u,rfl,ru⟩:=rv.one;cases ru;obtain⟨z,its,n,r,hl,e⟩:=I.lstM W;obtain⟨z2,J,n2,r2,aa,e2⟩:=I.lstM hB
 have hsz:its.toArray.size+J.toArray.size<=sizeLine:=by rw[zq,zq];lia
 have L:¬ (!its.toArray.isEmpty&&Builtin.List.listTooLong (its.toArray.size+J.toArray.size))=true:=by
  rw[zD2 hsz,Bool.and_false];exact zJ
 refine call_meets F.slot_list_extend ⟨_,e,rfl⟩ F.entry_list_extend (F.args_list_extend_2 _ _)
  (AutoSeq1.list_extend_list_list_0 l its.toArray n b J.toArray n2 L (by rw[zq];lia) w5) ⟨e,e2,?_⟩
 refine⟨.non,_,I.lset (its':=its++J) W e (by simp) (r.append r2) ?_,rfl,q⟩
 rw[zy];lia
def xI8:R2:=λx y H Q=>∃l b xs J,x=.ref l/\y=.ref b/\H l=some (.lst xs)/\H b=some (.lst J)/\xs.length+J.length<=sizeLine/\∀p,H p=none->Q (.ref p) (upd H p (.lst (xs++J)))
def QJ:OpR X (binaryOp .Add) xI8:=by
 intro L s σ H x y v u Q I W O h;obtain⟨l,b,xs,zs,rfl,rfl,hH,hB,hz,q⟩:=h;cases W;cases O;obtain⟨z,its,n,r,hl,e⟩:=I.lstM hH;obtain⟨z2,J,n2,Y,aa,e2⟩:=I.lstM hB
 refine PySem.P.add_list e e2 ?_ (by rw[zq,zq];lia)
 have ea:its.toArray++J.toArray=(its++J).toArray:=by simp
 rw[ea]
 exact⟨.ref _,_,I.lnew (t':=s.toks) (r.append Y) (by rw[zy];lia),rfl,q _ I.fresh⟩
def zp3{α:Type}(xs:List α)(k:Nat):(replicate k xs).flatten.length=k*xs.length:=by
 induction k with
 |zero=>simp
 |succ k J=>rw[wR,yh,zy,J,Nat.succ_mul,Nat.add_comm]
end
section
variable {prog:Program}{w:World}{A:Around}{E:QqV}{s:Shared}
end
section
variable {X:Cx}
end
end L2
namespace Att
open PySem PySem.W PySem.Calls PyProof.Rows
def Wa{P:Params}{h:Heap}:∀(ns:List Int) (vs:QqW),WellAll P h vs (ns.map WData.int)->IntsAre vs ns:=by
 intro ns
 induction ns with
 |nil=>
  intro vs w;rw[map_nil] at w;cases w;exact .nil
 | cons n ns J =>
  intro vs w;rw[zE] at w
  cases w with
  |cons a b=>
   cases a;exact .cons _ _ (J _ b)
def zj2{l:OpenLaw}{n:Nat}(hn:l.most=some n){P:Params}{h:Heap}{args:List WData}{J:QqW}
  (L:l.row.toRowW.claim.pre args=true) (aa:WellAll P h J args) :
  ∃a vs ns,J=[Value.ref a]/\args=[WData.list (ns.map WData.int)]/\h.get? a=some { cls:=.type "list",data:=.seq vs.toArray }/\IntsAre vs ns/\ns.length<=n:=by
 have ac:WShape.hasAll [] args [.list .int]=true:=(pre_splitW L).1;have hc:l.pre.holds [] { args:=args }=true:=(pre_splitW L).2;obtain⟨d,r,rfl,h1,h2⟩:=hasAllW_cons ac;obtain rfl:=hasAllW_nil h2;obtain⟨xs,rfl,h3⟩:=hasW_list h1;obtain⟨ns,rfl⟩:=items_int h3
 have O:ns.length<=n:=by
  unfold OpenLaw.pre at hc
  have h4:(WTm.not (.lt (.lit (.int (n:Int))) (.len (.arg 0)))).holds [] { args:=[.list (ns.map .int)] }=true:=by
   have h4:=(holds_andW hc).1;rw[hn] at h4;exact h4
  have Y:=condW_of h4 (w_not (w_lt w_lit (w_len_list (w_arg rfl))));rw[zg] at Y;refine ym λq=>?_
  have q':(n:Int)<((ns.length:Nat):Int):=w5
  first
   |(rw[xm q'] at Y;exact absurd Y w6)
   |(simp at Y;lia)
 cases aa with
 |cons w1 w2=>
  cases w2
  cases w1 with
  |list ho W=>exact⟨_,_,ns,rfl,rfl,ho,Wa ns _ W,O⟩
def zl4(l:OpenLaw)(args:List WData):l.row.toRowW.claim.post args (.bool true) args=true:=
 postW_of (r:=l.row.toRowW) (X:=(true == true))
  (show WShape.has [] (.bool true) .bool=true by first |rfl |decide |simp[WShape.has,WShape.arms,WShape.armsAll])
  (show(WTm.eq .res (.lit (.bool true))).value [] { args:=args,res:=some (.bool true),after:=args }=some (.bool (true == true)) from w_eq_bool (w_res rfl) w_lit) rfl
def attach_call{l:OpenLaw}{n:Nat}{q:Program}{loose:List Str}{XP:(Str->Option Value)->Heap->Prop}{YP:World->Heap->Prop}{d:DefRec}
  (hn:l.most=some n) (af:d.params.defaults=[])
  (call : ∀ (w : World) (s₀ J : Shared) (mg mb : Str -> Option Value) (fa : Addr) (o : Obj) (pm cd O : Value) (a : Addr) (vs : List Value) (ns : List Int),
   Ground q loose [] XP w s₀ mg mb J.heap->YP w J.heap ->
   J.heap.get? fa=some o->o.data=.func (docDef d.name d.params d.body d.scope pm cd O)->J.heap.CodeRec cd d.name->mg d.name=some (.ref fa) ->
   J.heap.get? a=some { cls:=.type "list",data:=.seq vs.toArray }->IntsAre vs ns->ns.length<=n->J.gens=#[] ->
   codeAny (model l.prog w) callerA (.call (.ref fa) ⟨[.ref a],[]⟩) (λr s'=>r=.ok (.ret (.bool true))/\OldK J.heap s'.heap/\s'.os=J.os/\AllBare s'.gens) J) :
  WalkO q loose XP YP l.row.toRowW d [] (λf vs=>PySem.call f vs):=by
 intro w s₀ J mg mb G Y fa o pm cd O dV kV ho hd ag hD ae hg args ah as W ai aj ad ak;obtain rfl:dV=.none:=Dflts.none hD af;obtain rfl:kV=.none:=Dflts.noKw hD;obtain⟨a,vs,ns,rfl,rfl,aa,L,ac⟩:=zj2 hn W ad;refine enter_call (codeAny_mono (call w s₀ J mg mb fa o pm cd O a vs ns G Y ho (fd_plain hd) ag ae aa L ac hg) λr s' hq=>?_);obtain⟨rfl,h2,h3,h4⟩:=hq
 exact⟨.inl ⟨.bool true,.bool true,[],rfl,λ_=>rfl,.bool true,zl4 l _,λ_=>⟨List.Pairwise.nil,λ_ hm=>(nomatch hm)⟩⟩,h2,h3,h4⟩
section
variable {prog:Program}{w:World}{A:Around}{E:QqV}{s:Shared}{K:Frag}
end
end Att
namespace L2
theorem UE:∀{vs:QqW}{ns:List Int},IntsAre vs ns->Vals (ns.map V.int) vs
 |_,_,.nil=>.nil
 |_,_,.cons n t h=>.cons ⟨t,rfl⟩ (UE h)
def qg(s:Stmt):Arguments:=match s with
 |.FunctionDef _ a _ _ _ _ _ _ _ _=>a
 |_=>{ posonlyargs:=[],args:=[],vararg:=none,kwonlyargs:=[],kw_defaults:=[],kwarg:=none,defaults:=[] }
def vP(s:Stmt):List Stmt:=match s with
 |.FunctionDef _ _ b _ _ _ _ _ _ _=>b
 |_=>[]
def xi(s:Stmt):Scope:=match s with
 |.FunctionDef _ _ _ _ _ _ J _ _ _=>J
 |_=>{ kind:=.function,names:=[],isGenerator:=false,isCoroutine:=false }
abbrev CX0:CXT:=λ_ _ _ _ _ _=>False
abbrev E0:XK:=λ_ _ _=>False
def zC0{X:Cx}:zw5 CX0 X E0:=λ_ _ _ _ _ _ _ h=>h.elim
structure Fun(K:W.Frag)(x qual:Str)(st:Stmt)(f:Addr)(fd:FuncData):Prop where
 ex:∃(oc:Value) (od:QqE) (kV doc pm:Value) (an:QqE) (cdv ct:Value) (osl:Array (Option Value)),
  fd=W.fnOf x qual (qg st) (vP st) (xi st) .none kV doc pm an cdv ct/\K.lookup f=some ⟨oc,od,.func fd,osl⟩/\W.codeIn K cdv qual=true
 kp:W.keepIn K (.ref f)=true
section
variable {P:Program}{w:World}{K:W.Frag}{mg:QqM}{base:Heap}
def Fun.ok{x J:Str}{st:Stmt}{f:Addr}{fd:FuncData}{N ps:List Str}{k:Nat}{sp:Sp}(F:Fun K x J st f fd)(S:FnScope N ps (xi st))(len:∀vs H Q E,sp vs H Q E->vs.length=ps.length)
  (O : ∀ (L : Value) (A : Around) (outer : List Env) (s : Shared) (H : Hp) (vs : List V) (Q : VK) (E : XK), Room k (A.deeper (envOfC J (xi st) s.heap.objs.size f L)) -> sp vs H Q E ->
   ∃t,PSs (zx0 CX0 P w K mg base N J (xi st) f L A outer s H E).nox (vP st) t/\t { nx:=λ_ H'=>Q .non H',rt:=Q } (start N vs) H):FnOk P w K mg base CX0 (k+1) f fd ps sp:=by
 obtain⟨oc,od,kV,ac,pm,an,L,ct,aa,rfl,lk,Y⟩:=F.ex;refine xl5 lk Y S len λA outer s H vs Q E hr W=>?_;obtain⟨t,h,q⟩:=O L A outer s H vs Q E hr W;exact⟨t,h.nox,q⟩
def Fun.binds{x J:Str}{st:Stmt}{f:Addr}{fd:FuncData}{ps:List Str}(F:Fun K x J st f fd)
  (h:∀(kV L Y:Value) (an:QqE) (O ct:Value) (us:QqW),us.length=ps.length->bindArgs (W.fnOf x J (qg st) (vP st) (xi st) .none kV L Y an O ct) ⟨us,[]⟩=pure (ps.zip us)):Binds K fd ps []:=by
 obtain⟨oc,od,kV,L,Y,an,O,ct,aa,rfl,lk,ac⟩:=F.ex;exact .all (h kV L Y an O ct)
def zr8{x J:Str}{st:Stmt}{f:Addr}{oc:Value}{od an:QqE}{Y:Array (Option Value)}{kV O pm L ct:Value}(l:K.lookup f=some ⟨oc,od,.func (W.fnOf x J (qg st) (vP st) (xi st) .none kV O pm an L ct),Y⟩)
  (c:W.codeIn K L J=true) (k:W.keepIn K (.ref f)=true):Fun K x J st f (W.fnOf x J (qg st) (vP st) (xi st) .none kV O pm an L ct):=⟨⟨oc,od,kV,O,pm,an,L,ct,Y,rfl,l,c⟩,k⟩
end
def zU8{A:Around}{k:Nat}(J:Room k A):A.units+1<cLine:=Nat.lt_of_le_of_lt (Nat.add_le_add_left (by decide:1<=64) _) J.units
section
variable {X:Cx}
end
end L2
namespace L2
open PySem
def qi(env:Env):List (Str × NameKind)->List (Str × Addr)->List (Str × Addr)
 |[],J=>J
 |y::r,J=>if y.2 == .free then qi env r ((y.1,(env.cells.lookup y.1).getD 0)::J) else qi env r J
def vJ{env:Env}:∀(l:List (Str × NameKind)) (J:List (Str × Addr)),(∀y∈l,y.2=.free->∃c,env.cells.lookup y.1=some c)->(∀x c,J.lookup x=some c->env.cells.lookup x=some c) ->
  ∀x c,(qi env l J).lookup x=some c->env.cells.lookup x=some c
 |[],J,_,ha,x,c,h=>ha x c h
 | y :: r, J, L, ha, x, c, h => by
  unfold qi at h
  split at h
  ·rename_i hk
   have hk':y.2=.free:=by simpa using hk
   obtain⟨d,hd⟩:=L y xo hk';refine vJ r _ (λz hz=>L z (zj _ hz)) (λz e hz=>?_) x c h;rw[xF] at hz
   cases O:z == y.1 with
   |true=>
    rw[O,hd] at hz
    have Y:z=y.1:=by simpa using O
    have W:d=e:=by simpa using hz
    rw[Y,hd,W]
   |false=>rw[O] at hz;exact ha z e hz
  ·exact vJ r J (λz hz=>L z (zj _ hz)) ha x c h
theorem YG{env:Env}{x:Str}:∀(l:List (Str × NameKind)) (J:List (Str × Addr)),(∃c,J.lookup x=some c)->∃c,(qi env l J).lookup x=some c
 |[],J,h=>h
 | y :: r, J, h => by
  unfold qi
  split
  ·refine YG r _ ?_;rw[xF]
   cases L:x == y.1 with
   |true=>exact⟨_,rfl⟩
   |false=>exact h
  ·exact YG r J h
theorem kH{env:Env}{y:Str × NameKind}(hk:y.2=.free):∀(l:List (Str × NameKind)) (J:List (Str × Addr)),y∈l->∃c,(qi env l J).lookup y.1=some c
 |[],J,h=>by simp at h
 | z :: r, J, h => by
  unfold qi
  rcases zk.mp h with rfl |h
  ·rw [if_pos (by rw [hk]; rfl)]
   exact YG r _ ⟨_,al_List_lookup_cons_self⟩
  ·split
   ·exact kH hk r _ h
   ·exact kH hk r _ h
def Vq{env:Env}(f:Str × NameKind->List (Str × Addr)->Sem (ForInStep (List (Str × Addr))))
  (O:∀y J,f y J=if y.2 == .free then(cellOf env y.1 >>= λc=>pure (.yield ((y.1,c)::J))) else pure (.yield J)) :
  ∀(l:List (Str × NameKind)) (J:List (Str × Addr)),(∀y∈l,y.2=.free->∃c,env.cells.lookup y.1=some c)->forIn l J f=(pure (qi env l J):Sem _)
 |[],J,_=>by rw[forIn_nil];rfl
 | y :: r, J, h => by
  have L:=λJ=>Vq f O r J λz hz=>h z (zj _ hz);rw[forIn_cons,O];unfold qi
  split
  ·rename_i hk
   obtain⟨c,W⟩:=h y xo (by simpa using hk)
   have e:cellOf env y.1=pure c:=by unfold cellOf;rw[W]
   rw[e,W];exact L _
  ·exact L _
def Xm{J:Scope}{env:Env}(h:∀y∈J.names,y.2=.free->∃c,env.cells.lookup y.1=some c):closureFor J env=pure (qi env J.names []):=by
 have e:=Vq (env:=env) (λx L=>match x with |(name,kind)=>if (kind == NameKind.free)=true then(do let c <- cellOf env name;pure (.yield ((name,c)::L))) else pure (.yield L)) (λy W=>rfl) J.names [] h
 have O:closureFor J env=((forIn J.names [] (λx L=>match x with |(name,kind)=>if (kind == NameKind.free)=true then(do let c <- cellOf env name;pure (ForInStep.yield ((name,c)::L))) else pure (ForInStep.yield L)):Sem (List (Str × Addr))) >>= λL=>pure L):=rfl
 rw[O,e];rfl
def YQ{env:Env}{x:Str}:∀(l:List (Str × NameKind)),
  (l.map λ(n, k) => if (k == NameKind.free && env.scope.kind == .function && env.kindOf n == some .cell) then (n, NameKind.cell) else (n, k)).lookup x =
   (l.lookup x).map λk=>if (k == NameKind.free&&env.scope.kind == .function&&env.kindOf x == some .cell) then NameKind.cell else k
 |[]=>rfl
 | (n, k) :: r => by
  have J:=@YQ env x r;rw[zE]
  by_cases e:x=n
  ·subst e;dsimp only
   split
   ·rename_i h;rw[al_List_lookup_cons_self,al_List_lookup_cons_self,Option.map_some,if_pos h]
   ·rename_i h;rw[al_List_lookup_cons_self,al_List_lookup_cons_self,Option.map_some,if_neg h]
  ·have e' : (x == n) = false := by simpa using e
   dsimp only
   split
   ·rw[xF,e',xF,e'];exact J
   ·rw[xF,e',xF,e'];exact J
def za4:∀(l:List (Str × NameKind)) (h:Heap) (J:List (Str × Addr)) (x:Str) (c:Addr),(cellsFrom h.objs.size l J).lookup x=some c ->
  ((pushCells h l).IsCell c none/\h.objs.size<=c/\(x,NameKind.cell)∈l)\/J.lookup x=some c
 |[],_,_,_,_,e=>.inr e
 | (n, k) :: r, h, J, x, c, e => by
  unfold cellsFrom at e;unfold pushCells
  split at e
  ·rename_i hk
   have hk':k=.cell:=by simpa using hk
   rw[if_pos hk];have hz:(h.push { cls:=.type "cell",data:=.cell none }).objs.size=h.objs.size+1:=wc ..;rw[<- hz] at e
   rcases za4 r (h.push { cls:=.type "cell",data:=.cell none }) _ x c e with ⟨a,b,d⟩ |q
   ·exact .inl ⟨a,by rw[hz] at b;lia,zj _ d⟩
   ·rw [xF] at q
    cases L:x == n with
    |false=>rw[L] at q;exact .inr q
    |true=>
     rw[L] at q
     have W:h.objs.size=c:=by simpa using q
     have O:x=n:=by simpa using L
     subst W O
     refine .inl ⟨?_,zn _,by rw[hk'];exact xo⟩
     exact⟨_,pushCells_keeps _ _ _ _ (zr _ rfl),rfl⟩
  ·rename_i hk;rw[if_neg hk]
   rcases za4 r h J x c e with ⟨a,b,d⟩ |q
   ·exact .inl ⟨a,b,zj _ d⟩
   ·exact .inr q
def za2:∀(l:List (Str × NameKind)) (n:Nat) (J:List (Str × Addr)),(∀x y c,J.lookup x=some c->J.lookup y=some c->x=y)->(∀x c,J.lookup x=some c->c<n) ->
  ∀x y c,(cellsFrom n l J).lookup x=some c->(cellsFrom n l J).lookup y=some c->x=y
 |[],_,_,hi,_,x,y,c,e,e'=>hi x y c e e'
 | (m, k) :: r, n, J, hi, L, x, y, c, e, e' => by
  unfold cellsFrom at e e'
  have one:∀z d,((m,n)::J).lookup z=some d->(z=m/\d=n)\/J.lookup z=some d:=λz d q=>by
   rw[xF] at q
   cases W:z == m with
   |true=>rw[W] at q;exact .inl ⟨by simpa using W,by simpa using q.symm⟩
   |false=>rw[W] at q;exact .inr q
  split at e
  ·rename_i hk;rw[if_pos hk] at e';refine za2 r (n+1) ((m,n)::J) (λa b d q q'=>?_) (λa d q=>?_) x y c e e'
   ·rcases one a d q with ⟨a1, a2⟩ | a1 <;> rcases one b d q' with ⟨O, Y⟩ | O
    ·rw[a1,O]
    ·exact absurd (L b d O) (by rw[a2];exact xj _)
    ·exact absurd (L a d a1) (by rw[Y];exact xj _)
    ·exact hi a b d a1 O
   ·rcases one a d q with ⟨_, a2⟩ | a1
    ·rw[a2];exact Nat.lt_succ_self _
    ·exact xX (L a d a1)
  ·rename_i hk;rw[if_neg hk] at e';exact za2 r n J hi L x y c e e'
theorem qX{x:Str}:∀(l:List (Str × NameKind)) (n:Nat) (J:List (Str × Addr)),(∃c,J.lookup x=some c)->∃c,(cellsFrom n l J).lookup x=some c
 |[],_,_,h=>h
 | (m, k) :: r, n, J, h => by
  unfold cellsFrom
  split
  ·refine qX r _ _ ?_;rw[xF]
   cases L:x == m with
   |true=>exact⟨_,rfl⟩
   |false=>exact h
  ·exact qX r _ _ h
theorem za3{x:Str}:∀(l:List (Str × NameKind)) (n:Nat) (J:List (Str × Addr)),(x,NameKind.cell)∈l->∃c,(cellsFrom n l J).lookup x=some c
 |[],_,_,h=>by simp at h
 | (m, k) :: r, n, J, h => by
  unfold cellsFrom
  rcases zk.mp h with e |h
  ·cases e;exact qX r _ _ ⟨_,al_List_lookup_cons_self⟩
  ·split
   ·exact za3 r _ _ h
   ·exact za3 r _ _ h
theorem zG9{x:Str}:∀(l:List (Str × NameKind)) (n:Nat) (J:List (Str × Addr)) (lo:Nat),lo<=n->((x,NameKind.cell)∈l\/∀c,J.lookup x=some c->lo<=c)->∀c,(cellsFrom n l J).lookup x=some c->lo<=c
  | [], n, J, lo, L, h, c, e => by
    rcases h with h |h
    · simp at h
    · exact h c e
  | (m, k) :: r, n, J, lo, L, h, c, e => by
    unfold cellsFrom at e
    split at e
    · rename_i hk
      refine zG9 r (n+1) ((m,n)::J) lo w5 ?_ c e
      rcases h with h |h
      · rcases zk.mp h with z | z
        · cases z
          refine .inr λd q=>?_;rw[al_List_lookup_cons_self] at q
          have:n=d:=by simpa using q
          lia
        · exact .inl z
      · refine .inr λd q => ?_
        rw[xF] at q
        cases O:x == m with
        | true => rw [O] at q; have : n = d := by simpa using q;
                  lia
        |false=>rw[O] at q;exact h d q
    · rename_i hk
      refine zG9 r n J lo L ?_ c e
      rcases h with h |h
      · rcases zk.mp h with z | z
        · cases z;exact absurd rfl hk
        · exact .inl z
      · exact .inr h
section
variable {M:Model}{A:Around}{E:QqV}{s:Shared}
def Zu{J:Scope}{env:Env}{O:List (Str × Addr)}{Q:Env->Shared->Prop}
  (h : Q (newEnv J s.heap.objs.size env.globals (cellsFrom (s.heap.objs.size + 1) J.names O) env.qual none .none (some env) builtinsNs)
   { s with heap:=pushCells (s.heap.push { cls:=.type "dict",data:=.dict #[] }) J.names }) :
  wpAny M A (newFunctionEnv J env.globals O [] env.qual none .none (some env)) Q E s:=by
 simp only[newFunctionEnv,Option.isSome_some,if_true];refine zb (wpAny_alloc ?_);refine zb (wpAny_layCells _ (λname kind cells=>?_) _ _ _ _ ?_)
 ·cases L:kind == NameKind.cell<;>simp[L]
 ·rw[List.forIn_nil];refine zb (zf (zf ?_));have hz:({ s with heap:=s.heap.push { cls:=.type "dict",data:=.dict #[] } }:Shared).heap.objs.size=s.heap.objs.size+1:=wc ..;rw[hz];exact h
end
abbrev zv3(ifs:List Expr)(env:Env):Sem Bool:=forIn ifs true λc r=>if r=true then do let ok <- isTrue c env (eval c env);pure (ForInStep.yield ok) else pure (ForInStep.yield r)
section
variable {prog:Program}{w:World}{A:Around}{R:Result->Shared->Prop}{s:Shared}
def zu5{W L iter:Expr}{ifs:List Expr}{O:Scope}{pos:Pos}{it Y:Value}{env:Env}(J:Nat->Shared->Prop)
  (turn : ∀ n s, J n s -> wpAny (model prog w) A (pyNext it) (λr s1 => match r with
   |none=>R (.ok .next) s1
   | some v => wpAny (model prog w) A (letOwnedTupleGo L it v) (λ_ s2 => wpAny (model prog w) A (assign L env v) (λ_ s3 => wpAny (model prog w) A (zv3 ifs env) (λok s4 =>
     if ok=true then wpAny (model prog w) A (eval W env) (λx s5=>wpAny (model prog w) A (call (.builtin "list.append") [Y,x]) (λ_ s6=>∃m,m<n/\J m s6) (λ_ _=>False) s5) (λ_ _=>False) s4
     else ∃m,m<n/\J m s4) (λ_ _=>False) s3) (λ_ _=>False) s2) (λ_ _=>False) s1) (λ_ _=>False) s)
  (n:Nat) (h:J n s):codeAny (model prog w) A (.compLoop (.ListComp W [⟨L,iter,ifs,0⟩] O pos) 0 it Y env) R s:=by
 refine codeAny_loop rfl J (λn s hJ=>?_) n h
 show wpAny _ A ((compTurn (.ListComp W [⟨L,iter,ifs,0⟩] O pos) 0 it Y env).onRaise (λx=>do noteFrame x env;theTreesLotGoes x)) _ _ s
 refine wpAny_noted ?_;rw[compTurn_list]
 have up:∀{α:Type}{t:Sem α}{Q Q':α->Shared->Prop}{E:QqV}{s:Shared},wpAny (model prog w) A t Q (λ_ _=>False) s->(∀a s,Q a s->Q' a s)->wpAny (model prog w) A t Q' E s:=
  λh f=>wM h f λ_ _ z=>False.elim z
 refine zb (wpAny_standAt (zb (up (turn n s hJ) λr s1 h1=>?_)))
 cases r with
 |none=>exact zf h1
 |some v=>
  refine zb (up h1 λ_ s2 h2=>?_);refine zb (up h2 λ_ s3 h3=>?_);refine zb (up h3 λok s4 h4=>?_)
  cases ok with
  |false=>exact zf ⟨rfl,h4⟩
  |true=>exact zb (zb (up h4 λx s5 h5=>zb (up h5 λ_ s6 h6=>zf (zf ⟨rfl,h6⟩))))
end
def Vj(b:Bool):String:=if b then "list_iterator" else "tuple_iterator"
def SeqIs(b:Bool)(h:Heap)(l:Addr)(xs:Array Value):Prop:=match b with |true=>h.IsList l xs |false=>h.IsTuple l xs
def IterIs(b:Bool)(h:Heap)(i l:Addr)(k:Nat):Prop:=match b with |true=>h.IsListIter i l k |false=>h.IsTupleIter i l k
def SeqIs.at{b:Bool}{h h':Heap}{l:Addr}{xs:Array Value}(x:SeqIs b h l xs)(hk:∀o,h.get? l=some o->h'.get? l=some o):SeqIs b h' l xs:=by
 cases b<;>(obtain⟨o,e,r⟩:=x;exact⟨o,hk o e,r⟩)
def IterIs.at{b:Bool}{h h':Heap}{i l:Addr}{k:Nat}(x:IterIs b h i l k)(hk:∀o,h.get? i=some o->h'.get? i=some o):IterIs b h' i l k:=by
 cases b<;>(obtain⟨o,e,r⟩:=x;exact⟨o,hk o e,r⟩)
def IterIs.obj{b:Bool}{h:Heap}{i l:Addr}{k:Nat}(x:IterIs b h i l k):∃o,h.get? i=some o/\o.cls=.type (Vj b)/\o.data=.fields #[.ref l,.int k 0]:=by
 cases b<;>exact x
def SeqIs.ne{b c:Bool}{h:Heap}{l i m:Addr}{k:Nat}{xs:Array Value}(x:SeqIs b h l xs)(y:IterIs c h i m k):l≠i:=by
 rintro rfl;obtain⟨o,e,J,_⟩:=y.obj
 cases b<;>(obtain⟨o',e',hc',_⟩:=x;rw[e] at e';cases e';rw[J] at hc';cases c<;>exact absurd (Value.type.inj hc') w6)
section
variable {prog:Program}{w:World}{A:Around}{E:QqV}{s:Shared}
def WW{b:Bool}{l:Addr}{xs:Array Value}{Q:QqV}(J:SeqIs b s.heap l xs)
  (L:Q (.ref s.heap.objs.size) { s with heap:=s.heap.push { cls:=.type (Vj b),data:=.fields #[.ref l,.int 0 0] } }):wpAny (model prog w) A (pyIter (.ref l)) Q E s:=by
 cases b with
 |true=>exact wQ J L
 |false=>exact wpAny_pyIter_tuple J L
def zd7{it l:Addr}{i:Nat}{items:Array Value}{x:Value}{Q:QqV}(J:s.heap.IsTupleIter it l i)(hl:s.heap.IsTuple l items)(hx:items[i]?=some x)
  (hQ:∀h',h'.IsTupleIter it l (i+1)->Heap.SameBut it s.heap h'->Q x { s with heap:=h' }):wpAny (model prog w) A (Builtin.SmallTypes.nextOf (.ref it)) Q E s:=by
 obtain⟨o,L,hc,hd⟩:=id J;obtain⟨ol,O,_,nl,W⟩:=hl;unfold Builtin.SmallTypes.nextOf;refine zb (xO (name:=Str.ofString "__next__") J.typeIs F.slot_tuple_iterator_next (wz F.slot_tuple_iterator_next J.typeIs F.entry_tuple_iterator_next ?_ (F.args_tuple_iterator_next_1 _)));show wpAny _ A.in1 (field (.ref it) 0 >>= _) _ _ s;refine zb (wy (x:=.ref l) L hd rfl ?_)
 show wpAny _ A.in1 (if (Value.ref l == Value.none)=true then _ else _) _ _ s
 have Y:¬ ((Value.ref l == Value.none)=true):=zJ;rw[if_neg Y];show wpAny _ A.in1 (field (.ref it) 1 >>= _) _ _ s;refine zb (wy (x:=.int i 0) L hd rfl ?_);show wpAny _ A.in1 (seqItems? (.ref l) >>= _) _ _ s;refine zb (wu O W ?_);simp only[hx,yP]
 refine zb (wpAny_setField L hd (by simp) (zf ⟨x,rfl,zf (hQ _ ⟨_,xT _ L (Obj.isFreed_of_fields (Obj.data_mapFields hd _)),(Obj.cls_mapFields ..).trans hc,?_⟩ (Heap.SameBut.update ..))⟩))
 rw[Obj.data_mapFields hd];simp[rawInt]
def Wz{it l:Addr}{i:Nat}{items:Array Value}{Q:QqV}(hh:A.handled=none)(J:s.heap.IsTupleIter it l i)(hl:s.heap.IsTuple l items)(hx:items[i]?=none)
  (hE:∀h' e,Heap.ExtBut it s.heap h'->(∃o,h'.get? e=some o/\o.cls=.type "StopIteration")->E (.ref e) { s with heap:=h' }):wpAny (model prog w) A (Builtin.SmallTypes.nextOf (.ref it)) Q E s:=by
 obtain⟨o,O,hc,hd⟩:=id J;obtain⟨ol,L,_,nl,W⟩:=hl;unfold Builtin.SmallTypes.nextOf;refine zb (xO (name:=Str.ofString "__next__") J.typeIs F.slot_tuple_iterator_next (wz F.slot_tuple_iterator_next J.typeIs F.entry_tuple_iterator_next ?_ (F.args_tuple_iterator_next_1 _)));show wpAny _ A.in1 (field (.ref it) 0 >>= _) _ _ s;refine zb (wy (x:=.ref l) O hd rfl ?_)
 show wpAny _ A.in1 (if (Value.ref l == Value.none)=true then _ else _) _ _ s
 have Y:¬ ((Value.ref l == Value.none)=true):=zJ;rw[if_neg Y];show wpAny _ A.in1 (field (.ref it) 1 >>= _) _ _ s;refine zb (wy (x:=.int i 0) O hd rfl ?_);show wpAny _ A.in1 (seqItems? (.ref l) >>= _) _ _ s;refine zb (wu L W ?_);simp only[hx,yP]
 refine zb (yD (zb (wpAny_setField O hd (by simp) ?_)))
 show wpAny _ A.in1 (newExc (.type "StopIteration") [] >>= _) _ _ _;refine zb ?_;simp only[newExc,newTuple]
 refine zb (xz ?_ (by size_fits))
 refine zb (m:=firstArgMember _ _) (wpAny_of_eq (a:=Value.none) (by simp only[firstArgMember];rfl) ?_)
 refine xz ?_ (by size_fits)
 simp only[raiseNew];refine zb (wpAny_handled ?_);rw[show A.in1.handled=none from hh];refine zb (zf (wpAny_throw ?_));exact hE _ _ (((Heap.SameBut.update ..).extBut.push _).push _) ⟨_,zr _ rfl,rfl⟩
def Yx{b:Bool}{it l:Addr}{i:Nat}{items:Array Value}{x:Value}{Q:QqV}(J:IterIs b s.heap it l i)(L:SeqIs b s.heap l items)(hx:items[i]?=some x)
  (O:∀h',IterIs b h' it l (i+1)->Heap.SameBut it s.heap h'->Q x { s with heap:=h' }):wpAny (model prog w) A (Builtin.SmallTypes.nextOf (.ref it)) Q E s:=by
 cases b with
 |true=>exact wpAny_nextOf_list_item J L hx O
 |false=>exact zd7 J L hx O
def jV{b:Bool}{it l:Addr}{i:Nat}{items:Array Value}{Q:QqV}(O:A.handled=none)(J:IterIs b s.heap it l i)(L:SeqIs b s.heap l items)(hx:items[i]?=none)
  (W:∀h' e,Heap.ExtBut it s.heap h'->(∃o,h'.get? e=some o/\o.cls=.type "StopIteration")->E (.ref e) { s with heap:=h' }):wpAny (model prog w) A (Builtin.SmallTypes.nextOf (.ref it)) Q E s:=by
 cases b with
 |true=>exact wpAny_nextOf_list_end O J L hx W
 |false=>exact Wz O J L hx W
structure ZApart(z ti to i1 i2:Addr):Prop where
 a1:ti≠z
 a2:to≠z
 a3:i1≠z
 a4:i2≠z
 a5:ti≠to
 a6:ti≠i1
 a7:ti≠i2
 a8:to≠i1
 a9:to≠i2
 a10:i1≠i2
structure ZSt(b c:Bool)(z ti to i1 i2 l1 l2:Addr)(k:Nat)(h:Heap):Prop where
 z:IsZip h z ti to .none
 ti:IsPair h ti (.ref i1) (.ref i2)
 to:∃u v,IsPair h to u v
 i1:IterIs b h i1 l1 k
 i2:IterIs c h i2 l2 k
structure ZMid(b c:Bool)(z ti to i1 i2 l1 l2:Addr)(k:Nat)(T:Addr)(h:Heap):Prop where
 z:IsZip h z ti to (rawInt T)
 ti:IsPair h ti (.ref i1) (.ref i2)
 to:∃u v,IsPair h to u v
 i1:IterIs b h i1 l1 (k+1)
 i2:IterIs c h i2 l2 (k+1)
def ZSt.apartL{b c d:Bool}{z ti to i1 i2 O L l:Addr}{k:Nat}{h:Heap}{xs:Array Value}(x:ZSt b c z ti to i1 i2 O L k h)(J:SeqIs d h l xs)(W:l≠to):l≠z/\l≠i1/\l≠i2:=by
 refine⟨?_,J.ne x.i1,J.ne x.i2⟩;rintro rfl;have e:=x.z
 cases d<;>(obtain⟨o',e',hc',_⟩:=J;rw[e] at e';cases e';exact absurd (Value.type.inj hc') w6)
def zx3{b c:Bool}{z ti to i1 i2 l1 l2:Addr}{k:Nat}{xs ys:Array Value}{x y:Value}{Q:QqV}(D:ZApart z ti to i1 i2)(S:ZSt b c z ti to i1 i2 l1 l2 k s.heap)
  (ad:SeqIs b s.heap l1 xs) (ac:SeqIs c s.heap l2 ys) (n1:l1≠to) (n2:l2≠to) (hx:xs[k]?=some x) (hy:ys[k]?=some y)
  (hQ:∀h',ZMid b c z ti to i1 i2 l1 l2 k s.heap.objs.size h'->IsPair h' s.heap.objs.size x y->(∀d o,d≠z->d≠to->d≠i1->d≠i2->s.heap.get? d=some o->h'.get? d=some o)->Q (.ref s.heap.objs.size) { s with heap:=h' }) :
  wpAny (model prog w) A (Builtin.«zip.__next__» ⟨[.ref z],[]⟩) (λfin s'=>∃v,fin=.done (.ret v)/\Q v s') E s:=by
 obtain⟨m1,m2,m3⟩:=S.apartL ad n1;obtain⟨m4,m5,m6⟩:=S.apartL ac n2;obtain⟨hz,ae,⟨u,v,af⟩,h1,h2⟩:=S;show wpAny _ A (field (.ref z) 2 >>= _) _ _ _;refine zb (wy (x:=.bool false) hz rfl rfl ?_);show wpAny _ A (field (.ref z) 3 >>= _) _ _ _;refine zb (wy (x:=.ref ti) hz rfl rfl ?_);refine zb (wu ae rfl ?_);show wpAny _ A (Builtin.SmallTypes.ownedTupleIsFree (.ref z) >>= _) _ _ _;refine zb ?_;unfold Builtin.SmallTypes.ownedTupleIsFree;refine zb (wy (x:=.none) hz rfl rfl (zf ?_));simp only[if_true];refine zb (yD ?_);refine zb (wy (x:=.ref to) hz rfl rfl ?_)
 refine zb (yo hz (by simp) λg1 aa s1=>?_)
 replace aa:IsZip g1 z ti to .ellipsis:=aa
 refine zb ?_;simp only[forIn_cons,forIn_nil,zipIdx_cons,List.zipIdx_nil];refine zb (zb (wpAny_onRaise ?_));show wpAny _ A (Builtin.SmallTypes.nextOf (.ref i1) >>= _) _ _ _;refine zb (Yx (h1.at λo e=>s1.extBut _ _ D.a3 e) (ad.at λo e=>s1.extBut _ _ m1 e) hx λg2 k1 s2=>zf ?_);have Y:IsPair g2 to u v:=s2.extBut _ _ D.a8 (s1.extBut _ _ D.a2 af);refine zb (wu Y rfl ?_);refine zb (wpAny_updateSeq_pair Y λg3 O s3=>?_)
 replace O:IsPair g3 to x v:=O
 refine zb (yx (zf ?_));refine zb (zb (wpAny_onRaise ?_));show wpAny _ A (Builtin.SmallTypes.nextOf (.ref i2) >>= _) _ _ _;refine zb (Yx (h2.at λo e=>s3.extBut _ _ D.a9.symm (s2.extBut _ _ D.a10.symm (s1.extBut _ _ D.a4 e))) (ac.at λo e=>s3.extBut _ _ n2 (s2.extBut _ _ m5 (s1.extBut _ _ m4 e))) hy λg4 k2 s4=>zf ?_);have W:IsPair g4 to x v:=s4.extBut _ _ D.a9 O;refine zb (wu W rfl ?_);refine zb (wpAny_updateSeq_pair W λL J s5=>?_)
 replace J:IsPair L to x y:=J
 refine zb (yx (zf (zf ?_)));refine zb (wu J rfl ?_);refine zb (wpAny_newTuple ?_)
 have sz:L.objs.size=s.heap.objs.size:=by rw[s5.1,s4.1,s3.1,s2.1,s1.1]
 have z5:IsZip L z ti to .ellipsis:=s5.extBut _ _ D.a2.symm (s4.extBut _ _ D.a4.symm (s3.extBut _ _ D.a2.symm (s2.extBut _ _ D.a3.symm aa)));have kp:∀d o,d≠z->d≠to->d≠i1->d≠i2->s.heap.get? d=some o->L.get? d=some o:=λd o d1 d2 d3 d4 e=>s5.extBut _ _ d2 (s4.extBut _ _ d4 (s3.extBut _ _ d2 (s2.extBut _ _ d3 (s1.extBut _ _ d1 e))));have j1:IterIs b L i1 l1 (k+1):=k1.at λo e=>s5.extBut _ _ D.a8.symm (s4.extBut _ _ D.a10 (s3.extBut _ _ D.a8.symm e));have j2:IterIs c L i2 l2 (k+1):=k2.at λo e=>s5.extBut _ _ D.a9.symm e;have zl:z<L.objs.size:=zo z5;show wpAny _ A (Builtin.SmallTypes.ownedTupleHandOut (.ref z) (.ref L.objs.size) >>= _) _ _ _;refine zb ?_;unfold Builtin.SmallTypes.ownedTupleHandOut;have z6:IsZip (L.push { cls:=.type "tuple",data:=.seq #[x,y] }) z ti to .ellipsis:=ze _ z5
 refine zb (yo z6 (by simp) λg7 z7 s7=>?_)
 replace z7:IsZip g7 z ti to (rawInt L.objs.size):=z7
 refine yo z7 (by simp) λg8 z8 s8=>?_
 replace z8:IsZip g8 z ti to (rawInt L.objs.size):=z8
 have up:∀d o,d≠z->L.get? d=some o->g8.get? d=some o:=λd o d1 e=>s8.extBut _ _ d1 (s7.extBut _ _ d1 (ze _ e));have T8:IsPair g8 L.objs.size x y:=s8.extBut _ _ (xS zl) (s7.extBut _ _ (xS zl) (zr _ rfl));rw[sz] at z8 T8;refine zf ⟨_,rfl,?_⟩;show Q (.ref L.objs.size) _;rw[sz];exact hQ g8 ⟨z8,up _ _ D.a1 (kp _ _ D.a1 D.a5 D.a6 D.a7 ae),⟨_,_,up _ _ D.a2 J⟩,j1.at λo e=>up _ o D.a3 e,j2.at λo e=>up _ o D.a4 e⟩ T8 λd o d1 d2 d3 d4 e=>up d o d1 (kp d o d1 d2 d3 d4 e)
def zx2{b c:Bool}{z ti to i1 i2 l1 l2:Addr}{k:Nat}{xs ys:Array Value}{Q:Fin->Shared->Prop}(hh:A.handled=none)(D:ZApart z ti to i1 i2)(S:ZSt b c z ti to i1 i2 l1 l2 k s.heap)
  (ad:SeqIs b s.heap l1 xs) (ac:SeqIs c s.heap l2 ys) (n1:l1≠to) (n2:l2≠to) (ae:xs[k]?=none\/ys[k]?=none)
  (hE:∀h' e,(∀d o,d≠z->d≠to->d≠i1->d≠i2->s.heap.get? d=some o->h'.get? d=some o)->(∃o,h'.get? e=some o/\o.cls=.type "StopIteration")->E (.ref e) { s with heap:=h' }) :
  wpAny (model prog w) A (Builtin.«zip.__next__» ⟨[.ref z],[]⟩) Q E s:=by
 obtain⟨m1,m2,m3⟩:=S.apartL ad n1;obtain⟨m4,m5,m6⟩:=S.apartL ac n2;obtain⟨hz,ag,⟨u,v,af⟩,h1,h2⟩:=S;show wpAny _ A (field (.ref z) 2 >>= _) _ _ _;refine zb (wy (x:=.bool false) hz rfl rfl ?_);show wpAny _ A (field (.ref z) 3 >>= _) _ _ _;refine zb (wy (x:=.ref ti) hz rfl rfl ?_);refine zb (wu ag rfl ?_);show wpAny _ A (Builtin.SmallTypes.ownedTupleIsFree (.ref z) >>= _) _ _ _;refine zb ?_;unfold Builtin.SmallTypes.ownedTupleIsFree;refine zb (wy (x:=.none) hz rfl rfl (zf ?_));simp only[if_true];refine zb (yD ?_);refine zb (wy (x:=.ref to) hz rfl rfl ?_)
 refine zb (yo hz (by simp) λg1 O s1=>?_)
 replace O:IsZip g1 z ti to .ellipsis:=O
 refine zb ?_;simp only[forIn_cons,forIn_nil,zipIdx_cons,List.zipIdx_nil];refine zb (zb (wpAny_onRaise ?_));show wpAny _ A (Builtin.SmallTypes.nextOf (.ref i1) >>= _) _ _ _;have q1:IterIs b g1 i1 l1 k:=h1.at λo e=>s1.extBut _ _ D.a3 e;have q2:SeqIs b g1 l1 xs:=ad.at λo e=>s1.extBut _ _ m1 e
 cases hx:xs[k]? with
 |none=>
  refine zb (jV hh q1 q2 hx λg2 e W he=>?_);obtain⟨oe,J,L⟩:=he;have z2:IsZip g2 z ti to .ellipsis:=W _ _ D.a3.symm O
  have aa:e≠z:=λq=>by subst q;rw[z2] at J;cases J;exact absurd (Value.type.inj L) w6
  exact yo z2 (by simp) λg3 _ s3=>hE g3 e (λd o d1 _ d3 _ q=>s3.extBut _ _ d1 (W _ _ d3 (s1.extBut _ _ d1 q))) ⟨oe,s3.extBut _ _ aa J,L⟩
 | some x =>
  have hy:ys[k]?=none:=by
   rcases ae with h |h
   ·rw[hx] at h;cases h
   ·exact h
  refine zb (Yx q1 q2 hx λg2 k1 W=>zf ?_);have Y:IsPair g2 to u v:=W.extBut _ _ D.a8 (s1.extBut _ _ D.a2 af);refine zb (wu Y rfl ?_);refine zb (wpAny_updateSeq_pair Y λg3 ah s3=>?_);refine zb (yx (zf ?_));refine zb (zb (wpAny_onRaise ?_));show wpAny _ A (Builtin.SmallTypes.nextOf (.ref i2) >>= _) _ _ _;refine zb (jV hh (h2.at λo e=>s3.extBut _ _ D.a9.symm (W.extBut _ _ D.a10.symm (s1.extBut _ _ D.a4 e))) (ac.at λo e=>s3.extBut _ _ n2 (W.extBut _ _ m5 (s1.extBut _ _ m4 e))) hy λg4 e s4 he=>?_);obtain⟨oe,J,L⟩:=he;have z4:IsZip g4 z ti to .ellipsis:=s4 _ _ D.a4.symm (s3.extBut _ _ D.a2.symm (W.extBut _ _ D.a3.symm O))
  have aa:e≠z:=λq=>by subst q;rw[z4] at J;cases J;exact absurd (Value.type.inj L) w6
  exact yo z4 (by simp) λg5 _ s5=>hE g5 e (λd o d1 d2 d3 d4 q=>s5.extBut _ _ d1 (s4 _ _ d4 (s3.extBut _ _ d2 (W.extBut _ _ d3 (s1.extBut _ _ d1 q))))) ⟨oe,s5.extBut _ _ aa J,L⟩
def zD4{b c:Bool}{z ti to i1 i2 L J:Addr}{k:Nat}{xs ys:Array Value}{x y:Value}{Q:QqS}(D:ZApart z ti to i1 i2)(S:ZSt b c z ti to i1 i2 L J k s.heap)
  (W:SeqIs b s.heap L xs) (O:SeqIs c s.heap J ys) (n1:L≠to) (n2:J≠to) (hx:xs[k]?=some x) (hy:ys[k]?=some y)
  (hQ:∀h',ZMid b c z ti to i1 i2 L J k s.heap.objs.size h'->IsPair h' s.heap.objs.size x y->(∀d o,d≠z->d≠to->d≠i1->d≠i2->s.heap.get? d=some o->h'.get? d=some o)->Q (some (.ref s.heap.objs.size)) { s with heap:=h' }) :
  wpAny (model prog w) A (pyNext (.ref z)) Q E s:=by
 have Y:s.TypeIs (.ref z) "zip" := ⟨_,S.z,rfl⟩;unfold pyNext
 exact zb (wpAny_attempt (xO (name:=Str.ofString "__next__") Y F.slot_zip_next (wz F.slot_zip_next Y F.entry_zip_next
  (zx3 D S W O n1 n2 hx hy λh' a1 a2 a3=>zf (hQ h' a1 a2 a3)) (F.args_zip_next_1 _))))
def Kd{b c:Bool}{z ti to i1 i2 O L:Addr}{k:Nat}{xs ys:Array Value}{Q:QqS}(hh:A.handled=none)(D:ZApart z ti to i1 i2)(S:ZSt b c z ti to i1 i2 O L k s.heap)
  (Y:SeqIs b s.heap O xs) (W:SeqIs c s.heap L ys) (n1:O≠to) (n2:L≠to) (J:xs[k]?=none\/ys[k]?=none)
  (hQ:∀h',(∀d o,d≠z->d≠to->d≠i1->d≠i2->s.heap.get? d=some o->h'.get? d=some o)->Q none { s with heap:=h' }):wpAny (model prog w) A (pyNext (.ref z)) Q E s:=by
 have hT:s.TypeIs (.ref z) "zip" := ⟨_,S.z,rfl⟩;unfold pyNext
 refine zb (wpAny_attempt (xO (name:=Str.ofString "__next__") hT F.slot_zip_next (wz F.slot_zip_next hT F.entry_zip_next
  (zx2 hh D S Y W n1 n2 J λh' e hk he=>?_) (F.args_zip_next_1 _))))
 obtain⟨o,ho,hc⟩:=he;refine zb (wpAny_isInstance (T := "StopIteration") (b:=true) ⟨o,ho,hc⟩ isSubtype_stop (zf (hQ _ hk)))
def zh1(h:Heap)(b:Bool)(l:Addr):Heap:=h.push { cls:=.type (Vj b),data:=.fields #[.ref l,.int 0 0] }
def zh3(h:Heap)(b c:Bool)(J L:Addr):Heap:=(zh1 (zh1 h b J) c L).push { cls:=.type "tuple",data:=.seq #[.ref h.objs.size,.ref (zh1 h b J).objs.size] }
def zh4(h:Heap)(b c:Bool)(L J:Addr):Heap:=(zh3 h b c L J).push { cls:=.type "tuple",data:=.seq #[.none,.none] }
def zh5(h:Heap)(b c:Bool)(L J:Addr):Heap:=(zh4 h b c L J).push { cls:=.type "zip",data:=.fields #[.none,.bool false,.bool false,.ref (zh1 (zh1 h b L) c J).objs.size,.ref (zh3 h b c L J).objs.size] }
end
def zp0(b c:Bool)(J L:Addr)(xs ys:Array Value) :
  Meets (Builtin.«zip.__new__» ⟨[.type "zip",.ref J,.ref L],[]⟩) (λ_ R s=>SeqIs b s.heap J xs/\SeqIs c s.heap L ys /\
   R (.ok (.ret (.ref (zh4 s.heap b c J L).objs.size))) { s with heap:=zh5 s.heap b c J L }):=
 .of_wp λprog w A R s h=>by
  obtain⟨hp,g,d,Y,os⟩:=s;obtain⟨W,O,h⟩:=h;have aa:=sub_zip;have q1:SeqIs b (Shared.heap ⟨hp,g,d,Y,os⟩) J xs:=W;have q2:SeqIs c (Shared.heap ⟨hp.push { cls:=.type (Vj b),data:=.fields #[.ref J,.int 0 0] },g,d,Y,os⟩) L ys:=O.at λo e=>ze _ e
  wp_walk using WW q1,WW q2
  exact⟨_,rfl,h⟩
section
variable {prog:Program}{w:World}{A:Around}{E:QqV}{s:Shared}
def zH0{b c:Bool}{Y W:Addr}{xs ys:Array Value}{Q:QqV}(ac:SeqIs b s.heap Y xs)(aa:SeqIs c s.heap W ys)
  (h:∀h' z ti to i1 i2,ZApart z ti to i1 i2->ZSt b c z ti to i1 i2 Y W 0 h'->(∀d∈[z,ti,to,i1,i2],s.heap.objs.size<=d)->(∀d o,s.heap.get? d=some o->h'.get? d=some o)->Q (.ref z) { s with heap:=h' }) :
  wpAny (model prog w) A (call (.type "zip") [.ref Y,.ref W]) Q E s:=by
 refine callType_new F.called_zip w6 (F.typeCall_zip_2 _ _) (F.newCall_zip_2 _ _) (λobj=>F.args_object_init_3 obj _ _) F.entry_zip_new (zp0 b c Y W xs ys) ⟨ac,aa,?_⟩
 unfold zh5 zh4 zh3;generalize h1:zh1 s.heap b Y=J;generalize h2:zh1 J c W=O
 have z1:J.objs.size=s.heap.objs.size+1:=by rw[<- h1];exact wc ..
 have z2:O.objs.size=s.heap.objs.size+2:=by rw[<- h2];exact(wc ..).trans (by rw[z1])
 generalize h3:O.push { cls:=.type "tuple",data:=.seq #[.ref s.heap.objs.size,.ref J.objs.size] }=L
 have z3:L.objs.size=s.heap.objs.size+3:=by rw[<- h3,wc,z2]
 generalize h4:L.push { cls:=.type "tuple",data:=.seq #[.none,.none] }=g4
 have z4:g4.objs.size=s.heap.objs.size+4:=by rw[<- h4,wc,z3]
 have e1:J.get? s.heap.objs.size=some { cls:=.type (Vj b),data:=.fields #[.ref Y,.int 0 0] }:=by rw[<- h1];exact zr _ rfl
 have e2:O.get? J.objs.size=some { cls:=.type (Vj c),data:=.fields #[.ref W,.int 0 0] }:=by rw[<- h2];exact zr _ rfl
 have e3:L.get? O.objs.size=some { cls:=.type "tuple",data:=.seq #[.ref s.heap.objs.size,.ref J.objs.size] }:=by rw[<- h3];exact zr _ rfl
 have e4:g4.get? L.objs.size=some { cls:=.type "tuple",data:=.seq #[.none,.none] }:=by rw[<- h4];exact zr _ rfl
 have k1:∀d o,s.heap.get? d=some o->J.get? d=some o:=λd o e=>by rw[<- h1];exact ze _ e
 have k2:∀d o,J.get? d=some o->O.get? d=some o:=λd o e=>by rw[<- h2];exact ze _ e
 have k3:∀d o,O.get? d=some o->L.get? d=some o:=λd o e=>by rw[<- h3];exact ze _ e
 have k4:∀d o,L.get? d=some o->g4.get? d=some o:=λd o e=>by rw[<- h4];exact ze _ e
 show _/\_;refine⟨⟨_,zr _ rfl,rfl⟩,?_⟩;refine h _ g4.objs.size O.objs.size L.objs.size s.heap.objs.size J.objs.size ⟨?_,?_,?_,?_,?_,?_,?_,?_,?_,?_⟩ ⟨zr _ rfl,ze _ (k4 _ _ e3),⟨_,_,ze _ e4⟩,?_,?_⟩ (λd hd=>?_) λd o e=>ze _ (k4 _ _ (k3 _ _ (k2 _ _ (k1 _ _ e))))
 ·rw[z2,z4];first |exact zx w5 |exact xS w5
 ·rw[z3,z4];first |exact zx w5 |exact xS w5
 ·rw[z4];first |exact zx w5 |exact xS w5
 ·rw[z1,z4];first |exact zx w5 |exact xS w5
 ·rw[z2,z3];first |exact zx w5 |exact xS w5
 ·rw[z2];first |exact zx w5 |exact xS w5
 ·rw[z2,z1];first |exact zx w5 |exact xS w5
 ·rw[z3];first |exact zx w5 |exact xS w5
 ·rw[z3,z1];first |exact zx w5 |exact xS w5
 ·rw[z1];first |exact zx w5 |exact xS w5
 ·cases b<;>exact⟨_,ze _ (k4 _ _ (k3 _ _ (k2 _ _ e1))),rfl,rfl⟩
 ·cases c<;>exact⟨_,ze _ (k4 _ _ (k3 _ _ e2)),rfl,rfl⟩
 ·simp only [zk, xg, or_false] at hd
  rcases hd with rfl |rfl |rfl |rfl |rfl
  ·rw[z4];lia
  ·rw[z2];lia
  ·rw[z3];lia
  ·exact zn _
  ·rw[z1];lia
end
end L2
namespace L2
def Inv.track{X:Cx}{J:QqL}{σ:St}{H:Hp}{s:Shared}{a:Addr}{o:HO}(I:Inv X J σ H s)(hn:H a=none)(hz:X.s₀.heap.objs.size<=a)(hL:a≠X.env.locals)
  (hc:∀x c,X.env.cells.lookup x=some c->c≠a) (hp:∀p∈X.pn++J,p.1≠a) (O:ObjOk X.prog X.w (upd H a o) s.heap a o):Inv X J σ (upd H a o) s:=by
 have L:∀b u,H b=some u->b≠a:=λb u e=>yc e hn;refine⟨I.ok,I.os,I.bare,⟨I.base.keep,I.base.slot,λb u e n hx=>?_,I.base.there,λb xs e=>?_,λb u xs e=>?_,λb ps e=>?_⟩,I.loc,I.cell,?_,λx c e=>?_,λp W=>?_,λb u e=>?_,I.len⟩
 ·rw[xZ (zx (zT (zo e) hz))];exact I.base.free b u e n hx
 ·have q:=I.base.tups b xs e;rw[xZ (L b _ q)];exact q
 ·have q:=I.base.frzs b u xs e;rw[xZ (L b _ q)];exact q
 ·obtain⟨m,q⟩:=I.base.tbls b ps e;exact⟨m,by rw[xZ (L b _ q)];exact q⟩
 ·rw[xZ (Ne.symm hL)];exact I.free
 ·rw[xZ (hc x c e)];exact I.freeC x c e
 ·obtain ⟨q1, q2, q3⟩ := I.pin p W
  exact⟨q1,by rw[xZ (hp p W)];exact q2,q3⟩
 ·by_cases Y : b = a
  ·subst Y;rw[wX] at e;cases e;exact O
  ·rw [xZ Y] at e
   exact(I.hok b u e).stay (λ_ _ _ q=>q) (λc q=>by rw[xZ (L c _ q)];exact q) (λc xs q=>by rw[xZ (L c _ q)];exact q) λc o u q=>by rw[xZ (L c _ q)];exact q
structure CompOk(X:Cx)(scope:Scope)(M:List Str):Prop where
 kind:scope.kind=.function
 uniq:∀y∈scope.names,scope.names.lookup y.1=some y.2
 frees:∀y∈scope.names,y.2=.free->(X.env.kindOf y.1=some .cell\/X.env.kindOf y.1=some .free)
 shadow:∀x∈M,scope.names.lookup x≠some .local/\scope.names.lookup x≠some .cell
 same:∀(i:Nat) (x:Str),M[i]?=some x->scope.names.lookup x=some .free->X.N[i]?=some x
 mlen:M.length=X.N.length
def zu7(N M:List Str)(L J:Scope):Bool:=
 (J.kind == .function && J.names.all (λy => J.names.lookup y.1 == some y.2 && (y.2 != .free || (L.names.lookup y.1 == some .cell || L.names.lookup y.1 == some .free))) &&
  M.all (λx=>J.names.lookup x != some .local&&J.names.lookup x != some .cell))&&(M.length == N.length&&(M.zip N).all (λp=>J.names.lookup p.1 != some .free||p.1 == p.2))
def vH{X:Cx}{W:Scope}{M:List Str}(h:zu7 X.N M X.env.scope W=true):CompOk X W M:=by
 unfold zu7 at h;rw[zL,zL,zL,zL,wm,wm,wm] at h;obtain⟨⟨⟨h1,h2⟩,h3⟩,h4,h5⟩:=h
 have hl:M.length=X.N.length:=by simpa using h4
 refine⟨by simpa using h1,λy J=>?_,λy J O=>?_,λx hx=>?_,λi x hi O=>?_,hl⟩
 ·have := h2 y J;rw[zL] at this
  simpa using this.1
 ·have := h2 y J;rw[zL] at this;have q:=this.2;rw[O] at q
  have q':(X.env.scope.names.lookup y.1 == some .cell||X.env.scope.names.lookup y.1 == some .free)=true:=by simpa using q
  rw[Bool.or_eq_true] at q'
  exact q'.imp (λz=>(show X.env.scope.names.lookup y.1=some .cell by simpa using z)) λz=>(show X.env.scope.names.lookup y.1=some .free by simpa using z)
 ·have := h3 x hx;rw[zL] at this
  exact⟨by simpa using this.1,by simpa using this.2⟩
 ·have L : i < X.N.length := by rw [<- hl]; exact (zu.mp hi).1
  have Y:X.N[i]?=some X.N[i]:=zd L
  have hz:(M.zip X.N)[i]?=some (x,X.N[i]):=by rw[List.getElem?_zip_eq_some];exact⟨hi,Y⟩
  have:=h5 _ (zQ hz);rw[Bool.or_eq_true] at this
  rcases this with z |z
  ·rw[O] at z;simp at z
  ·have e : x = X.N[i] := by simpa using z
   rw[Y,<- e]
def kn(X:Cx)(J:Scope)(C:Addr):List (Str × Addr):=cellsFrom (C+1) J.names (qi X.env J.names [])
def wS(X:Cx)(J:Scope)(own M:List Str)(C:Addr)(L:Shared)(W:Hp)(O:List Addr):Cx where
 prog:=X.prog
 w:=X.w
 K:=X.K
 mg:=X.mg
 base:=X.base
 A:=X.A
 N:=own++M
 s₀:=L
 H₀:=W
 env:=compEnvC J (kn X J C) C X.env
 outer:=X.stack
 stack:=X.stack
 ex:=O
 fn:=λx=>J.names.lookup x == some .cell
 calm:=X.calm
 pn:=[]
 xe:=λ_ _=>False
def PTs(X:Cx)(ifs:List Expr)(t:TT):Prop:=
 ∀(J:QqL) (s:Shared) (σ:St) (H:Hp) (Q:Bool->Hp->Prop),Inv X J σ H s->t σ H Q->wpAny (model X.prog X.w) X.A (zv3 ifs X.env) (TP X J σ Q) X.xe s
def xP2:TT:=λ_ H Q=>Q true H
def zP1{X:Cx}:PTs X [] xP2:=λ_ _ _ H _ I h=>zf ⟨H,I,h⟩
def zP0{X:Cx}{c:Expr}{t:TT}(L:PT X c t):PTs X [c] t:=by
 intro J s σ H Q I h;show wpAny _ _ (forIn [c] true _) _ _ s;simp only[forIn_cons,forIn_nil,if_true];exact zb (zb (thn (L J s σ H Q I h) λb s' O=>zf (zf O)))
def zy2(wi:TI)(own:Nat)(g:TG)(tt:TT)(te:TE):TE:=λσ H Q=>wi σ H λJ H1=>∃W:Nat->Nat->List V->Hp->Prop,(∃m,W 0 m [] H1)/\∀i m L H,W i m L H ->
 (J.stop i H/\L.length<=sizeLine/\∀D,H D=none->Q (.ref D) (upd H D (.lst L))) \/
 (J.go i H /\ L.length < sizeLine /\ ∀ x H', J.yld i H x H' -> g x (List.replicate own none ++ σ) H' λO H2 => O.drop own = σ /\ tt O H2 λc Y =>
  if c=true then te O Y λv H4=>∃m',m'<m/\W (i+1) m' (L++[v]) H4 else ∃m',m'<m/\W (i+1) m' L Y)
section
variable {X:Cx}{scope:Scope}{own M:List Str}{pins:QqL}{σ:St}{H2:Hp}{s2:Shared}{fp:List Addr}
def CompOk.cells(ok:CompOk X scope M)(I:Inv X pins σ H2 s2):∀y∈scope.names,y.2=.free->∃c,X.env.cells.lookup y.1=some c:=λy J L=>I.ok.has y.1 (ok.frees y J L)
def CompOk.kindIn(ok:CompOk X scope M){x:Str}{C:Addr}{k:NameKind}(h:(compEnvC scope (kn X scope C) C X.env).kindOf x=some k) :
  scope.names.lookup x=some k\/(k=.cell/\scope.names.lookup x=some .free):=by
 have h':(relabel scope X.env).names.lookup x=some k:=h;unfold relabel at h';rw[YQ] at h'
 cases e:scope.names.lookup x with
 |none=>rw[e] at h';simp at h'
 | some j =>
  rw[e,Option.map_some] at h';have J:=zP h'
  split at J
  ·rename_i L
   have:j=.free:=by
    rw[zL,zL] at L
    simpa using L.1.1
   exact .inr ⟨J.symm,by rw[this]⟩
  ·exact .inl (by rw[J])
def CompOk.cellsFrom_old(ok:CompOk X scope M)(I:Inv X pins σ H2 s2){C:Addr}{x:Str}{c:Addr}(h:(kn X scope C).lookup x=some c)(hx:scope.names.lookup x≠some .cell):X.env.cells.lookup x=some c:=by
 have e0:∀(l:List (Str × NameKind)) (n:Nat) (J:List (Str × Addr)),(x,NameKind.cell) ∉ l->(cellsFrom n l J).lookup x=J.lookup x:=by
  intro l
  induction l with
  |nil=>intro n J _;rfl
  | cons y r O =>
   intro n J L;obtain⟨m,k⟩:=y;unfold cellsFrom
   split
   ·rename_i hk
    have hk':k=.cell:=by simpa using hk
    rw[O _ _ λz=>L (zj _ z),xF]
    have:(x == m)=false:=by
     cases Y:x == m with
     |false=>rfl
     |true=>
      have e:x=m:=by simpa using Y
      exact absurd (by rw[hk',e];exact xo) L
    rw[this]
   ·exact O _ _ λz=>L (zj _ z)
 unfold kn at h;rw[e0 _ _ _ λW=>hx (ok.uniq _ W)] at h
 exact vJ scope.names [] (ok.cells I) (λ_ _ z=>by simp at z) x c h
def zE7(ok:CompOk X scope M)(hc:X.calm=true)(I:Inv X pins σ H2 s2)(hf:∀b∈fp,FpOk X pins H2 b/\b<s2.heap.objs.size){C:Addr}(O:C=s2.heap.objs.size+1){h4:Heap}
  (hh:h4=pushCells ((s2.heap.push { cls:=.type "list",dict:=none,data:=.seq ([]:QqW).toArray }).push { cls:=.type "dict",data:=.dict #[] }) scope.names) :
  Inv (wS X scope own M C s2 H2 fp) [] (replicate own.length none++σ) H2 { s2 with heap:=h4 }:=by
 have zC:(s2.heap.push { cls:=.type "list",dict:=none,data:=.seq ([]:QqW).toArray }).objs.size=C:=by rw[wc,O]
 have Y:((s2.heap.push { cls:=.type "list",dict:=none,data:=.seq ([]:QqW).toArray }).push { cls:=.type "dict",data:=.dict #[] }).objs.size=C+1:=by rw[wc,zC]
 have keep:∀b o,s2.heap.get? b=some o->h4.get? b=some o:=λb o e=>by
  rw[hh];exact pushCells_keeps _ _ _ _ (ze _ (ze _ e))
 have cellOld:∀x c,X.env.cells.lookup x=some c->c<s2.heap.objs.size:=λx c e=>by obtain⟨v,q⟩:=I.cell x c e;exact q.lt
 have J:∀x c,(kn X scope C).lookup x=some c->(h4.IsCell c none/\C+1<=c/\scope.names.lookup x=some .cell)\/X.env.cells.lookup x=some c:=λx c e=>by
  by_cases hx:scope.names.lookup x=some .cell
  ·have e' := e;unfold kn at e';rw[<- Y] at e'
   rcases za4 _ _ _ x c e' with ⟨a,b,d⟩ |q
   ·exact .inl ⟨by rw[hh];exact a,by rw[Y] at b;exact b,hx⟩
   ·exact .inr (vJ scope.names [] (ok.cells I) (λ_ _ z=>by simp at z) x c q)
  ·exact .inr (ok.cellsFrom_old I e hx)
 have af:∃m,h4.Ns C m:=by
  have q:((s2.heap.push { cls:=.type "list",dict:=none,data:=.seq ([]:QqW).toArray }).push { cls:=.type "dict",data:=.dict #[] }).Ns C (λ_=>none):=by
   have:=Heap.Ns.new (s2.heap.push { cls:=.type "list",dict:=none,data:=.seq ([]:QqW).toArray }) (.type "dict");rw[zC] at this;exact this
  exact⟨_,q.keeps λb o e=>by rw[hh];exact pushCells_keeps _ _ _ _ e⟩
 have ad:∀b∈fp,b ∉ frs X.stack:=λb hb hx=>by
  obtain⟨⟨_,f1,f2,_⟩,_⟩:=hf b hb
  rcases zk.mp (I.stkSub b hx) with e |e
  ·exact f1 e
  ·exact f2 e
 obtain⟨mC,ae⟩:=af
 refine⟨⟨I.ok.mod,ok.kind,I.ok.glob,I.ok.blt,?_,?_,?_,?_,I.ok.hd,I.ok.frames,.inl rfl,?_,I.bs,?_,?_,ad,I.stack,I.stkFree⟩,rfl,I.bare,Un.kept keep,⟨mC,ae,?_⟩,?_,I.hok.fresh (by show s2.heap.objs.size<=C;rw[O];exact xv _),?_,λp hp=>absurd (show p∈([]:QqL) from hp) (by simp),I.hok.kept keep,?_⟩
 ·show s2.heap.objs.size<=C;rw[O];exact xv _
 ·intro x y c h1 h2;refine za2 scope.names (C+1) (qi X.env scope.names []) (λa b d p q=>?_) (λa d p=>?_) x y c h1 h2
  ·exact I.ok.inj a b d (vJ scope.names [] (ok.cells I) (λ_ _ z=>by simp at z) a d p) (vJ scope.names [] (ok.cells I) (λ_ _ z=>by simp at z) b d q)
  ·have := cellOld a d (vJ scope.names [] (ok.cells I) (λ_ _ z => by simp at z) a d p)
   rw[O];exact xX (xX this)
 ·intro x hx
  have go:∀k,(k=NameKind.cell\/k=NameKind.free)->(compEnvC scope (kn X scope C) C X.env).kindOf x=some k->∃c,(kn X scope C).lookup x=some c:=λk hk e=>by
   rcases ok.kindIn e with e |⟨_,e⟩
   ·rcases hk with rfl | rfl
    ·exact za3 _ _ _ (PySem.mem_of_lookup e)
    ·exact qX _ _ _ (kH (y:=(x,.free)) rfl _ _ (PySem.mem_of_lookup e))
   ·exact qX _ _ _ (kH (y:=(x,.free)) rfl _ _ (PySem.mem_of_lookup e))
  rcases hx with e |e
  ·exact go _ (.inl rfl) e
  ·exact go _ (.inr rfl) e
 ·intro x c hx h
  have hx':scope.names.lookup x=some .cell:=by simpa [wS] using hx
  have:=zG9 (x:=x) scope.names (C+1) (qi X.env scope.names []) (C+1) (zn _) (.inl (PySem.mem_of_lookup hx')) c h;show s2.heap.objs.size<=c
  exact zD (by rw[O];exact zD (xv _) (xv _)) this
 ·intro b hb;obtain⟨⟨_,_,_,_,f4,_⟩,f6⟩:=hf b hb;refine⟨?_,λx c h=>?_⟩
  ·show b≠C;rw[O];exact zx (xX f6)
  ·rcases J x c h with ⟨_, q, _⟩ | q
   ·rw[O] at q;exact xS (zT f6 (zD (zD (xv _) (xv _)) q))
   ·exact f4 x c q
 ·exact zD I.ok.bsz I.sz
 ·intro b o e hb;obtain⟨⟨_,_,_,f3,_⟩,_⟩:=hf b hb
  rcases f3 with z |z
  ·exact I.ok.noex b o e z
  ·exact absurd (zT (zo (I.ok.bs b o e).1) z) (xj _)
 ·intro i x v h1 h2 h3;have h2':(replicate own.length (none:Option V)++σ)[i]?=some (some v):=h2
  have hi:own.length<=i:=by
   apply ym;intro aa
   rw[xB (by simpa using aa),xl] at h2'
   rw[if_pos aa] at h2';cases h2'
  rw[xk (by simpa using hi),xN] at h2'
  have h1':(own++M)[i]?=some x:=h1;rw[xk hi] at h1';obtain⟨n1,n2⟩:=ok.shadow x (zQ h1')
  have W:scope.names.lookup x=some .free/\((compEnvC scope (kn X scope C) C X.env).kindOf x=some .cell\/(compEnvC scope (kn X scope C) C X.env).kindOf x=some .free):=by
   rcases h3 with e |e |e
   ·rcases ok.kindIn (x := x) (C := C) e with q | ⟨q, _⟩
    ·exact absurd q n1
    ·cases q
   ·rcases ok.kindIn (x := x) (C := C) e with q | ⟨_, q⟩
    ·exact absurd q n2
    ·exact⟨q,.inl e⟩
   ·rcases ok.kindIn (x := x) (C := C) e with q | ⟨q, _⟩
    ·exact⟨q,.inr e⟩
    ·cases q
  obtain⟨L,hk⟩:=W;obtain⟨m,hn,hl⟩:=I.loc;have ac:=ok.frees (x,.free) (PySem.mem_of_lookup L) rfl;have h1':=ok.same _ _ h1' L;obtain⟨u,ru,lk⟩:=hl (i-own.length) x v h1' h2' (ac.elim (λz=>.inr (.inl z)) λz=>.inr (.inr z));refine⟨u,ru,.inr ⟨hk,?_⟩⟩
  rcases lk with ⟨k,_⟩ |⟨_,c,ec,ic⟩
  ·rcases ac with z |z<;>(rw[k] at z;cases z)
  ·obtain ⟨c', e'⟩ : ∃ c', (kn X scope C).lookup x = some c' := qX _ _ _ (kH (y := (x, .free)) rfl _ _ (PySem.mem_of_lookup L));refine⟨c',e',?_⟩
   have:=ok.cellsFrom_old I e' (by rw[L];simp)
   have e2:some c=some c':=ec.symm.trans this;cases e2;exact ic.keeps keep
 ·intro x c h
  rcases J x c h with ⟨q,_⟩ |q
  ·exact⟨_,q⟩
  ·obtain⟨v,z⟩:=I.cell x c q;exact⟨v,z.keeps keep⟩
 ·intro x c h
  rcases J x c h with ⟨q,q2,_⟩ |q
  ·exact I.hok.fresh (by rw[O] at q2;exact zD (zD (xv _) (xv _)) q2)
  ·exact I.freeC x c q
 ·show(List.replicate own.length (none:Option V)++σ).length=(own++M).length;rw[zy,zy,xN,I.len,ok.mlen]
end
section
variable {X:Cx}{scope:Scope}{own M:List Str}{pins:QqL}{σ:St}{H2:Hp}{s2:Shared}{tg iter elt:Expr}{ifs:List Expr}{pos:Pos}{g:TG}{tt:TT}{te:TE}
def KK(ok:CompOk X scope M)(hc:X.calm=true)(hg:∀C s2 H2 Y,PG (wS X scope own M C s2 H2 Y) tg g)(ht:∀C s2 H2 Y,PTs (wS X scope own M C s2 H2 Y) ifs tt)(he:∀C s2 H2 Y,PE (wS X scope own M C s2 H2 Y) elt te)
  (I2:Inv X pins σ H2 s2) {it:Addr}{Y:List Addr}{tn:Nat->Heap->Prop}{J:It} (T:Turn X.prog X.w X.K tg J Y it tn) (au:tn 0 s2.heap) (f2:∀b∈Y,FpOk X pins H2 b)
  {W:Nat->Nat->List V->Hp->Prop} (w0:∃m,W 0 m [] H2) {Qf:V->Hp->Prop}
  (turn : ∀ i m L H, W i m L H -> (J.stop i H /\ L.length <= sizeLine /\ ∀ D, H D = none -> Qf (.ref D) (upd H D (.lst L))) \/
   (J.go i H /\ L.length < sizeLine /\ ∀ x H', J.yld i H x H' -> g x (List.replicate own.length none ++ σ) H' λσ2 H2 => σ2.drop own.length = σ /\ tt σ2 H2 λc H3 =>
    if c=true then te σ2 H3 λv H4=>∃m',m'<m/\W (i+1) m' (L++[v]) H4 else ∃m',m'<m/\W (i+1) m' L H3))
  {RR:Value->Addr->Result->Shared->Prop}{E:QqV}
  (fin:∀D C H' s' m,Inv X pins σ H' s'->Qf (.ref D) H'->s'.heap.Ns C m->H' C=none->C≠X.env.locals->X.s₀.heap.objs.size<=C->(∀x c,X.env.cells.lookup x=some c->c≠C)->(∀p∈X.pn++pins,p.1≠C)->RR (.ref D) C (.ok .next) s') :
  wpAny (model X.prog X.w) X.A (newList []) (λL s3=>wpAny (model X.prog X.w) X.A (newFunctionEnv scope X.env.globals (qi X.env scope.names []) [] X.env.qual none .none (some X.env)) (λag s4=>
   codeAny (model X.prog X.w) X.A (.compStart (.ListComp elt [⟨tg,iter,ifs,0⟩] scope pos) 0 (.ref it) L { ag with scope:=relabel scope X.env }) (RR L ag.locals) s4) E s3) E s2:=by
 refine xz (Zu ?_);have zC:(s2.heap.push { cls:=.type "list",dict:=none,data:=.seq ([]:QqW).toArray }).objs.size=s2.heap.objs.size+1:=wc ..;dsimp only;rw[zC];generalize hC:s2.heap.objs.size+1=C;generalize hh:pushCells ((s2.heap.push { cls:=.type "list",dict:=none,data:=.seq ([]:QqW).toArray }).push { cls:=.type "dict",data:=.dict #[] }) scope.names=h4
 have aB:∀b∈Y,FpOk X pins H2 b/\b<s2.heap.objs.size:=λb O=>by
  obtain⟨o,e,_⟩:=T.obj 0 _ au b O;exact⟨f2 b O,zo e⟩
 have I4:Inv (wS X scope own M C s2 H2 Y) [] (replicate own.length none++σ) H2 { s2 with heap:=h4 }:=zE7 ok hc I2 aB hC.symm hh.symm;generalize hX:wS X scope own M C s2 H2 Y=X' at I4
 have aj:∀b o,s2.heap.get? b=some o->h4.get? b=some o:=λb o e=>by
  rw[<- hh];exact pushCells_keeps _ _ _ _ (ze _ (ze _ e))
 have az:h4.get? s2.heap.objs.size=some { cls:=.type "list",dict:=none,data:=.seq ([]:QqW).toArray }:=by
  rw[<- hh];exact pushCells_keeps _ _ _ _ (ze _ (zr _ rfl))
 have aq:tn 0 h4:=T.keep _ _ _ au λb O o e=>aj b o e
 have gg:PG X' tg g:=by rw[<- hX];exact hg C s2 H2 Y
 have gt:PTs X' ifs tt:=by rw[<- hX];exact ht C s2 H2 Y
 have ge:PE X' elt te:=by rw[<- hX];exact he C s2 H2 Y
 have xP:X'.prog=X.prog:=by rw[<- hX];rfl
 have xw:X'.w=X.w:=by rw[<- hX];rfl
 have xK:X'.K=X.K:=by rw[<- hX];rfl
 have xA:X'.A=X.A:=by rw[<- hX];rfl
 have xc:X'.calm=true:=by rw[<- hX];exact hc
 have aa:X'.pn=[]:=by rw[<- hX];rfl
 have xs:X'.s₀=s2:=by rw[<- hX];rfl
 have xH:X'.H₀=H2:=by rw[<- hX];rfl
 have xL:X'.env.locals=C:=by rw[<- hX];rfl
 have aE:X'.fs=frs X.stack:=by rw[<- hX];rfl
 have ac:X'.ex=Y:=by rw[<- hX];rfl
 have xe:X'.xe=λ_ _=>False:=by rw[<- hX];rfl
 have ao:({ newEnv scope C X.env.globals (cellsFrom (C+1) scope.names (qi X.env scope.names [])) X.env.qual none .none (some X.env) builtinsNs with scope:=relabel scope X.env }:Env)=X'.env:=by rw[<- hX];rfl
 have aC:s2.heap.objs.size<C:=by rw[<- hC];exact Nat.lt_succ_self _
 have al:∀{pl:QqL}{H:Hp},(∀b∈Y,H b=none)->(∀p∈pl,p.1 ∉ Y)->∀b∈Y,FpOk X' pl H b:=λ{pl H} hn ad b O=>by
  refine⟨hn b O,?_,?_,.inl (by rw[ac];exact O),λx c e=>(I4.ok.exf b (by rw[ac];exact O)).2 x c e,λp hp z=>?_⟩
  ·exact(I4.ok.exf b (by rw[ac];exact O)).1
  ·exact I4.ok.exfs b (by rw[ac];exact O)
  ·rw [aa, wf] at hp
   exact ad p hp (by rw[z];exact O)
 have aD:s2.heap.objs.size ∉ Y:=λz=>xj _ (aB _ z).2;have DC:s2.heap.objs.size≠C:=zx aC
 have am:∀x c,X'.env.cells.lookup x=some c->c≠s2.heap.objs.size:=λx c e z=>by
  obtain⟨v,o,q,hd⟩:=I4.cell x c e;rw[z] at q;have q':h4.get? s2.heap.objs.size=some o:=q;rw[az] at q';cases q';cases hd
 have aM:s2.heap.objs.size ∉ X'.fs:=λz=>by
  obtain⟨_,o,ho,_⟩:=I4.ok.funs.mem (by exact z)
  rw[xs] at ho;exact xj _ (zo ho)
 rw[ao]
 have af:∀s5:Shared,s5={ s2 with heap:=h4 }->codeAny (model X.prog X.w) X.A (.compLoop (.ListComp elt [⟨tg,iter,ifs,0⟩] scope pos) 0 (.ref it) (.ref s2.heap.objs.size) X'.env) (RR (.ref s2.heap.objs.size) C) s5:=by
  rintro s5 rfl;obtain⟨m0,w0⟩:=w0
  refine zu5 (λn s'=>∃i L σ' H' its k,Inv X' [] σ' H' s'/\σ'.drop own.length=σ/\tn i s'.heap/\(∀b∈Y,H' b=none)/\H' s2.heap.objs.size=none /\
   s'.heap.get? s2.heap.objs.size=some { cls:=.type "list",data:=.seq (List.toArray its) k }/\Vals L its/\W i n L H') ?_ m0
   ⟨0,[],_,H2,[],0,I4,by simp,aq,λb O=>(f2 b O).1,I2.hok.fresh (zn _),az,.nil,w0⟩
  rintro n s3 ⟨i,L,σ3,H3,its,k,I3,hσ,ar,aA,hD,aH,rv,w3⟩
  have av:∀{H:Hp}{s:Shared}{σ:St},Inv X' [] σ H s->H s2.heap.objs.size=none->s.heap.get? s2.heap.objs.size=some { cls:=.type "list",data:=.seq (List.toArray its) k } ->
    Inv X' [(s2.heap.objs.size,{ cls:=.type "list",data:=.seq (List.toArray its) k })] σ H s:=λ{H s σ} I hn ho=>I.pins_of λp hp=>by
   have e:p=(s2.heap.objs.size,{ cls:=.type "list",data:=.seq (List.toArray its) k }):=by simpa using hp
   subst e
   exact⟨ho,hn,by rw[xL];exact DC,aM,λv z=>by cases z⟩
  have ai:∀p∈[((s2.heap.objs.size,{ cls:=.type "list",data:=.seq (List.toArray its) k }):Addr × Obj)],p.1 ∉ Y:=λp hp=>by
   have e:p=(s2.heap.objs.size,{ cls:=.type "list",data:=.seq (List.toArray its) k }):=by simpa using hp
   subst e;exact aD
  have I3':=av I3 hD aH
  rcases turn i n L H3 w3 with ⟨stop,hsz,q⟩ |⟨go,hsz,step⟩
  ·have := T.done X' xP xw xK xc i _ s3 σ3 H3 (λ_ _ => False) I3' (al aA ai) ar stop;rw[xA] at this;refine thn this λr s4 ⟨hr,I5⟩=>?_;subst hr
   have ay:=(I5.pin (s2.heap.objs.size,{ cls:=.type "list",data:=.seq (List.toArray its) k }) (by rw[aa];simp)).1
   have un:Un (frs X.stack) Y H2 H3 s2.heap s4.heap:=by
    have:=I5.base;rw[aE,ac,xH,xs] at this;exact this
   have os:s4.os=s2.os:=by rw[I5.os,xs]
   have hok:HOk X.prog X.w H3 s4.heap:=by have:=I5.hok;rw[xP,xw] at this;exact this
   have IX:Inv X pins σ H3 s4:=I2.call' os un hok I5.bare λb O=>by
    obtain⟨_,f1,_,f3,f4,f5⟩:=f2 b O;exact⟨f3,f1,f4,f5⟩
   have aw:∀{b:Addr},s2.heap.objs.size<=b->(X.s₀.heap.objs.size<=b/\b≠X.env.locals/\(∀x c,X.env.cells.lookup x=some c->c≠b)/\∀p∈X.pn++pins,p.1≠b):=λ{b} O=>by
    obtain⟨_,f1,_,f3,f4,f5⟩:=I2.fpOk (H':=λ_=>none) O rfl;exact⟨zD I2.sz O,f1,f4,f5⟩
   obtain⟨d1,d2,d3,d4⟩:=aw (zn s2.heap.objs.size);obtain⟨c1,c2,c3,c4⟩:=aw (b:=C) (yI aC);have IY:Inv X pins σ (upd H3 s2.heap.objs.size (.lst L)) s4:=IX.track hD d1 d2 d3 d4 ⟨hsz,its,k,rv,ay⟩;obtain⟨m,hm,_⟩:=I5.loc;rw[xL] at hm
   have aI:H3 C=none:=by have:=I5.free;rw[xL] at this;exact this
   exact fin _ C _ s4 m IY (q _ hD) hm (by rw[xZ (Ne.symm DC)];exact aI) c2 c1 c3 c4
  ·have := T.item X' xP xw xK xc i _ s3 σ3 H3 (λ_ _ => False) I3' (al aA ai) ar go;rw[xA] at this;refine thn this λr s4 ⟨u,hr,h4⟩=>?_;subst hr;refine thn h4 λ_ s5 ⟨x,H5,I5,r5,y5,ah,aJ⟩=>?_
   have aF:∀(j:Nat) v,(replicate own.length none++σ)[j]?=some (some v)->σ3[j]?=some (some v):=λj v e=>by
    by_cases ak:j<own.length
    ·rw [xB (by simpa using ak), xl, if_pos ak] at e
     cases e
    ·have aG := ym ak
     rw[xk (by simpa using aG),xN,<- hσ,yp] at e
     rw[show own.length+(j-own.length)=j by lia] at e
     exact e
   have ax:(replicate own.length none++σ).length=σ3.length:=by
    have e1:σ3.length=X'.N.length:=I5.len;have e2:=I4.len;exact e2.trans e1.symm
   have aK:Inv X' _ (replicate own.length none++σ) H5 s5:=I5.weak ax aF;have aL:=aK.pinned (al aJ ai) (T.obj _ _ ah);have a1:=gg _ s5 _ H5 x u _ aL r5 (step x H5 y5);rw[xP,xw,xA,xe] at a1;refine thn a1 λ_ s6 ⟨σ6,H6,I6,d6,q6⟩=>?_;have a2:=gt _ s6 σ6 H6 _ I6 q6;rw[xP,xw,xA,xe] at a2;refine thn a2 λb s7 ⟨H7,I7,q7⟩=>?_
   have ae:∀{H:Hp}{s:Shared},Inv X' ([((s2.heap.objs.size,{ cls:=.type "list",data:=.seq (List.toArray its) k }):Addr × Obj)]++XC Y s5.heap) σ6 H s ->
     (tn (i+1) s.heap/\(∀b∈Y,H b=none)/\H s2.heap.objs.size=none/\s.heap.get? s2.heap.objs.size=some { cls:=.type "list",data:=.seq (List.toArray its) k }/\Inv X' [] σ6 H s):=λ{H s} I=>by
    refine⟨T.keep _ _ _ ah λb O o e=>(I.pin (b,o) (zp _ (zp _ (vZ O e)))).1,λb O=>?_,?_,?_,I.pins_of λp hp=>by simp at hp⟩
    ·obtain⟨o,e,d⟩:=T.obj _ _ ah b O;exact(I.pin (b,o) (zp _ (zp _ (vZ O e)))).2.1
    ·exact(I.pin (s2.heap.objs.size,{ cls:=.type "list",data:=.seq (List.toArray its) k }) (by rw[aa];simp)).2.1
    ·exact(I.pin (s2.heap.objs.size,{ cls:=.type "list",data:=.seq (List.toArray its) k }) (by rw[aa];simp)).1
   cases b with
   |false=>
    obtain⟨p1,p2,p3,p4,p5⟩:=ae I7;obtain⟨m',hm,w7⟩:=q7;exact⟨m',hm,i+1,L,σ6,H7,its,k,p5,d6,p1,p2,p3,p4,rv,w7⟩
   |true=>
    rw[if_pos rfl] at q7 ⊢;have a3:=ge _ s7 σ6 H7 _ I7 q7;rw[xP,xw,xA,xe] at a3;refine thn a3 λy s8 ⟨v,H8,I8,r8,q8⟩=>?_;obtain⟨p1,p2,p3,p4,p5⟩:=ae I8;obtain⟨m',hm,w8⟩:=q8;have hl:=rv.length
    refine wpAny_list_append_plain (items:=List.toArray its) ⟨k,p4⟩ (λh' ad hs=>?_) (by simp;lia)
    obtain⟨k',ad⟩:=ad
    have I9:Inv X' [] σ6 H8 { s8 with heap:=h' }:=p5.turned (t':=s8.toks) (λb o O e=>hs.extBut b o O e) p3 (by rw[xL];exact DC) (.inr (by rw[xs];exact zn _)) am (λp hp=>by rw[aa] at hp;simp at hp)
    refine⟨m',hm,i+1,L++[v],σ6,H8,its++[y],k',I9,d6,T.keep _ _ _ p1 λb O o e=>hs.extBut b o (λz=>aD (by rw[<- z];exact O)) e,p2,p3,?_,rv.append (.cons r8 .nil),w8⟩
    rw[ad];simp
 exact codeAny_compStart_list (af _ rfl) (T.self _ 0 _ _ _ aq (af _ rfl))
def zQ2{wi:TI}(ok:CompOk X scope M)(hc:X.calm=true)(hi:PI X tg iter wi)(hg:∀C s2 H2 L,PG (wS X scope own M C s2 H2 L) tg g)(ht:∀C s2 H2 L,PTs (wS X scope own M C s2 H2 L) ifs tt)
  (he:∀C s2 H2 L,PE (wS X scope own M C s2 H2 L) elt te) (hs:∀x,foldedSetIterable iter X.env x=pure x:=by intro _;rfl) :
  PE X (.ListComp elt [⟨tg,iter,ifs,0⟩] scope pos) (zy2 wi own.length g tt te):=by
 intro pins s σ H Q I h;rw[eval_ListComp]
 refine yF (use:=none) rfl hs (Xm (ok.cells I)) ok.kind (λx hx hl=>by rw[ok.uniq x hx,hl]) ?_
 refine thn (hi pins s σ H _ I h) λv s1 h1=>thn h1 λaa s2 h2=>?_;obtain⟨it,L,tn,J,H2,e,I2,T,O,f2,W,w0,turn⟩:=h2;subst e;refine KK (Qf:=Q) ok hc hg ht he I2 T O f2 w0 turn λD C H' s' m IY q hm Y c2 c1 c3 c4=>⟨m,hm,λh' hs'=>?_⟩;exact⟨.ref D,H',IY.turned (t':=s'.toks) (λb o hb e=>hs'.extBut b o hb e) Y c2 (.inr c1) c3 c4,rfl,q⟩
def zc8{wi:TI}{i:Nat}{x:Str}{pos' L:Pos}(hN:X.N.Nodup)(ad:X.N[i]?=some x)(hx:Loc X.env.scope x)(ok:CompOk X scope M)(hc:X.calm=true)(hi:PI X tg iter wi)(hg:∀C s2 H2 O,PG (wS X scope own M C s2 H2 O) tg g)
  (ht:∀C s2 H2 O,PTs (wS X scope own M C s2 H2 O) ifs tt) (he:∀C s2 H2 O,PE (wS X scope own M C s2 H2 O) elt te)
  (aa:swapsWith (.ListComp elt [⟨tg,iter,ifs,0⟩] scope pos) (some (.Name x pos')) L.line X.env=pure true:=by rfl) (hf:X.fn x=true\/X.env.scope.names.lookup x=some .local:=by first |exact .inl rfl |exact .inr rfl |assumption)
  (hs:∀x,foldedSetIterable iter X.env x=pure x:=by intro _;rfl):PS X (.Assign [.Name x pos'] (.ListComp elt [⟨tg,iter,ifs,0⟩] scope pos) L) (xu4 (zy2 wi own.length g tt te) (zF4 i)):=by
 intro pins s σ H D I h;rw[exec_Assign_Name_used _ _ _ _ aa];refine zb (wpAny_standAt (zb ?_))
 show wpAny _ _ (do let _ <- comprehension (.ListComp elt [⟨tg,iter,ifs,0⟩] scope pos) scope X.env _ (newList []) false (eval iter X.env) (some (assign (.Name x pos') X.env))) _ _ s
 refine zb (thn (yF (use:=some (assign (.Name x pos') X.env)) (Q:=λ_ s'=>SP X pins D .next s') rfl hs (Xm (ok.cells I)) ok.kind (λx hx hl=>by rw[ok.uniq x hx,hl]) ?_)
  λ_ s' hq=>zf (zf hq))
 refine thn (hi pins s σ H _ I h) λv s1 h1=>thn h1 λag s2 h2=>?_;obtain⟨it,O,tn,J,H2,e,I2,T,Y,f2,W,w0,turn⟩:=h2;subst e;refine KK (Qf:=λx H1=>zF4 i x σ H1 D.nx) ok hc hg ht he I2 T Y f2 w0 turn λD' C H' s' m IY q hm ae c2 c1 c3 c4=>?_;show wpAny _ _ (assign (.Name x pos') X.env (.ref D')) _ _ s';refine wpAny_assign_Name (UG IY hN ad hx (v:=.ref D') rfl (λs'' I'' ⟨a,ac,ha⟩=>?_) hf)
 have af:C≠a:=by
  rcases ha with z |z
  ·rw[z];exact c2
  ·exact λe=>c3 x a z e.symm
 exact⟨m,hm.sameBut ac af,λh' hs'=>⟨_,H',I''.turned (t':=s''.toks) (λb o hb e=>hs'.extBut b o hb e) ae c2 (.inr c1) c3 c4,q⟩⟩
end
section
variable {X:Cx}{pins:QqL}{σ:St}{H:Hp}{s:Shared}
def Inv.turnedL{t':Nat}{h':Heap}{ch:List Addr}(I:Inv X pins σ H s)(k:∀b o,b ∉ ch->s.heap.get? b=some o->h'.get? b=some o)(O:∀b∈ch,FpOk X pins H b):Inv X pins σ H { s with heap:=h',toks:=t' }:=by
 have L:∀b u,H b=some u->b ∉ ch:=λb u e z=>by rw[(O b z).1] at e;cases e
 refine I.step (g':=s.gens) (d':=s.drawn) (ch:=ch) (λb hb=>?_) (λb o _ _ J e _=>k b o J e) (λb o _ _ J e _=>⟨o.slots,k b o J e⟩) (λ_ _ _ _ n=>n)
  (λb o J e=>⟨o,k b o J e⟩) (λ_ _ e=>e) (λ_ _ _ e=>e) (λb ps e=>⟨#[],by rw[e];simp⟩) (λm Y=>?_) (λb u e=>?_) I.bare
 ·obtain⟨_,f1,_,f3,f4,f5⟩:=O b hb;exact⟨f3,f1,f4,f5⟩
 ·obtain⟨o,es,ep,W,r⟩:=Y;exact⟨o,es,ep,k _ o (λz=>(O _ z).2.1 rfl) W,r⟩
 ·refine (I.hok b u e).stay (λc v J q => k c v ?_ q) (λ_ q => q) (λ_ _ q => q) λ_ _ _ q => q
  rcases J with z |z
  ·rw[z];exact L b u e
  ·exact L c _ z
def SqB(K:W.Frag)(b:Bool)(H:Hp)(a:Addr)(xs:List V):Prop:=match b with |true=>SqL K H a xs |false=>SqT K H a xs
def Inv.seqB{b:Bool}{a:Addr}{xs:List V}(I:Inv X pins σ H s)(h:SqB X.K b H a xs):∃its:List Value,Vals xs its/\SeqIs b s.heap a its.toArray:=by
 cases b with
 |true=>obtain⟨its,r,p,_⟩:=I.list h;exact⟨its,r,p.isList⟩
 |false=>obtain⟨its,r,p,_⟩:=I.tuple h;exact⟨its,r,p⟩
def Inv.seqB_inj{b:Bool}{a:Addr}{xs ys:List V}(I:Inv X pins σ H s)(h:SqB X.K b H a xs)(h':SqB X.K b H a ys):xs=ys:=by
 cases b with
 |true=>exact I.list_inj h h'
 |false=>exact I.tuple_inj h h'
def Inv.ne_fp{b:Bool}{a c:Addr}{xs:List V}(I:Inv X pins σ H s)(h:SqB X.K b H a xs)(O:FpOk X pins H c):a≠c:=by
 have J:∀o,X.K.lookup a=some o->a≠c:=λo e z=>by
  have L:=I.ok.mod.kin a o e;rw[z] at L;obtain⟨_,_,_,W,_⟩:=O
  rcases W with q |q
  ·exact I.ok.noex c o L q
  ·exact absurd (zT (zo (I.ok.bs c o L).1) q) (xj _)
 have trk:∀u,H a=some u->a≠c:=λu e=>yc e O.1
 cases b with
 |true=>
  rcases h with (h |⟨o,h⟩) |⟨o,_,_,hk,_⟩
  ·exact trk _ h
  ·exact trk _ h
  ·exact J o hk
 |false=>
  rcases h with (h |⟨o,h⟩) |⟨o,_,_,hk,_⟩
  ·exact trk _ h
  ·exact trk _ h
  ·exact J o hk
def Itz(K:W.Frag)(b c:Bool)(L J:Addr):It:=
  ⟨λi H=>∃xs ys x y,SqB K b H L xs/\SqB K c H J ys/\xs[i]?=some x/\ys[i]?=some y,
   λi H v H'=>∃T,H T=none/\v=.ref T/\∀xs ys,SqB K b H L xs->SqB K c H J ys->∃x y,xs[i]?=some x/\ys[i]?=some y/\H'=upd H T (.tup [x,y]),
   λi H=>∃xs ys,SqB K b H L xs/\SqB K c H J ys/\(xs.length<=i\/ys.length<=i)⟩
def newTup{T:Addr}{x y:V}{u v:Value}{J:Shared}(I:Inv X pins σ H s)(I1:Inv X pins σ H J)(O:s.heap.objs.size<=T)(L:H T=none)(ho:J.heap.get? T=some { cls:=.type "tuple",data:=.seq #[u,v] })(Y:RelV x u)(W:RelV y v) :
  Inv X pins σ (upd H T (.tup [x,y])) J:=by
 obtain⟨_,f1,_,f3,f4,f5⟩:=I.fpOk (H':=H) O L
 exact I1.track L (zD I.sz O) f1 f4 f5 ⟨(by show 2<=sizeLine;decide),[u,v],.cons Y (.cons W .nil),⟨_,ho,rfl,_,rfl⟩⟩
def zx7{P:Program}{w:World}{K:W.Frag}{es:List Expr}{kk:Nat}{ps:Pos}{b c:Bool}{z ti to i1 i2 l1 l2:Addr}(D:ZApart z ti to i1 i2) :
  Turn P w K (.Tuple es kk ps) (Itz K b c l1 l2) [z,ti,to,i1,i2] z (λi h=>ZSt b c z ti to i1 i2 l1 l2 i h) where
 mem:=by simp
 obj:=λi h st d hd=>by
  have nc:∀{o:Obj}{vs:Array Value},o.data=.fields vs->∀v,o.data≠.cell v:=λe v q=>by rw[e] at q;cases q
  simp only[zk,xg,or_false] at hd
  rcases hd with rfl |rfl |rfl |rfl |rfl
  ·exact⟨_,st.z,λv q=>by cases q⟩
  ·exact⟨_,st.ti,λv q=>by cases q⟩
  ·obtain ⟨u, v, e⟩ := st.to
   exact⟨_,e,λv q=>by cases q⟩
  ·obtain⟨o,e,_,hd⟩:=st.i1.obj;exact⟨o,e,nc hd⟩
  ·obtain⟨o,e,_,hd⟩:=st.i2.obj;exact⟨o,e,nc hd⟩
 keep:=λi h h' st k=>by
  obtain⟨u,v,e⟩:=st.to
  exact⟨k z (by simp) _ st.z,k ti (by simp) _ st.ti,⟨u,v,k to (by simp) _ e⟩,st.i1.at λo q=>k i1 (by simp) o q,st.i2.at λo q=>k i2 (by simp) o q⟩
 item:=by
  intro X hP hw hK hc i pins s σ H E I hf st hg;subst hP hw hK;obtain⟨xs,ys,x,y,Y,O,hx,hy⟩:=hg;obtain⟨ad,r1,p1⟩:=I.seqB Y;obtain⟨ac,r2,p2⟩:=I.seqB O;obtain⟨u,hu,ru⟩:=r1.get hx;obtain⟨v,hv,rv⟩:=r2.get hy
  have J:=hf to (by simp)
  refine zD4 D st p1 p2 (I.ne_fp Y J) (I.ne_fp O J) (x:=u) (y:=v) (by simpa using hu) (by simpa using hv) λh' M hT kp=>?_
  have lt:∀{d:Addr},d∈[z,ti,to,i1,i2]->s.heap.objs.size≠d:=λ{d} hd e=>by
   obtain⟨o,q⟩:∃o,s.heap.get? d=some o:=by
    simp only[zk,xg,or_false] at hd
    rcases hd with rfl |rfl |rfl |rfl |rfl
    ·exact⟨_,st.z⟩
    ·exact⟨_,st.ti⟩
    ·obtain⟨u,v,e⟩:=st.to;exact⟨_,e⟩
    ·obtain⟨o,e,_⟩:=st.i1.obj;exact⟨o,e⟩
    ·obtain⟨o,e,_⟩:=st.i2.obj;exact⟨o,e⟩
   have:=zo q;rw[<- e] at this;exact xj _ this
  refine⟨_,rfl,wpAny_letOwnedTupleGo_zip (s:={ s with heap:=h' }) M.z λh'' z' L=>?_⟩
  have aa:∀d o,d ∉ [z,ti,to,i1,i2]->s.heap.get? d=some o->h''.get? d=some o:=λd o hd e=>by
   simp only[zk,xg,or_false,not_or] at hd;exact L.extBut _ _ hd.1 (kp d o hd.1 hd.2.2.1 hd.2.2.2.1 hd.2.2.2.2 e)
  have I1:Inv X pins σ H { s with heap:=h'' }:=I.turnedL (t':=s.toks) aa hf;have hn:H s.heap.objs.size=none:=I.hok.fresh (zn _)
  have I2:Inv X pins σ (upd H s.heap.objs.size (.tup [x,y])) { s with heap:=h'' }:=newTup I I1 (zn _) hn (L.extBut _ _ (lt (by simp)) hT) ru rv
  obtain⟨u',v',ae⟩:=M.to
  refine⟨.ref s.heap.objs.size,_,I2,rfl,⟨_,hn,rfl,λxs' ys' e1 e2=>⟨x,y,by rw[I.seqB_inj e1 Y];exact hx,by rw[I.seqB_inj e2 O];exact hy,rfl⟩⟩,?_,λd hd=>?_⟩
  ·exact⟨z',L.extBut _ _ D.a1 M.ti,⟨u',v',L.extBut _ _ D.a2 ae⟩,M.i1.at λo e=>L.extBut _ _ D.a3 e,M.i2.at λo e=>L.extBut _ _ D.a4 e⟩
  ·rw[xZ (Ne.symm (lt hd))];exact(hf d hd).1
 done:=by
  intro X hP hw hK hc i pins s σ H E I hf st hg;subst hP hw hK;obtain⟨xs,ys,Y,O,hx⟩:=hg;obtain⟨ad,r1,p1⟩:=I.seqB Y;obtain⟨ac,r2,p2⟩:=I.seqB O
  have J:=hf to (by simp)
  have e1:=r1.length;have e2:=r2.length
  refine Kd (I.ok.hd hc) D st p1 p2 (I.ne_fp Y J) (I.ne_fp O J) (hx.imp (λz=>by simp;lia) λz=>by simp;lia) λh' kp=>⟨rfl,I.turnedL (t':=s.toks) (λd o hd e=>?_) hf⟩
  simp only[zk,xg,or_false,not_or] at hd;exact kp d o hd.1 hd.2.2.1 hd.2.2.2.1 hd.2.2.2.2 e
 self:=λ_ _ _ _ _ st h=>wpAny_pyIter_zip st.z h
def xV0(K:W.Frag)(Y:TA):TI:=λσ H R=>Y σ H λvs O=>∃b c L J xs ys,vs=[.ref L,.ref J]/\SqB K b O L xs/\SqB K c O J ys/\R (Itz K b c L J) O
def xe8{es:List Expr}{kk:Nat}{ps:Pos}{a b:Expr}{ta:TA}{p pos:Pos}(hg:Gl X "zip")(hm:X.mg "zip" = none)(ha:PA X [a,b] ta)(hs:starEach [a,b] X.env=[(false,eval a X.env),(false,eval b X.env)]:=by rfl)(L:starEach [b] X.env=[(false,eval b X.env)]:=by rfl) :
  PI X (.Tuple es kk ps) (.Call (.Name "zip" p) [a,b] [] pos) (xV0 X.K ta):=by
 intro pins s σ H R I h
 refine Call_ (Kq I hg hm boot_zip (PyProof.Rows.callWith_type1 (thn (ha pos pins s σ H _ I h) λus s1 ⟨vs,H1,O,r1,Y⟩=>?_) (by rw[hs,L]) (by rw[L];rfl)))
 obtain⟨bb,cc,l1,l2,xs,ys,e,Y,q2,q⟩:=Y;subst e
 cases r1 with
 | cons r W =>
  cases W with
  |cons r' W=>
   cases W;cases r;cases r';obtain⟨ac,r1,p1⟩:=O.seqB Y;obtain⟨aa,r2,p2⟩:=O.seqB q2;refine zH0 p1 p2 λh' z ti to i1 i2 D S J kp=>wpAny_pyIter_zip S.z ?_;exact⟨z,[z,ti,to,i1,i2],_,_,H1,rfl,O.kept (t':=s1.toks) kp,zx7 D,S,λd hd=>O.fpOk (J d hd) (O.hok.fresh (J d hd)),q⟩
def Vals.bools{us:QqW}:∀{bs:List Bool},Vals (bs.map V.bl) us->us=bs.map Value.bool:=by
 induction us with
 |nil=>intro bs h;cases bs with |nil=>rfl |cons=>cases h
 | cons u us J =>
  intro bs h
  cases bs with
  |nil=>cases h
  | cons b bs =>
   cases h with
   |cons r t=>
    have e:u=Value.bool b:=r;rw[e,J t];rfl
def zN8(bs:List Bool):((List.range bs.length).all λi=>(bs[i]?).getD true)=bs.all id:=by
 rw[wx,wm,wm]
 constructor
 ·intro h b J;obtain⟨i,hi,e⟩:=yJ.mp J;have:=h i (yY.mpr hi);rw[zd hi,e] at this;exact this
 ·intro h i hi;have hi':=yY.mp hi;rw[zd hi'];exact h _ (wl hi')
def zN7(bs:List Bool):((List.range bs.length).any λi=>(bs[i]?).getD false)=bs.any id:=by
 rw[wx,List.any_eq_true,List.any_eq_true]
 constructor
 ·rintro⟨i,hi,h⟩;have hi':=yY.mp hi;rw[zd hi'] at h;exact⟨_,wl hi',h⟩
 ·rintro ⟨b, J, h⟩;obtain⟨i,hi,e⟩:=yJ.mp J
  exact⟨i,yY.mpr hi,by rw[zd hi,e];exact h⟩
def UV{h h':Heap}{o:Obj}(hk:∀b x,b ∉ [h.objs.size]->(h.push o).get? b=some x->h'.get? b=some x):∀b x,h.get? b=some x->h'.get? b=some x:=
 λb x e=>hk b x (λz=>absurd (zo e) (by rw[zF.mp z];exact xj _)) (ze _ e)
def zH2(Y:X.calm=true):kW X (.builtin "all") (λxs H Q=>∃(p:Addr) (bs:List Bool),xs=[.ref p]/\SqL X.K H p (bs.map V.bl)/\Q (.bl (bs.all id)) H):=by
 intro pins s σ H xs us Q I r h;obtain⟨p,bs,rfl,W,q⟩:=h
 cases r with
 | cons r O =>
  cases O;cases r;obtain⟨its,rv,pl,_⟩:=I.list W;have ei:=Vals.bools rv;subst ei;have L:=pl.isList
  have J:p<s.heap.objs.size:=by obtain⟨_,e,_⟩:=L;exact zo e
  refine call_all_walk (wQ L ⟨s.heap.objs.size,[s.heap.objs.size,p],[s.heap.objs.size],(bs.map Value.bool).toArray.size,_,_,λi=>(bs[i]?).getD true,rfl,
   Walks.list (A:=X.A.in1) (I.ok.hd Y) _ p (zx J) _,⟨⟨_,zr _ rfl,rfl,rfl⟩,L.push _⟩,λi v s' Q' E' hP hQ=>?_,λh' tk hk=>?_⟩)
  ·have hP' : (bs.map Value.bool)[i]? = some v := by simpa using hP
   rw[zw] at hP'
   cases e:bs[i]? with
   |none=>rw[e] at hP';cases hP'
   |some b=>
    rw[e] at hP';have hQ':Q' ((bs[i]?).getD true) s':=hQ;rw[e] at hQ';cases hP';exact wE hQ'
  ·refine⟨.bl (bs.all id),H,I.kept (UV hk),?_,q⟩;show Value.bool _=Value.bool _;rw[zq,zg,zN8]
def zH1(Y:X.calm=true):kW X (.builtin "any") (λxs H Q=>∃(p:Addr) (bs:List Bool),xs=[.ref p]/\SqL X.K H p (bs.map V.bl)/\Q (.bl (bs.any id)) H):=by
 intro pins s σ H xs us Q I r h;obtain⟨p,bs,rfl,W,q⟩:=h
 cases r with
 | cons r O =>
  cases O;cases r;obtain⟨its,rv,pl,_⟩:=I.list W;have ei:=Vals.bools rv;subst ei;have L:=pl.isList
  have J:p<s.heap.objs.size:=by obtain⟨_,e,_⟩:=L;exact zo e
  refine call_any_walk (wQ L ⟨s.heap.objs.size,[s.heap.objs.size,p],[s.heap.objs.size],(bs.map Value.bool).toArray.size,_,_,λi=>(bs[i]?).getD false,rfl,
   Walks.list (A:=X.A.in1) (I.ok.hd Y) _ p (zx J) _,⟨⟨_,zr _ rfl,rfl,rfl⟩,L.push _⟩,λi v s' Q' E' hP hQ=>?_,λh' tk hk=>?_⟩)
  ·have hP' : (bs.map Value.bool)[i]? = some v := by simpa using hP
   rw[zw] at hP'
   cases e:bs[i]? with
   |none=>rw[e] at hP';cases hP'
   |some b=>
    rw[e] at hP';have hQ':Q' ((bs[i]?).getD false) s':=hQ;rw[e] at hQ';cases hP';exact wE hQ'
  ·refine⟨.bl (bs.any id),H,I.kept (UV hk),?_,q⟩;show Value.bool _=Value.bool _;rw[zq,zg,zN7]
def Wy:fillsNumberSlot (.type "tuple") "mul" = pure false:=
 PySem.fillsNumberSlot_seq (id := "tuple.__mul__") (r:=some (.builtin "tuple.__rmul__")) F.slot_tuple_mul.lookup x3 F.slot_tuple_rmul.lookup x3
def zN9:seqRepeat? (.type "tuple")=pure (some (.builtin "tuple.__mul__")):=by
 unfold seqRepeat?
 rw[PySem.seqSlot_of (T := "tuple") (name := "__mul__") (id := "tuple.__mul__") F.slot_tuple_mul.lookup x3,PySem.seqSlot_of (T := "tuple") (name := "__rmul__") (id := "tuple.__rmul__") F.slot_tuple_rmul.lookup x3]
 rfl
def zz0(a:Int)(t:Tok)(l:Addr)(o:Obj)(items:Array Value)(n:Nat) :
  Meets (Builtin.«int.__rmul__» ⟨[.int a t,.ref l],[]⟩) (λ_ R s=>s.heap.get? l=some o/\o.cls=.type "tuple" /\ o.data=.seq items n/\R (.ok (.ret Value.notImplemented)) s):=
 .of_wp λprog w A R s h=>by
  obtain⟨Y,g,d,O,os⟩:=s;obtain⟨hl,J,hd,h⟩:=h;obtain⟨c,dd,L,W⟩:=o
  replace J:c=.type "tuple" := J
  replace hd:L=.seq items n:=hd
  subst J hd
  wp_walk
  exact⟨_,rfl,h⟩
def zS8(l:Addr)(o:Obj)(items:Array Value)(n:Nat)(k:Int)(t:Tok)(h1:¬ (decide (k < -(2^63))||decide (k>=2^63))=true)(he:items.isEmpty=false)(Y:(k == 1)=false)(O:(decide (k<=0)||items.isEmpty)=false)
    (L:¬ (items.size:Int)*k > (2^63-1)/8) (J:¬ Builtin.Tuple.tupleTooMany ((items.size:Int)*k)=true) (hz:((replicate k.toNat items).foldl (·++·) #[]).size<=sizeLine) :
    Meets (Builtin.«tuple.__mul__» ⟨[.ref l,.int k t],[]⟩) (λ_ R s=>s.heap.get? l=some o/\o.cls=.type "tuple" /\ o.data=.seq items n /\
      R (.ok (.ret (.ref s.heap.objs.size))) { s with heap:=s.heap.push { cls:=.type "tuple",data:=.seq ((replicate k.toNat items).foldl (·++·) #[]) } }):=
  .of_wp λprog w A R s h=>by
    obtain⟨hp,g,d,tk,os⟩:=s;obtain⟨hl,W,hd,h⟩:=h;obtain⟨c,dd,dt,sl⟩:=o
    replace W:c=.type "tuple" := W
    replace hd:dt=.seq items n:=hd
    subst W hd
    wp_walk
    rw[if_neg h1]
    wp_walk
    rw[O,if_neg zJ];dsimp only;rw[if_neg L,if_neg J];unfold Builtin.Tuple.tupleExact;refine zb (wpAny_newTuple ?_);exact zf ⟨_,rfl,h⟩
def zD5(l:Addr)(o:Obj)(items:Array Value)(n:Nat)(t:Tok) :
  Meets (Builtin.«tuple.__mul__» ⟨[.ref l,.int 1 t],[]⟩) (λ_ R s=>s.heap.get? l=some o/\o.cls=.type "tuple" /\ o.data=.seq items n/\R (.ok (.ret (.ref l))) s):=
 .of_wp λprog w A R s h=>by
  obtain⟨Y,g,d,O,os⟩:=s;obtain⟨hl,J,hd,h⟩:=h;obtain⟨c,dd,L,W⟩:=o
  replace J:c=.type "tuple" := J
  replace hd:L=.seq items n:=hd
  subst J hd
  wp_walk
  exact⟨_,rfl,h⟩
def xc8(K:W.Frag):R2:=λx y H Q=>∃l k xs,x=.ref l/\y=.int k/\SqT K H l xs/\xs≠[]/\1<=k/\xs.length*k.toNat<=sizeLine /\
 (k=1->Q (.ref l) H)/\(k≠1->∀p,H p=none->Q (.ref p) (upd H p (.tup (replicate k.toNat xs).flatten)))
def zQ9:OpR X (binaryOp .Mult) (xc8 X.K):=by
 intro pins s σ H x y v u Q I rx ry h;obtain⟨l,k,xs,rfl,rfl,hq,ad,h1,hz,q1,q2⟩:=h;cases rx;obtain⟨t,rfl⟩:=ry;obtain⟨its,rv,⟨o,e,hc,n,hd⟩,_⟩:=I.tuple hq;have aa:=rv.length
 have L:0<its.length:=by rw[<- aa];exact List.length_pos_iff.mpr ad
 have O:s.TypeIs (.ref l) "tuple" := ⟨o,e,hc⟩
 refine wpAny_binaryOp_repeat_ref (T := "tuple") (U := "int") w6 O (λs'=>typeIs_int s' k t) Wy F.fills_int_mul F.slot_int_rmul zN9 F.slot_int_index.lookup
  (call_meets F.slot_int_rmul (typeIs_int s k t) F.entry_int_rmul (F.args_int_rmul_2 _ _) (zz0 k t l o its.toArray n) ⟨e,hc,hd,rfl,O,?_⟩)
 by_cases hk:k=1
 ·subst hk;exact call_meets F.slot_tuple_mul O F.entry_tuple_mul (F.args_tuple_mul_2 _ _) (zD5 l o its.toArray n t) ⟨e,hc,hd,⟨.ref l,H,I,rfl,q1 rfl⟩⟩
 ·have af : (2 : Int) <= k := by lia
  have Y:its.length*k.toNat<=sizeLine:=by rw[<- aa];exact hz
  have J:((its.toArray.size:Nat):Int)*k=((its.length*k.toNat:Nat):Int):=by
   rw[zq,Int.natCast_mul,Int.toNat_of_nonneg w5]
  have ac:(sizeLine:Int)=16777216:=w6
  have hb:((its.length*k.toNat:Nat):Int)<=16777216:=by rw[<- ac];exact Int.ofNat_le.mpr Y
  have ae:k<=16777216:=by
   have:k.toNat<=its.length*k.toNat:=Nat.le_mul_of_pos_left _ L;lia
  have W:List.foldl (λx1 x2=>x1++x2) #[] (replicate k.toNat its.toArray)=(replicate k.toNat its).flatten.toArray:=by
   have:=Kx its k.toNat [];rw[wf] at this;exact this
  refine call_meets F.slot_tuple_mul O F.entry_tuple_mul (F.args_tuple_mul_2 _ _) (zS8 l o its.toArray n k t ?_ ?_ ?_ ?_ ?_ ?_ ?_) ⟨e,hc,hd,?_⟩
  ·rw[Bool.or_eq_true,wF,wF];lia
  ·cases its with
   |nil=>simp at L
   |cons=>rfl
  ·simpa using hk
  ·rw [Bool.or_eq_false_iff]
   refine⟨zN w5,?_⟩
   cases its with
   |nil=>simp at L
   |cons=>rfl
  ·rw[J];lia
  ·unfold Builtin.Tuple.tupleTooMany;rw[J,wF,ac];lia
  ·rw[W,zq,zp3,Nat.mul_comm];exact Y
  ·rw [W]
   refine⟨.ref _,_,I.laid (o:=.tup (replicate k.toNat xs).flatten) (t':=s.toks) (λ_ _ z=>ze _ z) (zn _) ⟨by rw[zp3,Nat.mul_comm];exact hz,_,rv.rep k.toNat,⟨_,zr _ rfl,rfl,_,rfl⟩⟩,rfl,q2 hk _ I.fresh⟩
end
section
variable (P:Program) (w:World)
end
section
variable {P:Program}{w:World}{H H':Hp}{h h':Heap}{a:Addr}{o:HO}
end
section
variable {P:Program}{w:World}{H:Hp}{h h':Heap}{x e:Addr}{o':HO}
end
section
variable {fs fs' ex ex':List Addr}{H H1 H2:Hp}{h h1 h2 h':Heap}{a x e:Addr}{o:HO}
end
section
variable {X:Cx}{pins:QqL}{σ:List (Option V)}{H H':Hp}{s:Shared}{h':Heap}
end
section
variable {X:Cx}
variable {a b:Expr}{ta tb:TE}{pos:Pos}
variable {tA tB':TT}{rest:List Expr}
end
section
variable {X:Cx}{pins:QqL}{σ:St}{H:Hp}{s:Shared}{a:Addr}{xs ys:List V}
end
section
variable {X:Cx}{pins:QqL}{σ:St}{H:Hp}{s:Shared}{E:QqV}
end
section
variable {X:Cx}{st:Stmt}{rest:List Stmt}{t u:TS}{e:Expr}{te:TE}{pos:Pos}
end
section
variable {X:Cx}{pos:Pos}
end
section
variable {X:Cx}{tg:Expr}
end
section
variable {X:Cx}{a b c:Expr}{ta tb tc:TE}{pos:Pos}
end
section
variable {prog:Program}{w:World}{A:Around}{E:QqV}{s:Shared}{K:W.Frag}{x dx C f:Addr}{mA:QqM}{name:Str}{v:Value}
end
section
variable {P:Program}{w:World}{H H':Hp}{h h':Heap}{a C dx:Addr}{fs fs':List (Str × V)}
end
section
variable {X:Cx}{pins:QqL}{σ:St}{H:Hp}{s:Shared}{a C dx:Addr}{fs:List (Str × V)}{f:Str}{v:V}{A:Around}{E:QqV}
end
section
variable {X:Cx}{o e value:Expr}{f:Str}{pos pos' tpos:Pos}{ta tv:TE}
end
section
variable {X:Cx}{pins:QqL}{σ:St}{H:Hp}{s:Shared}{A:Around}{E:QqV}{Q:QqV}{c:Value}{b:Bool}
end
section
variable {X:Cx}{e:Expr}{es:List Expr}{te:TE}{t:TA}{pos:Pos}
end
section
variable {X:Cx}{pins:QqL}{σ:St}{H:Hp}{s s':Shared}
end
section
variable {X:Cx}{CX:CXT}{k:Nat}{f C:Addr}{fd:FuncData}{ps:List Str}{sp:Sp}{dvs:List V}{ds:QqW}{E:XK}{x m:Str}{p pos apos:Pos}{e o:Expr}{es:List Expr}{ta:TE}{t:TA}
end
section
variable {X:Cx}{CX:CXT}{k:Nat}{f C:Addr}{fd:FuncData}{ps ks:List Str}{sp:Sp}{E:XK}{x m:Str}{p pos apos kpos:Pos}{e o:Expr}{es:List Expr}{kws:List Keyword}{te ta:TE}{t tk:TA}{nm:Option Str}
variable {g:List Value->List Value->List Value}{gV:List V->List V->List V}
end
section
variable {X:Cx}{x:Str}{p pos:Pos}{e:Expr}{es:List Expr}{t:TA}{id T:String}{r:List V->Hp->VK->Prop}
end
section
variable {κ:Type} [DecidableEq κ]
def YK(J:List (κ × V))(k:κ):Option V:=(J.find? λL=>decide (L.1=k)).map (·.2)
def zc6(J:List (κ × V))(k:κ)(v:V):List (κ × V):=
 if (J.any λL=>decide (L.1=k))=true then J.map (λL=>if L.1=k then(L.1,v) else L) else J++[(k,v)]
def WL(J:List (κ × V))(k:κ):List (κ × V):=J.filter λL=>decide (L.1≠k)
theorem Xc{p:κ × V}{r:List (κ × V)}{k:κ}(e:p.1=k):YK (p::r) k=some p.2:=by simp[YK,wg,e]
theorem Xd{p:κ × V}{r:List (κ × V)}{k:κ}(e:¬ p.1=k):YK (p::r) k=YK r k:=by simp[YK,wg,e]
theorem Qq(k:κ):∀J:List (κ × V),(J.any λL=>decide (L.1=k))=(YK J k).isSome
 |[]=>rfl
 |p::r=>by
  rw[yR]
  by_cases e:p.1=k
  ·simp only[Xc e,xm e,Bool.true_or,Option.isSome_some]
  ·rw[Xd e,zN e,Bool.false_or];exact Qq k r
theorem RelO.isSome_eq{o:Option V}{u:Option Value}(r:RelO o u):o.isSome=u.isSome:=by
 cases o with
 |none=>cases u with
  |none=>rfl
  |some _=>exact(show False from r).elim
 |some _=>cases u with
  |none=>exact(show False from r).elim
  |some _=>rfl
theorem KV.val{J:List (κ × V)}{vs:List (κ × Value)}(r:KV J vs)(k:κ):RelO (YK J k) (valueAt vs k):=by
 unfold KV at r
 induction r with
 |nil=>exact True.intro
 | @cons p q ps qs h t L =>
  obtain⟨h1,O⟩:=h
  by_cases e:p.1=k
  ·have e' : q.1 = k := h1.symm.trans e
   have b:valueAt (q::qs) k=some q.2:=by simp[valueAt,wg,e']
   rw[Xc e,b];exact O
  ·have e' : ¬ q.1 = k := λz => e (h1.trans z)
   have b:valueAt (q::qs) k=valueAt qs k:=by simp[valueAt,wg,e']
   rw[Xd e,b];exact L
theorem KV.any{J:List (κ × V)}{vs:List (κ × Value)}(r:KV J vs)(k:κ):(J.any λL=>decide (L.1=k))=vs.any λL=>decide (L.1=k):=by
 unfold KV at r
 induction r with
 |nil=>rfl
 |cons h t O=>rw[yR,yR,O,h.1]
theorem KV.repl{L:List (κ × V)}{vs:List (κ × Value)}(r:KV L vs)(k:κ){y:V}{u:Value}(O:RelV y u) :
  KV (L.map λJ=>if J.1=k then(J.1,y) else J) (vs.map λJ=>if J.1=k then(J.1,u) else J):=by
 unfold KV at r ⊢
 induction r with
 |nil=>exact .nil
 |@cons p q ps qs h t W=>
  rw[zE,zE];refine .cons ?_ W;obtain⟨h1,Y⟩:=h
  by_cases e:p.1=k
  ·rw[if_pos e,if_pos (h1.symm.trans e)];exact⟨h1,O⟩
  ·rw[if_neg e,if_neg (λz=>e (h1.trans z))];exact⟨h1,Y⟩
theorem KV.put{J:List (κ × V)}{vs:List (κ × Value)}(r:KV J vs)(k:κ){y:V}{u:Value}(L:RelV y u):KV (zc6 J k y) (stored vs k u):=by
 unfold zc6 stored;rw[r.any k]
 by_cases e:(vs.any λO=>decide (O.1=k))=true
 ·rw[if_pos e,if_pos e];exact r.repl k L
 ·rw[if_neg e,if_neg e];exact Paired.snoc r ⟨rfl,L⟩
theorem KV.length{J:List (κ × V)}{vs:List (κ × Value)}(r:KV J vs):J.length=vs.length:=Paired.length r
end
def zE6{P:Program}{w:World}{k:Key}{u:Value}(r:RelV (kV k) u):(wP P w).is k u=true:=by
 cases k with
 |inl i=>obtain⟨t,e⟩:=(show ∃t,u=Value.int i t from r);subst e;exact JI P w i t
 |inr x=>obtain⟨t,e⟩:=(show ∃t,u=Value.str x t from r);subst e;exact JH P w x t
theorem XZ{P:Program}{w:World}:∀{ks:List Key}{us:QqW},Vals (ks.map kV) us->ItemsAre (wP P w) ks us
 |[],_,r=>by rw[map_nil] at r;cases r;exact .nil
 |k::ks,_,r=>by
  rw[zE] at r
  cases r with
  |cons h t=>exact .cons (zE6 h) (XZ t)
abbrev KT(H:Hp):List (List Key × V)->List (List Key × Addr × Value)->Prop:=Paired λp q=>p.1=q.1/\H q.2.1=some (.tup (p.1.map kV))/\RelV p.2 q.2.2
def KT.val{H:Hp}{J:List (List Key × V)}{xs:List (List Key × Addr × Value)}(r:KT H J xs)(k:List Key):RelO (YK J k) ((atKey xs k).map (·.2)):=by
 induction r with
 |nil=>exact True.intro
 | @cons p q ps qs h t L =>
  obtain⟨h1,_,O⟩:=h
  by_cases e:p.1=k
  ·have e' : q.1 = k := h1.symm.trans e
   have b:atKey (q::qs) k=some q.2:=by simp[atKey,wg,e']
   rw[Xc e,b];exact O
  ·have e' : ¬ q.1 = k := λz => e (h1.trans z)
   have b:atKey (q::qs) k=atKey qs k:=by simp[atKey,wg,e']
   rw[Xd e,b];exact L
def KT.repl{H:Hp}{J:List (List Key × V)}{xs:List (List Key × Addr × Value)}(r:KT H J xs)(k:List Key){y:V}{u:Value}(W:RelV y u) :
  KT H (J.map λL=>if L.1=k then(L.1,y) else L) (xs.map (putAt k u)):=by
 induction r with
 |nil=>exact .nil
 |@cons p q ps qs h t Y=>
  rw[zE,zE];refine .cons ?_ Y;obtain⟨h1,O,h3⟩:=h;unfold putAt
  by_cases e:p.1=k
  ·rw[if_pos e,if_pos (h1.symm.trans e)];exact⟨h1,O,W⟩
  ·rw[if_neg e,if_neg (λz=>e (h1.trans z))];exact⟨h1,O,h3⟩
def KT.put{H:Hp}{J:List (List Key × V)}{xs:List (List Key × Addr × Value)}(r:KT H J xs)(k:List Key){b:Addr}{y:V}{u:Value}(W:H b=some (.tup (k.map kV)))(L:RelV y u) :
  KT H (zc6 J k y) (storedH xs k b u):=by
 have e:(J.any λO=>decide (O.1=k))=(atKey xs k).isSome:=by
  rw[Qq,(r.val k).isSome_eq,Option.isSome_map]
 unfold zc6 storedH;rw[e]
 by_cases q:(atKey xs k).isSome=true
 ·rw[if_pos q,if_pos q];exact r.repl k L
 ·rw[if_neg q,if_neg q];exact Paired.snoc r ⟨rfl,W,L⟩
def KT.keeps{H H':Hp}{J:List (List Key × V)}{xs:List (List Key × Addr × Value)}(r:KT H J xs)(ht:∀b ys,H b=some (.tup ys)->H' b=some (.tup ys)):KT H' J xs:=
 Paired.mapP r λ_ _ z=>⟨z.1,ht _ _ z.2.1,z.2.2⟩
section
variable {P:Program}{w:World}{H:Hp}{h:Heap}{a:Addr}
def xb6{u:HO}(ok:HOk P w H h)(e:Rd H a u):ObjOk P w H h a u:=e.ok ok
def zG0{J:List (Key × V)}(ok:HOk P w H h)(e:Rd H a (.dK J)):J.length<=sizeLine/\(a == sysModules)=false/\∃vs,KV J vs/\h.DictOf (wP P w) a vs:=
 show ObjOk P w H h a (.dK J) from xb6 ok e
def Ks{ks:List Key}(ok:HOk P w H h)(e:H a=some (.tup (ks.map kV))):(tupleKind (wP P w)).is h ks a:=by
 obtain⟨_,its,r,o,h1,L,n,J⟩:=(show ObjOk P w H h a (.tup (ks.map kV)) from ok a _ e)
 exact⟨o,its.toArray,n,h1,L,J,by simpa using XZ r⟩
def zs6{J:List (List Key × V)}(ok:HOk P w H h)(e:Rd H a (.dT J)):J.length<=sizeLine/\(a == sysModules)=false /\
  ∃xs,KT H J xs/\h.DictOfH (tupleKind (wP P w)) a xs:=by
 obtain⟨z,y,xs,r,o,es,ep,h1,h2,h3,Y,W⟩:=(show ObjOk P w H h a (.dT J) from xb6 ok e);refine⟨z,y,xs,r,o,es,ep,h1,h2,h3,Y,λx hx=>?_,W⟩
 have all:∀{l:List (List Key × V)}{m:List (List Key × Addr × Value)},KT H l m->∀x∈m,(tupleKind (wP P w)).is h x.1 x.2.1:=by
  intro l m q
  induction q with
  |nil=>intro x hx;exact nomatch hx
  | @cons p q ps qs L t O =>
   intro x hx
   rcases zk.mp hx with e |hx
   ·subst e
    exact Ks ok (by rw[<- L.1];exact L.2.1)
   ·exact O x hx
 exact all r x hx
def zf2{J:List (List Key × V)}(ok:HOk P w H h)(e:H a=some (.dT J)):J.length<=sizeLine/\(a == sysModules)=false /\
  ∃xs,KT H J xs/\h.DictOfH (tupleKind (wP P w)) a xs:=zs6 ok (.inl e)
end
def DGet(H:Hp)(a:Addr)(y:V)(r:Option V):Prop:=
 (∃J k,Rd H a (.dK J)/\y=kV k/\r=YK J k)\/∃J k b,Rd H a (.dT J)/\y=.ref b/\H b=some (.tup (k.map kV))/\r=YK J k
def DGet.k{H:Hp}{a:Addr}{J:List (Key × V)}{k:Key}(e:H a=some (.dK J)):DGet H a (kV k) (YK J k):=.inl ⟨J,k,.inl e,rfl,rfl⟩
section
variable {X:Cx}{pins:QqL}{σ:St}{H:Hp}{s:Shared}{a:Addr}{y v:V}{u r:Value}{o:Option V}{A:Around}{E:QqV}
def Inv.big(I:Inv X pins σ H s):sysModules<s.heap.objs.size:=by
 have h:mainGlobals<s.heap.objs.size:=(I.mod.glob.keeps I.bk).lt
 exact yH w6 h
def zt1{Q:QqV}(hu:A.units+1<cLine)(I:Inv X pins σ H s)(g:DGet H a y (some v))(ry:RelV y u)(h:∀w' s',Inv X pins σ H s'->RelV v w'->Q w' s') :
  wpAny (model X.prog X.w) A (getItem (.ref a) u) Q E s:=by
 rcases g with ⟨L,k,e,Y,l⟩ |⟨L,k,b,e,Y,eb,l⟩
 ·subst Y;obtain⟨z,hd,vs,J,dd⟩:=zG0 I.hok e
  obtain⟨w',O,rw'⟩:=RelO.some_of (v:=v) (o:=valueAt vs k) (by rw[l];exact J.val k)
  exact wpAny_getItem_of (zE6 ry) dd.mapOf O (h w' _ (I.tok _) rw')
 ·subst Y;cases(show u=Value.ref b from ry);obtain⟨z,hd,xs,J,dd⟩:=zs6 I.hok e
  obtain⟨w',O,rw'⟩:=RelO.some_of (v:=v) (o:=(atKey xs k).map (·.2)) (by rw[l];exact J.val k)
  obtain⟨p,hp,W⟩:=Option.map_eq_some_iff.mp O;refine wpAny_getItem_heap (tupleKind_room_in1 hu) (Ks I.hok eb) dd hp ?_;rw[W];exact h w' _ (I.tok _) rw'
def zV8{Q:QqV}(hu:A.units+1<cLine)(I:Inv X pins σ H s)(g:DGet H a y o)(Y:RelV y u)(h:∀s',Inv X pins σ H s'->Q (.bool (!o.isSome)) s') :
  wpAny (model X.prog X.w) A (compareOp .NotIn u (.ref a)) Q E s:=by
 rcases g with ⟨L,k,e,O,l⟩ |⟨L,k,b,e,O,eb,l⟩
 ·subst O;obtain⟨z,hd,vs,J,W⟩:=zG0 I.hok e;refine wpAny_notIn_of (zE6 Y) hd W.mapOf ?_;rw[<- (J.val k).isSome_eq,<- l];exact h _ (I.tok _)
 ·subst O;cases(show u=Value.ref b from Y);obtain⟨z,hd,xs,J,W⟩:=zs6 I.hok e;refine wpAny_notIn_heap (tupleKind_room_in1 hu) (Ks I.hok eb) hd W ?_;have q:=(J.val k).isSome_eq;rw[Option.isSome_map] at q;rw[<- q,<- l];exact h _ (I.tok _)
def zt0{h':Heap}{t':Nat}{J:HO}(I:Inv X pins σ H s)(O:Mut (H a))(hs:Heap.SameBut a s.heap h')(W:∃q,h'.get? a=some q)(L:ObjOk X.prog X.w (upd H a J) h' a J) :
  Inv X pins σ (upd H a J) { s with heap:=h',toks:=t' }:=
 I.write (x:=a) (e:=a) O (.inl rfl) (λb q Y z=>(hs.2 b Y).trans z) W L
end
section
variable {X:Cx}{pins:QqL}{σ:St}{H:Hp}{s:Shared}{a:Addr}{kvs:List (Key × V)}{k:Key}{u:Value}{A:Around}{E:QqV}
end
def zX0(i:Expr):Prop:=∀J L,subscripted i false J L=operate [J,L] (getItem J L)
def Jq{prog:Program}{w:World}{A:Around}{E:QqV}{s:Shared}{env:Env}{L J:Expr}{pos:Pos}{T id:String}{Q:QqV}
  (hl:typeLookup (.type T) "__getitem__" = pure (some (.builtin id))) (hs:zX0 J)
  (h:wpAny (model prog w) A (eval L env) (λo s₁=>wpAny (model prog w) A (eval J env) (λi O=>O.TypeIs o T/\wpAny (model prog w) A (getItem o i) Q E O) E s₁) E s) :
  wpAny (model prog w) A (eval (.Subscript L J pos) env) Q E s:=by
 refine Subscript_ (wM h (λo s₁ h₁=>wM h₁ (λi O W=>?_) λ_ _ x=>x) λ_ _ x=>x);obtain⟨hT,W⟩:=W;unfold subscriptTail;refine zb ?_;rw[getitemInPython_of_ne hT.not_modules];refine zb (wpAny_specialOf hT hl ?_)
 have fin:wpAny (model prog w) A (subscripted J false o i) (λr Y=>wpAny (model prog w) A (letTemporaryGo L o r >>= λ_=>pure r) Q E Y) E O:=by
  rw[hs o i];exact wpAny_operating (wM W (λr Y h₃=>zb (wpAny_letTemporaryGo (zf h₃))) λ_ _ x=>x)
 first
  |exact zf (zb fin)
  |exact zb (zf (zb fin))
  |exact zb fin
def JT{X:Cx}{J:QqL}{σ:St}{H:Hp}{s:Shared}{a:Addr}{y:V}{o:Option V}(I:Inv X J σ H s)(g:DGet H a y o):s.TypeIs (.ref a) "dict" := by
 rcases g with ⟨L,k,e,_,_⟩ |⟨L,k,b,e,_,_,_⟩
 ·obtain⟨_,_,vs,_,O⟩:=zG0 I.hok e;exact O.typeIs
 ·obtain⟨_,_,xs,_,O⟩:=zs6 I.hok e;exact O.typeIs
def xu1(L ty:TE):TE:=λσ H Q=>L σ H λx O=>ty σ O λy J=>∃a v,x=.ref a/\DGet J a y (some v)/\Q v J
section
variable {X:Cx}{o i e value:Expr}{pos pos' tpos:Pos}{td ty tv:TE}
def zQ0(hu:X.A.units+1<cLine)(ho:PE X o td)(hi:PE X i ty)(hs:zX0 i):PE X (.Subscript o i pos) (xu1 td ty):=by
 intro J s σ H Q I h;refine Jq PySem.F.slot_dict_getitem.lookup hs (thn (ho J s σ H _ I h) λu O ⟨x,H1,I1,Y,q1⟩=>thn (hi J O σ H1 _ I1 q1) λiv s2 ⟨y,H2,L,W,a,v,ex,g,q2⟩=>?_);subst ex;obtain rfl:u=Value.ref a:=Y;exact⟨JT L g,zt1 hu L g W λw' s3 I3 rw'=>⟨v,H2,I3,rw',q2⟩⟩
end
def Uq{P:Program}{w:World}{H:Hp}(h:Heap)(J:sysModules<h.objs.size):ObjOk P w H (h.push { cls:=.type "dict",data:=.dict #[] }) h.objs.size (.dK []):=
 ⟨wo _,beq_eq_false_iff_ne.mpr (Ne.symm (zx J)),[],.nil,Heap.DictOf.new h⟩
section
variable {X:Cx}{pos:Pos}
end
structure M1(X:Cx)(o:Expr)(m:Str)(apos:Pos)(e:Expr)(cpos:Pos):Prop where
 base:attributeBase o m X.env (eval o X.env)=eval o X.env
 few:((backTo cpos (starEach [e] X.env)).all (λx=>!x.1)&&(backToKw cpos (keywordEach [] X.env)).all (λx=>x.1.isSome)
  && decide (([e]:List Expr).length+([]:List Keyword).length+(if ([]:List Keyword).isEmpty then 0 else 1)<30))=true
 line:(apos.endLine == cpos.line)=true
 trees:backTo cpos (starEach [e] X.env)=[(false,eval e X.env)]
def IsD(H:Hp)(a:Addr):Prop:=(∃J,Rd H a (.dK J))\/∃J,Rd H a (.dT J)
def zq7{X:Cx}{L:QqL}{σ:St}{H:Hp}{s:Shared}{a:Addr}(I:Inv X L σ H s)(d:IsD H a) :
  s.TypeIs (.ref a) "dict" /\ (∀b,Value.ref a=.ref b->∃J,s.heap.get? b=some J/\J.dict=none)/\(a == sysModules)=false:=by
 rcases d with ⟨W,e⟩ |⟨W,e⟩
 ·obtain⟨_,hd,vs,_,O⟩:=zG0 I.hok e;refine⟨O.typeIs,λb q=>?_,hd⟩;cases q;obtain⟨J,_,_,h1,Y,_⟩:=O;exact⟨J,h1,Y.2.1⟩
 ·obtain⟨_,hd,xs,_,O⟩:=zs6 I.hok e;refine⟨O.typeIs,λb q=>?_,hd⟩;cases q;obtain⟨J,_,_,h1,Y,_⟩:=O;exact⟨J,h1,Y.2.1⟩
section
variable {X:Cx}{pins:QqL}{σ:St}{H:Hp}{s:Shared}{a:Addr}{y d:V}{u r:Value}{o:Option V}{A:Around}{E:QqV}
end
section
variable {X:Cx}{o e f:Expr}{apos cpos:Pos}{td ty tx:TE}
end
section
variable {X:Cx}{pins:QqL}{σ:St}{H:Hp}{s:Shared}{a:Addr}{kvs:List (Key × V)}{A:Around}{E:QqV}
end
section
variable {X:Cx}{pins:QqL}{σ:St}{H:Hp}{s:Shared}{a:Addr}{y:V}{u:Value}{A:Around}{E:QqV}
end
end L2
namespace Att
open PySem PySem.W PySem.Calls PyProof.Rows
section
variable {prog:Program}{w:World}{A:Around}{E:QqV}{s:Shared}{K:Frag}
end
end Att
namespace L2
section
variable {P:Program}{w:World}{K:W.Frag}{mg:QqM}{base:Heap}
end
section
variable {X:Cx}
end
section
variable {κ:Type} [DecidableEq κ]
end
section
variable {prog:Program}{w:World}{A:Around}{R:Result->Shared->Prop}{s:Shared}
def Vo{kx W L iter:Expr}{ifs:List Expr}{O:Scope}{pos:Pos}{it:Value}{D:Addr}{env:Env}(J:Nat->Shared->Prop)
  (turn : ∀ n s, J n s -> wpAny (model prog w) A (pyNext it) (λr s1 => match r with
   |none=>R (.ok .next) s1
   | some v => wpAny (model prog w) A (letOwnedTupleGo L it v) (λ_ s2 => wpAny (model prog w) A (assign L env v) (λ_ s3 => wpAny (model prog w) A (zv3 ifs env) (λok Y =>
     if ok=true then wpAny (model prog w) A (eval kx env) (λkv s5=>wpAny (model prog w) A (eval W env) (λvv s6=>wpAny (model prog w) A (dictSet D kv vv) (λ_ s7=>∃m,m<n/\J m s7) (λ_ _=>False) s6) (λ_ _=>False) s5) (λ_ _=>False) Y
     else ∃m,m<n/\J m Y) (λ_ _=>False) s3) (λ_ _=>False) s2) (λ_ _=>False) s1) (λ_ _=>False) s)
  (n:Nat) (h:J n s):codeAny (model prog w) A (.compLoop (.DictComp kx W [⟨L,iter,ifs,0⟩] O pos) 0 it (.ref D) env) R s:=by
 refine codeAny_loop rfl J (λn s hJ=>?_) n h
 show wpAny _ A ((compTurn (.DictComp kx W [⟨L,iter,ifs,0⟩] O pos) 0 it (.ref D) env).onRaise (λx=>do noteFrame x env;theTreesLotGoes x)) _ _ s
 refine wpAny_noted ?_;rw[compTurn_dict]
 have up:∀{α:Type}{t:Sem α}{Q Q':α->Shared->Prop}{E:QqV}{s:Shared},wpAny (model prog w) A t Q (λ_ _=>False) s->(∀a s,Q a s->Q' a s)->wpAny (model prog w) A t Q' E s:=
  λh f=>wM h f λ_ _ z=>False.elim z
 refine zb (wpAny_standAt (zb (up (turn n s hJ) λr s1 h1=>?_)))
 cases r with
 |none=>exact zf h1
 |some v=>
  refine zb (up h1 λ_ s2 h2=>?_);refine zb (up h2 λ_ s3 h3=>?_);refine zb (up h3 λok Y h4=>?_)
  cases ok with
  |false=>exact zf ⟨rfl,h4⟩
  |true=>exact zb (zb (up h4 λkv s5 h5=>zb (xp (up h5 λvv s6 h6=>zb (wpAny_standAt (xp (up h6 λ_ s7 h7=>zf ⟨rfl,h7⟩)))))))
end
section
variable {X:Cx}{scope:Scope}{own M:List Str}{pins:QqL}{σ:St}{H2:Hp}{s2:Shared}{fp:List Addr}
def Ku{o0:Obj}(ok:CompOk X scope M)(hc:X.calm=true)(I:Inv X pins σ H2 s2)(hf:∀b∈fp,FpOk X pins H2 b/\b<s2.heap.objs.size){C:Addr}(O:C=s2.heap.objs.size+1){h4:Heap}
  (hh:h4=pushCells ((s2.heap.push o0).push { cls:=.type "dict",data:=.dict #[] }) scope.names) :
  Inv (wS X scope own M C s2 H2 fp) [] (replicate own.length none++σ) H2 { s2 with heap:=h4 }:=by
 have zC:(s2.heap.push o0).objs.size=C:=by rw[wc,O]
 have Y:((s2.heap.push o0).push { cls:=.type "dict",data:=.dict #[] }).objs.size=C+1:=by rw[wc,zC]
 have keep:∀b o,s2.heap.get? b=some o->h4.get? b=some o:=λb o e=>by
  rw[hh];exact pushCells_keeps _ _ _ _ (ze _ (ze _ e))
 have cellOld:∀x c,X.env.cells.lookup x=some c->c<s2.heap.objs.size:=λx c e=>by obtain⟨v,q⟩:=I.cell x c e;exact q.lt
 have J:∀x c,(kn X scope C).lookup x=some c->(h4.IsCell c none/\C+1<=c/\scope.names.lookup x=some .cell)\/X.env.cells.lookup x=some c:=λx c e=>by
  by_cases hx:scope.names.lookup x=some .cell
  ·have e' := e;unfold kn at e';rw[<- Y] at e'
   rcases za4 _ _ _ x c e' with ⟨a,b,d⟩ |q
   ·exact .inl ⟨by rw[hh];exact a,by rw[Y] at b;exact b,hx⟩
   ·exact .inr (vJ scope.names [] (ok.cells I) (λ_ _ z=>by simp at z) x c q)
  ·exact .inr (ok.cellsFrom_old I e hx)
 have af:∃m,h4.Ns C m:=by
  have q:((s2.heap.push o0).push { cls:=.type "dict",data:=.dict #[] }).Ns C (λ_=>none):=by
   have:=Heap.Ns.new (s2.heap.push o0) (.type "dict");rw[zC] at this;exact this
  exact⟨_,q.keeps λb o e=>by rw[hh];exact pushCells_keeps _ _ _ _ e⟩
 have ad:∀b∈fp,b ∉ frs X.stack:=λb hb hx=>by
  obtain⟨⟨_,f1,f2,_⟩,_⟩:=hf b hb
  rcases zk.mp (I.stkSub b hx) with e |e
  ·exact f1 e
  ·exact f2 e
 obtain⟨mC,ae⟩:=af
 refine⟨⟨I.ok.mod,ok.kind,I.ok.glob,I.ok.blt,?_,?_,?_,?_,I.ok.hd,I.ok.frames,.inl rfl,?_,I.bs,?_,?_,ad,I.stack,I.stkFree⟩,rfl,I.bare,Un.kept keep,⟨mC,ae,?_⟩,?_,I.hok.fresh (by show s2.heap.objs.size<=C;rw[O];exact xv _),?_,λp hp=>absurd (show p∈([]:QqL) from hp) (by simp),I.hok.kept keep,?_⟩
 ·show s2.heap.objs.size<=C;rw[O];exact xv _
 ·intro x y c h1 h2;refine za2 scope.names (C+1) (qi X.env scope.names []) (λa b d p q=>?_) (λa d p=>?_) x y c h1 h2
  ·exact I.ok.inj a b d (vJ scope.names [] (ok.cells I) (λ_ _ z=>by simp at z) a d p) (vJ scope.names [] (ok.cells I) (λ_ _ z=>by simp at z) b d q)
  ·have := cellOld a d (vJ scope.names [] (ok.cells I) (λ_ _ z => by simp at z) a d p)
   rw[O];exact xX (xX this)
 ·intro x hx
  have go:∀k,(k=NameKind.cell\/k=NameKind.free)->(compEnvC scope (kn X scope C) C X.env).kindOf x=some k->∃c,(kn X scope C).lookup x=some c:=λk hk e=>by
   rcases ok.kindIn e with e |⟨_,e⟩
   ·rcases hk with rfl | rfl
    ·exact za3 _ _ _ (PySem.mem_of_lookup e)
    ·exact qX _ _ _ (kH (y:=(x,.free)) rfl _ _ (PySem.mem_of_lookup e))
   ·exact qX _ _ _ (kH (y:=(x,.free)) rfl _ _ (PySem.mem_of_lookup e))
  rcases hx with e |e
  ·exact go _ (.inl rfl) e
  ·exact go _ (.inr rfl) e
 ·intro x c hx h
  have hx':scope.names.lookup x=some .cell:=by simpa [wS] using hx
  have:=zG9 (x:=x) scope.names (C+1) (qi X.env scope.names []) (C+1) (zn _) (.inl (PySem.mem_of_lookup hx')) c h;show s2.heap.objs.size<=c
  exact zD (by rw[O];exact zD (xv _) (xv _)) this
 ·intro b hb;obtain⟨⟨_,_,_,_,f4,_⟩,f6⟩:=hf b hb;refine⟨?_,λx c h=>?_⟩
  ·show b≠C;rw[O];exact zx (xX f6)
  ·rcases J x c h with ⟨_, q, _⟩ | q
   ·rw[O] at q;exact xS (zT f6 (zD (zD (xv _) (xv _)) q))
   ·exact f4 x c q
 ·exact zD I.ok.bsz I.sz
 ·intro b o e hb;obtain⟨⟨_,_,_,f3,_⟩,_⟩:=hf b hb
  rcases f3 with z |z
  ·exact I.ok.noex b o e z
  ·exact absurd (zT (zo (I.ok.bs b o e).1) z) (xj _)
 ·intro i x v h1 h2 h3;have h2':(replicate own.length (none:Option V)++σ)[i]?=some (some v):=h2
  have hi:own.length<=i:=by
   apply ym;intro aa
   rw[xB (by simpa using aa),xl] at h2'
   rw[if_pos aa] at h2';cases h2'
  rw[xk (by simpa using hi),xN] at h2'
  have h1':(own++M)[i]?=some x:=h1;rw[xk hi] at h1';obtain⟨n1,n2⟩:=ok.shadow x (zQ h1')
  have W:scope.names.lookup x=some .free/\((compEnvC scope (kn X scope C) C X.env).kindOf x=some .cell\/(compEnvC scope (kn X scope C) C X.env).kindOf x=some .free):=by
   rcases h3 with e |e |e
   ·rcases ok.kindIn (x := x) (C := C) e with q | ⟨q, _⟩
    ·exact absurd q n1
    ·cases q
   ·rcases ok.kindIn (x := x) (C := C) e with q | ⟨_, q⟩
    ·exact absurd q n2
    ·exact⟨q,.inl e⟩
   ·rcases ok.kindIn (x := x) (C := C) e with q | ⟨q, _⟩
    ·exact⟨q,.inr e⟩
    ·cases q
  obtain⟨L,hk⟩:=W;obtain⟨m,hn,hl⟩:=I.loc;have ac:=ok.frees (x,.free) (PySem.mem_of_lookup L) rfl;have h1':=ok.same _ _ h1' L;obtain⟨u,ru,lk⟩:=hl (i-own.length) x v h1' h2' (ac.elim (λz=>.inr (.inl z)) λz=>.inr (.inr z));refine⟨u,ru,.inr ⟨hk,?_⟩⟩
  rcases lk with ⟨k,_⟩ |⟨_,c,ec,ic⟩
  ·rcases ac with z |z<;>(rw[k] at z;cases z)
  ·obtain ⟨c', e'⟩ : ∃ c', (kn X scope C).lookup x = some c' := qX _ _ _ (kH (y := (x, .free)) rfl _ _ (PySem.mem_of_lookup L));refine⟨c',e',?_⟩
   have:=ok.cellsFrom_old I e' (by rw[L];simp)
   have e2:some c=some c':=ec.symm.trans this;cases e2;exact ic.keeps keep
 ·intro x c h
  rcases J x c h with ⟨q,_⟩ |q
  ·exact⟨_,q⟩
  ·obtain⟨v,z⟩:=I.cell x c q;exact⟨v,z.keeps keep⟩
 ·intro x c h
  rcases J x c h with ⟨q,q2,_⟩ |q
  ·exact I.hok.fresh (by rw[O] at q2;exact zD (zD (xv _) (xv _)) q2)
  ·exact I.freeC x c q
 ·show(List.replicate own.length (none:Option V)++σ).length=(own++M).length;rw[zy,zy,xN,I.len,ok.mlen]
end
section
variable {X:Cx}{scope:Scope}{own M:List Str}{pins:QqL}{σ:St}{H2:Hp}{s2:Shared}{tg iter kx vx:Expr}{ifs:List Expr}{pos:Pos}{g:TG}{tt:TT}{tk tv:TE}
def zf5(ok:CompOk X scope M)(hc:X.calm=true)(hg:∀C s2 H2 O,PG (wS X scope own M C s2 H2 O) tg g)(ht:∀C s2 H2 O,PTs (wS X scope own M C s2 H2 O) ifs tt)(aL:∀C s2 H2 O,PE (wS X scope own M C s2 H2 O) kx tk)(he:∀C s2 H2 O,PE (wS X scope own M C s2 H2 O) vx tv)
  (I2:Inv X pins σ H2 s2) {it:Addr}{O:List Addr}{tn:Nat->Heap->Prop}{J:It} (T:Turn X.prog X.w X.K tg J O it tn) (au:tn 0 s2.heap) (f2:∀b∈O,FpOk X pins H2 b)
  {W:Nat->Nat->List (Key × V)->Hp->Prop} (w0:∃m,W 0 m [] H2) {Qf:V->Hp->Prop}
  (turn : ∀ i m L H, W i m L H -> (J.stop i H /\ L.length <= sizeLine /\ ∀ D, H D = none -> Qf (.ref D) (upd H D (.dK L))) \/
   (J.go i H /\ L.length < sizeLine /\ ∀ x H', J.yld i H x H' -> g x (List.replicate own.length none ++ σ) H' λσ2 H2 => σ2.drop own.length = σ /\ tt σ2 H2 λc H3 =>
    if c=true then tk σ2 H3 λy H4=>tv σ2 H4 λv H5=>∃k m',y=kV k/\m'<m/\W (i+1) m' (zc6 L k v) H5 else ∃m',m'<m/\W (i+1) m' L H3))
  {RR:Value->Addr->Result->Shared->Prop}{E:QqV}
  (fin:∀D C H' s' m,Inv X pins σ H' s'->Qf (.ref D) H'->s'.heap.Ns C m->H' C=none->C≠X.env.locals->X.s₀.heap.objs.size<=C->(∀x c,X.env.cells.lookup x=some c->c≠C)->(∀p∈X.pn++pins,p.1≠C)->RR (.ref D) C (.ok .next) s') :
  wpAny (model X.prog X.w) X.A newDict (λL s3=>wpAny (model X.prog X.w) X.A (newFunctionEnv scope X.env.globals (qi X.env scope.names []) [] X.env.qual none .none (some X.env)) (λag s4=>
   codeAny (model X.prog X.w) X.A (.compStart (.DictComp kx vx [⟨tg,iter,ifs,0⟩] scope pos) 0 (.ref it) L { ag with scope:=relabel scope X.env }) (RR L ag.locals) s4) E s3) E s2:=by
 refine xz (Zu ?_);have zC:(s2.heap.push { cls:=.type "dict",dict:=none,data:=.dict #[] }).objs.size=s2.heap.objs.size+1:=wc ..;dsimp only;rw[zC];generalize hC:s2.heap.objs.size+1=C;generalize hh:pushCells ((s2.heap.push { cls:=.type "dict",dict:=none,data:=.dict #[] }).push { cls:=.type "dict",data:=.dict #[] }) scope.names=h4
 have aC:∀b∈O,FpOk X pins H2 b/\b<s2.heap.objs.size:=λb Y=>by
  obtain⟨o,e,_⟩:=T.obj 0 _ au b Y;exact⟨f2 b Y,zo e⟩
 have I4:Inv (wS X scope own M C s2 H2 O) [] (replicate own.length none++σ) H2 { s2 with heap:=h4 }:=Ku (o0:={ cls:=.type "dict",dict:=none,data:=.dict #[] }) ok hc I2 aC hC.symm hh.symm;generalize hX:wS X scope own M C s2 H2 O=X' at I4
 have aj:∀b o,s2.heap.get? b=some o->h4.get? b=some o:=λb o e=>by
  rw[<- hh];exact pushCells_keeps _ _ _ _ (ze _ (ze _ e))
 have aA:h4.get? s2.heap.objs.size=some { cls:=.type "dict",dict:=none,data:=.dict #[] }:=by
  rw[<- hh];exact pushCells_keeps _ _ _ _ (ze _ (zr _ rfl))
 have ax:(({ cls:=.type "dict",dict:=none,data:=.dict #[] }:Obj)).IsDictOf (wP X.prog X.w) []:=by
  obtain⟨_,_,vs,r,o,es,ep,e,q⟩:=Uq (P:=X.prog) (w:=X.w) (H:=H2) s2.heap I2.big;cases r
  rw[zr _ (by rfl)] at e
  cases e;exact⟨es,ep,q⟩
 have aD:(s2.heap.objs.size == sysModules)=false:=(Uq (P:=X.prog) (w:=X.w) (H:=H2) s2.heap I2.big).2.1;have aq:tn 0 h4:=T.keep _ _ _ au λb Y o e=>aj b o e
 have gg:PG X' tg g:=by rw[<- hX];exact hg C s2 H2 O
 have gt:PTs X' ifs tt:=by rw[<- hX];exact ht C s2 H2 O
 have gk:PE X' kx tk:=by rw[<- hX];exact aL C s2 H2 O
 have ge:PE X' vx tv:=by rw[<- hX];exact he C s2 H2 O
 have xP:X'.prog=X.prog:=by rw[<- hX];rfl
 have xw:X'.w=X.w:=by rw[<- hX];rfl
 have xK:X'.K=X.K:=by rw[<- hX];rfl
 have xA:X'.A=X.A:=by rw[<- hX];rfl
 have xc:X'.calm=true:=by rw[<- hX];exact hc
 have aa:X'.pn=[]:=by rw[<- hX];rfl
 have xs:X'.s₀=s2:=by rw[<- hX];rfl
 have xH:X'.H₀=H2:=by rw[<- hX];rfl
 have xL:X'.env.locals=C:=by rw[<- hX];rfl
 have aG:X'.fs=frs X.stack:=by rw[<- hX];rfl
 have ac:X'.ex=O:=by rw[<- hX];rfl
 have xe:X'.xe=λ_ _=>False:=by rw[<- hX];rfl
 have ao:({ newEnv scope C X.env.globals (cellsFrom (C+1) scope.names (qi X.env scope.names [])) X.env.qual none .none (some X.env) builtinsNs with scope:=relabel scope X.env }:Env)=X'.env:=by rw[<- hX];rfl
 have aE:s2.heap.objs.size<C:=by rw[<- hC];exact Nat.lt_succ_self _
 have al:∀{pl:QqL}{H:Hp},(∀b∈O,H b=none)->(∀p∈pl,p.1 ∉ O)->∀b∈O,FpOk X' pl H b:=λ{pl H} hn aJ b Y=>by
  refine⟨hn b Y,?_,?_,.inl (by rw[ac];exact Y),λx c e=>(I4.ok.exf b (by rw[ac];exact Y)).2 x c e,λp hp z=>?_⟩
  ·exact(I4.ok.exf b (by rw[ac];exact Y)).1
  ·exact I4.ok.exfs b (by rw[ac];exact Y)
  ·rw [aa, wf] at hp
   exact aJ p hp (by rw[z];exact Y)
 have aF:s2.heap.objs.size ∉ O:=λz=>xj _ (aC _ z).2;have DC:s2.heap.objs.size≠C:=zx aE
 have am:∀x c,X'.env.cells.lookup x=some c->c≠s2.heap.objs.size:=λx c e z=>by
  obtain⟨v,o,q,hd⟩:=I4.cell x c e;rw[z] at q;have q':h4.get? s2.heap.objs.size=some o:=q;rw[aA] at q';cases q';cases hd
 have aS:s2.heap.objs.size ∉ X'.fs:=λz=>by
  obtain⟨_,o,ho,_⟩:=I4.ok.funs.mem (by exact z)
  rw[xs] at ho;exact xj _ (zo ho)
 rw[ao]
 have af:∀s5:Shared,s5={ s2 with heap:=h4 }->codeAny (model X.prog X.w) X.A (.compLoop (.DictComp kx vx [⟨tg,iter,ifs,0⟩] scope pos) 0 (.ref it) (.ref s2.heap.objs.size) X'.env) (RR (.ref s2.heap.objs.size) C) s5:=by
  rintro s5 rfl;obtain⟨m0,w0⟩:=w0
  refine Vo (λn s'=>∃i L σ' H' ob vs,Inv X' [] σ' H' s'/\σ'.drop own.length=σ/\tn i s'.heap/\(∀b∈O,H' b=none)/\H' s2.heap.objs.size=none /\
   s'.heap.get? s2.heap.objs.size=some ob/\ob.IsDictOf (wP X.prog X.w) vs/\KV L vs/\W i n L H') ?_ m0
   ⟨0,[],_,H2,_,[],I4,by simp,aq,λb Y=>(f2 b Y).1,I2.hok.fresh (zn _),aA,ax,.nil,w0⟩
  rintro n s3 ⟨i,L,σ3,H3,ob,vs,I3,hσ,ar,aB,hD,aM,ad,rv,w3⟩
  have aH:∀v,ob.data≠.cell v:=λv z=>by
   obtain⟨es,ep,_,e,_⟩:=ad;rw[e] at z;cases z
  have av:∀{H:Hp}{s:Shared}{σ:St},Inv X' [] σ H s->H s2.heap.objs.size=none->s.heap.get? s2.heap.objs.size=some ob ->
    Inv X' [(s2.heap.objs.size,ob)] σ H s:=λ{H s σ} I hn ho=>I.pins_of λp hp=>by
   have e:p=(s2.heap.objs.size,ob):=by simpa using hp
   subst e
   exact⟨ho,hn,by rw[xL];exact DC,aS,aH⟩
  have ai:∀p∈[((s2.heap.objs.size,ob):Addr × Obj)],p.1 ∉ O:=λp hp=>by
   have e:p=(s2.heap.objs.size,ob):=by simpa using hp
   subst e;exact aF
  have I3':=av I3 hD aM
  rcases turn i n L H3 w3 with ⟨stop,hsz,q⟩ |⟨go,hsz,step⟩
  ·have := T.done X' xP xw xK xc i _ s3 σ3 H3 (λ_ _ => False) I3' (al aB ai) ar stop;rw[xA] at this;refine thn this λr s4 ⟨hr,I5⟩=>?_;subst hr
   have az:=(I5.pin (s2.heap.objs.size,ob) (by rw[aa];simp)).1
   have un:Un (frs X.stack) O H2 H3 s2.heap s4.heap:=by
    have:=I5.base;rw[aG,ac,xH,xs] at this;exact this
   have os:s4.os=s2.os:=by rw[I5.os,xs]
   have hok:HOk X.prog X.w H3 s4.heap:=by have:=I5.hok;rw[xP,xw] at this;exact this
   have IX:Inv X pins σ H3 s4:=I2.call' os un hok I5.bare λb Y=>by
    obtain⟨_,f1,_,f3,f4,f5⟩:=f2 b Y;exact⟨f3,f1,f4,f5⟩
   have aw:∀{b:Addr},s2.heap.objs.size<=b->(X.s₀.heap.objs.size<=b/\b≠X.env.locals/\(∀x c,X.env.cells.lookup x=some c->c≠b)/\∀p∈X.pn++pins,p.1≠b):=λ{b} Y=>by
    obtain⟨_,f1,_,f3,f4,f5⟩:=I2.fpOk (H':=λ_=>none) Y rfl;exact⟨zD I2.sz Y,f1,f4,f5⟩
   obtain⟨d1,d2,d3,d4⟩:=aw (zn s2.heap.objs.size);obtain⟨c1,c2,c3,c4⟩:=aw (b:=C) (yI aE)
   have IY:Inv X pins σ (upd H3 s2.heap.objs.size (.dK L)) s4:=IX.track hD d1 d2 d3 d4 ⟨hsz,aD,vs,rv,(let ⟨es,ep,r⟩:=ad;⟨ob,es,ep,az,r⟩)⟩
   obtain⟨m,hm,_⟩:=I5.loc;rw[xL] at hm
   have aN:H3 C=none:=by have:=I5.free;rw[xL] at this;exact this
   exact fin _ C _ s4 m IY (q _ hD) hm (by rw[xZ (Ne.symm DC)];exact aN) c2 c1 c3 c4
  ·have := T.item X' xP xw xK xc i _ s3 σ3 H3 (λ_ _ => False) I3' (al aB ai) ar go;rw[xA] at this;refine thn this λr s4 ⟨u,hr,h4⟩=>?_;subst hr;refine thn h4 λ_ s5 ⟨x,H5,I5,r5,y5,ah,aO⟩=>?_
   have aI:∀(j:Nat) v,(replicate own.length none++σ)[j]?=some (some v)->σ3[j]?=some (some v):=λj v e=>by
    by_cases ak:j<own.length
    ·rw [xB (by simpa using ak), xl, if_pos ak] at e
     cases e
    ·have aK := ym ak
     rw[xk (by simpa using aK),xN,<- hσ,yp] at e
     rw[show own.length+(j-own.length)=j by lia] at e
     exact e
   have ay:(replicate own.length none++σ).length=σ3.length:=by
    have e1:σ3.length=X'.N.length:=I5.len;have e2:=I4.len;exact e2.trans e1.symm
   have aP:Inv X' _ (replicate own.length none++σ) H5 s5:=I5.weak ay aI;have aQ:=aP.pinned (al aO ai) (T.obj _ _ ah);have a1:=gg _ s5 _ H5 x u _ aQ r5 (step x H5 y5);rw[xP,xw,xA,xe] at a1;refine thn a1 λ_ s6 ⟨σ6,H6,I6,d6,q6⟩=>?_;have a2:=gt _ s6 σ6 H6 _ I6 q6;rw[xP,xw,xA,xe] at a2;refine thn a2 λb s7 ⟨H7,I7,q7⟩=>?_
   have ae:∀{H:Hp}{s:Shared},Inv X' ([((s2.heap.objs.size,ob):Addr × Obj)]++XC O s5.heap) σ6 H s ->
     (tn (i+1) s.heap/\(∀b∈O,H b=none)/\H s2.heap.objs.size=none/\s.heap.get? s2.heap.objs.size=some ob/\Inv X' [] σ6 H s):=λ{H s} I=>by
    refine⟨T.keep _ _ _ ah λb Y o e=>(I.pin (b,o) (zp _ (zp _ (vZ Y e)))).1,λb Y=>?_,?_,?_,I.pins_of λp hp=>by simp at hp⟩
    ·obtain⟨o,e,d⟩:=T.obj _ _ ah b Y;exact(I.pin (b,o) (zp _ (zp _ (vZ Y e)))).2.1
    ·exact(I.pin (s2.heap.objs.size,ob) (by rw[aa];simp)).2.1
    ·exact(I.pin (s2.heap.objs.size,ob) (by rw[aa];simp)).1
   cases b with
   |false=>
    obtain⟨p1,p2,p3,p4,p5⟩:=ae I7;obtain⟨m',hm,w7⟩:=q7;exact⟨m',hm,i+1,L,σ6,H7,ob,vs,p5,d6,p1,p2,p3,p4,ad,rv,w7⟩
   |true=>
    rw[if_pos rfl] at q7 ⊢;have a3:=gk _ s7 σ6 H7 _ I7 q7;rw[xP,xw,xA,xe] at a3;refine thn a3 λy s8 ⟨v,H8,I8,r8,q8⟩=>?_;have a4:=ge _ s8 σ6 H8 _ I8 q8;rw[xP,xw,xA,xe] at a4;refine thn a4 λy2 s9 ⟨v2,H9,I9,r9,q9⟩=>?_;obtain⟨p1,p2,p3,p4,p5⟩:=ae I9;obtain⟨kk,m',ek,hm,w8⟩:=q9;subst ek;have hl:=rv.length
    refine wpAny_dictSet_pairs (hsz:=by lia) (zE6 r8) (let ⟨es,ep,r⟩:=ad;⟨ob,es,ep,p4,r⟩) λh' dd' hs=>?_
    obtain⟨ob',es',ep',ho',isD'⟩:=dd'
    have aR:Inv X' [] σ6 H9 { s9 with heap:=h',toks:=s9.toks+1 }:=p5.turned (t':=s9.toks+1) (λb o Y e=>hs.extBut b o Y e) p3 (by rw[xL];exact DC) (.inr (by rw[xs];exact zn _)) am (λp hp=>by rw[aa] at hp;simp at hp)
    exact⟨m',hm,i+1,zc6 L kk v2,σ6,H9,ob',_,aR,d6,T.keep _ _ _ p1 λb Y o e=>hs.extBut b o (λz=>aF (by rw[<- z];exact Y)) e,p2,p3,ho',⟨es',ep',isD'⟩,rv.put kk r9,w8⟩
 exact codeAny_compStart_dict (af _ rfl) (T.self _ 0 _ _ _ aq (af _ rfl))
def Vn(kx vx:Expr)(gens:List Comprehension)(scope:Scope)(pos:Pos)(env:Env):eval (.DictComp kx vx gens scope pos) env=comprehension (.DictComp kx vx gens scope pos) scope env (firstIterPos gens pos) newDict (firstAsync gens) (firstIter gens env):=by
 first |rfl |(unfold eval;rfl) |(rw[eval];rfl) |rw[eval]
def zI1(wi:TI)(own:Nat)(g:TG)(tt:TT)(tk tv:TE):TE:=λσ H Q=>wi σ H λJ H1=>∃W:Nat->Nat->List (Key × V)->Hp->Prop,(∃m,W 0 m [] H1)/\∀i m L H,W i m L H ->
 (J.stop i H/\L.length<=sizeLine/\∀D,H D=none->Q (.ref D) (upd H D (.dK L))) \/
 (J.go i H /\ L.length < sizeLine /\ ∀ x H', J.yld i H x H' -> g x (List.replicate own none ++ σ) H' λO H2 => O.drop own = σ /\ tt O H2 λc Y =>
  if c=true then tk O Y λy H4=>tv O H4 λv H5=>∃k m',y=kV k/\m'<m/\W (i+1) m' (zc6 L k v) H5 else ∃m',m'<m/\W (i+1) m' L Y)
def zB7{wi:TI}(ok:CompOk X scope M)(hc:X.calm=true)(hi:PI X tg iter wi)(hg:∀C s2 H2 L,PG (wS X scope own M C s2 H2 L) tg g)(ht:∀C s2 H2 L,PTs (wS X scope own M C s2 H2 L) ifs tt)
  (Y:∀C s2 H2 L,PE (wS X scope own M C s2 H2 L) kx tk) (he:∀C s2 H2 L,PE (wS X scope own M C s2 H2 L) vx tv) (hs:∀x,foldedSetIterable iter X.env x=pure x:=by intro _;rfl) :
  PE X (.DictComp kx vx [⟨tg,iter,ifs,0⟩] scope pos) (zI1 wi own.length g tt tk tv):=by
 intro pins s σ H Q I h;rw[Vn]
 refine yF (use:=none) rfl hs (Xm (ok.cells I)) ok.kind (λx hx hl=>by rw[ok.uniq x hx,hl]) ?_
 refine thn (hi pins s σ H _ I h) λv s1 h1=>thn h1 λac s2 h2=>?_;obtain⟨it,L,tn,J,H2,e,I2,T,O,f2,W,w0,turn⟩:=h2;subst e;refine zf5 (Qf:=Q) ok hc hg ht Y he I2 T O f2 w0 turn λD C H' s' m IY q hm aa c2 c1 c3 c4=>⟨m,hm,λh' hs'=>?_⟩;exact⟨.ref D,H',IY.turned (t':=s'.toks) (λb o hb e=>hs'.extBut b o hb e) aa c2 (.inr c1) c3 c4,rfl,q⟩
end
inductive D where
 |non |bl (b:Bool) |int (i:Int) |str (x:Str) |ty (n:String) |tup (ds:List D) |lst (ds:List D)
 /-- a list that is known and stays -/
 |fz (ds:List D)
 /-- the list that the drawing keeps -/
 |st
 /-- a list of the frame's own (in a slot alone) -/
 |own (ds:List D)
 /-- a dict of the frame's own (in a slot alone), its keys pairs of numbers -/
 |owT (ks:List (Int × Int)) (ds:List D)
 /-- a pair of numbers, a tuple that is tracked -/
 |prT (k:QqP)
 /-- a dict, whatever it holds -/
 |dic
 /-- a dict, known, that stays -/
 |dct (ks:List Key) (ds:List D)
 /-- a dict, known, that stays, its keys tuples of numbers -/
 |dcL (ks:QqI) (ds:List D)
def YY(ks:List Key)(xs:List V):List (Key × V):=List.zipWith (λk x=>(k,x)) ks xs
abbrev zV1:Hp:=λ_=>none
def SqZ(K:W.Frag)(Z:QqA)(H:Hp)(b:Bool)(a:Addr)(xs:List V):Prop:=
 match b with
 |true=>¬ Z a/\H a=some (.lst xs)
 |false=>(¬ Z a/\Rd H a (.tup xs))\/SqT K zV1 a xs
def zV0(k:List Int):Int:=reduceHash (Builtin.Tuple.tupleHashOf (k.map hashInt))
def xt1:List (List Int)->List Addr->List Value->List DictEntry
 |k::ks,b::bs,u::us=>⟨zV0 k,.ref b,u⟩::xt1 ks bs us
 |_,_,_=>[]
def Ur(a:Addr)(ks:QqI)(bs:List Addr)(xs:List V):Heap->Prop:=λh=>
 ∃o es ep us,h.get? a=some o/\o.ExactDict/\o.data=.dict es ep/\Vals xs us/\es.toList=xt1 ks bs us
def KeysAt(K:W.Frag)(Z:QqA)(H:Hp):List (List Int)->List Addr->Prop
 |[],bs=>bs=[]
 |k::ks,bs=>∃b r,bs=b::r/\SqZ K Z H false b (k.map V.int)/\KeysAt K Z H ks r
def SqF(K:W.Frag)(Z:QqA)(H:Hp)(a:Addr)(xs:List V):Prop:=(¬ Z a/\∃o,H a=some (.frz o (.lst xs)))\/SqL K zV1 a xs
mutual
def Rep(K:W.Frag)(G:QqE)(Z:QqA)(H:Hp):D->V->Prop
 |.non,v=>v=.non
 |.bl b,v=>v=.bl b
 |.int i,v=>v=.int i
 |.str x,v=>v=.str x
 |.ty n,v=>v=.ty n
 |.tup ds,v=>∃a xs,v=.ref a/\SqZ K Z H false a xs/\Reps K G Z H ds xs
 |.lst ds,v=>∃a xs,v=.ref a/\SqZ K Z H true a xs/\Reps K G Z H ds xs
 |.fz ds,v=>∃a xs,v=.ref a/\SqF K Z H a xs/\Reps K G Z H ds xs
 |.st,v=>∃a,G=some a/\v=.ref a
 |.own _,_=>False
 |.owT _ _,_=>False
 |.prT k,v=>∃b,v=.ref b/\¬ Z b/\H b=some (.tup [.int k.1,.int k.2])
 |.dic,v=>∃a J,v=.ref a/\¬ Z a/\H a=some (.dK J)
 |.dct ks ds,v=>∃a xs,v=.ref a/\(¬ Z a/\H a=some (.dK (YY ks xs)))/\Reps K G Z H ds xs
 |.dcL ks ds,v=>∃a bs xs,v=.ref a/\(¬ Z a/\H a=some (.ext (Ur a ks bs xs)))/\KeysAt K Z H ks bs/\Reps K G Z H ds xs
def Reps(K:W.Frag)(G:QqE)(Z:QqA)(H:Hp):List D->List V->Prop
 |[],vs=>vs=[]
 |d::ds,vs=>∃v r,vs=v::r/\Rep K G Z H d v/\Reps K G Z H ds r
end
section
variable {K:W.Frag}{G:QqE}{Z Z':QqA}{H H':Hp}
def SqT.anyH{a:Addr}{xs:List V}(h:SqT K zV1 a xs):SqT K H a xs:=by
 rcases h with (h |⟨o,h⟩) |h
 ·cases h
 ·cases h
 ·exact .inr h
def SqZ.sq{b:Bool}{a:Addr}{xs:List V}(h:SqZ K Z H b a xs):SqB K b H a xs:=by
 cases b with
 |true=>exact SqL.of h.2
 |false=>
  rcases h with ⟨_,h⟩ |h
  ·exact .inl h
  ·exact SqT.anyH h
def SqZ.mono{b:Bool}{a:Addr}{xs:List V}(h:SqZ K Z H b a xs)(hz:∀a,H a≠none->Z' a->Z a)(J:∀a o,¬ Z a->H a=some o->H' a=some o):SqZ K Z' H' b a xs:=by
 cases b with
 |true=>exact⟨λz=>h.1 (hz a (by rw[h.2];simp) z),J a _ h.1 h.2⟩
 | false =>
  rcases h with ⟨n,h⟩ |h
  ·refine .inl ⟨λz => n (hz a ?_ z), ?_⟩
   ·rcases h with h |⟨o,h⟩<;>(rw[h];simp)
   ·rcases h with h | ⟨o, h⟩
    ·exact .inl (J a _ n h)
    ·exact .inr ⟨o,J a _ n h⟩
  ·exact .inr h
theorem KeysAt.mono(hz:∀a,H a≠none->Z' a->Z a)(J:∀a o,¬ Z a->H a=some o->H' a=some o):∀{ks:QqI}{bs:List Addr},KeysAt K Z H ks bs->KeysAt K Z' H' ks bs
 |[],_,h=>h
 |_::_,_,h=>by
  obtain⟨b,r,e,q,t⟩:=h;exact⟨b,r,e,q.mono hz J,KeysAt.mono hz J t⟩
mutual
theorem Rep.mono(hz:∀a,H a≠none->Z' a->Z a)(J:∀a o,¬ Z a->H a=some o->H' a=some o):∀(d:D) (v:V),Rep K G Z H d v->Rep K G Z' H' d v
 |.non,v,h=>by unfold Rep at h ⊢;exact h
 |.bl b,v,h=>by unfold Rep at h ⊢;exact h
 |.int b,v,h=>by unfold Rep at h ⊢;exact h
 |.str b,v,h=>by unfold Rep at h ⊢;exact h
 |.ty b,v,h=>by unfold Rep at h ⊢;exact h
 |.st,v,h=>by unfold Rep at h ⊢;exact h
 |.own _,v,h=>by unfold Rep at h;exact h.elim
 |.owT _ _,v,h=>by unfold Rep at h;exact h.elim
 |.prT k,v,h=>by
  unfold Rep at h ⊢;obtain⟨b,e,n,q⟩:=h
  exact⟨b,e,λz=>n (hz b (by rw[q];simp) z),J b _ n q⟩
 |.dic,v,h=>by
  unfold Rep at h ⊢;obtain⟨a,L,e,n,q⟩:=h
  exact⟨a,L,e,λz=>n (hz a (by rw[q];simp) z),J a _ n q⟩
 |.dct ks ds,v,h=>by
  unfold Rep at h ⊢;obtain⟨a,xs,e,⟨n,q⟩,r⟩:=h
  exact⟨a,xs,e,⟨λz=>n (hz a (by rw[q];simp) z),J a _ n q⟩,Reps.mono hz J ds xs r⟩
 |.dcL ks ds,v,h=>by
  unfold Rep at h ⊢;obtain⟨a,bs,xs,e,⟨n,q⟩,O,r⟩:=h
  exact⟨a,bs,xs,e,⟨λz=>n (hz a (by rw[q];simp) z),J a _ n q⟩,O.mono hz J,Reps.mono hz J ds xs r⟩
 |.tup ds,v,h=>by
  unfold Rep at h ⊢;obtain⟨a,xs,e,q,r⟩:=h;exact⟨a,xs,e,q.mono hz J,Reps.mono hz J ds xs r⟩
 |.lst ds,v,h=>by
  unfold Rep at h ⊢;obtain⟨a,xs,e,q,r⟩:=h;exact⟨a,xs,e,q.mono hz J,Reps.mono hz J ds xs r⟩
 |.fz ds,v,h=>by
  unfold Rep at h ⊢;obtain⟨a,xs,e,q,r⟩:=h;refine⟨a,xs,e,?_,Reps.mono hz J ds xs r⟩
  rcases q with ⟨n,o,q⟩ |q
  ·exact .inl ⟨λz=>n (hz a (by rw[q];simp) z),o,J a _ n q⟩
  ·exact .inr q
theorem Reps.mono(hz:∀a,H a≠none->Z' a->Z a)(J:∀a o,¬ Z a->H a=some o->H' a=some o):∀(ds:List D) (vs:List V),Reps K G Z H ds vs->Reps K G Z' H' ds vs
 |[],vs,h=>by unfold Reps at h ⊢;exact h
 |d::ds,vs,h=>by
  unfold Reps at h ⊢;obtain⟨v,r,e,q,t⟩:=h;exact⟨v,r,e,Rep.mono hz J d v q,Reps.mono hz J ds r t⟩
end
def Reps.nil:Reps K G Z H [] []:=by unfold Reps;rfl
def Reps.cons{d:D}{ds:List D}{v:V}{vs:List V}(h:Rep K G Z H d v)(t:Reps K G Z H ds vs):Reps K G Z H (d::ds) (v::vs):=by unfold Reps;exact⟨v,vs,rfl,h,t⟩
def Reps.inv{d:D}{ds:List D}{v:V}{vs:List V}(h:Reps K G Z H (d::ds) (v::vs)):Rep K G Z H d v/\Reps K G Z H ds vs:=by
 unfold Reps at h;obtain⟨v',r,e,q,t⟩:=h;cases e;exact⟨q,t⟩
def Reps.split{d:D}{ds:List D}{vs:List V}(h:Reps K G Z H (d::ds) vs):∃v r,vs=v::r/\Rep K G Z H d v/\Reps K G Z H ds r:=by unfold Reps at h;exact h
def Reps.nil_inv{vs:List V}(h:Reps K G Z H [] vs):vs=[]:=by unfold Reps at h;exact h
theorem Reps.length:∀{ds:List D}{vs:List V},Reps K G Z H ds vs->vs.length=ds.length
 |[],vs,h=>by rw[h.nil_inv];rfl
 |d::ds,vs,h=>by
  obtain⟨v,r,rfl,_,t⟩:=h.split;rw[zI,zI,Reps.length t]
theorem Reps.get:∀{ds:List D}{vs:List V}{i:Nat}{d:D},Reps K G Z H ds vs->ds[i]?=some d->∃v,vs[i]?=some v/\Rep K G Z H d v
 |[],vs,i,d,_,e=>by simp at e
 |c::ds,vs,0,d,h,e=>by
  obtain⟨v,r,rfl,q,t⟩:=h.split;simp at e;subst e;exact⟨v,rfl,q⟩
 |c::ds,vs,i+1,d,h,e=>by
  obtain⟨v,r,rfl,q,t⟩:=h.split
  obtain⟨u,L,J⟩:=Reps.get (i:=i) t (by simpa using e)
  exact⟨u,by simpa using L,J⟩
theorem Reps.append:∀{ds es:List D}{vs ws:List V},Reps K G Z H ds vs->Reps K G Z H es ws->Reps K G Z H (ds++es) (vs++ws)
 |[],es,vs,ws,h,h'=>by rw[h.nil_inv];exact h'
 |d::ds,es,vs,ws,h,h'=>by
  obtain⟨v,r,rfl,q,t⟩:=h.split;exact .cons q (Reps.append t h')
theorem Reps.drop:∀{ds:List D}{vs:List V} (n:Nat),Reps K G Z H ds vs->Reps K G Z H (ds.drop n) (vs.drop n)
 |ds,vs,0,h=>h
 |[],vs,n+1,h=>by rw[h.nil_inv];exact .nil
 |d::ds,vs,n+1,h=>by
  obtain⟨v,r,rfl,q,t⟩:=h.split;exact Reps.drop n t
theorem Reps.take:∀{ds:List D}{vs:List V} (n:Nat),Reps K G Z H ds vs->Reps K G Z H (ds.take n) (vs.take n)
 |ds,vs,0,h=>.nil
 |[],vs,n+1,h=>by rw[h.nil_inv];exact .nil
 |d::ds,vs,n+1,h=>by
  obtain⟨v,r,rfl,q,t⟩:=h.split;exact .cons q (Reps.take n t)
theorem Reps.flatRep{ds:List D}{vs:List V}(h:Reps K G Z H ds vs):∀k:Nat,Reps K G Z H (replicate k ds).flatten (replicate k vs).flatten
 |0=>.nil
 |k+1=>by
  rw[wR,wR,yh,yh];exact h.append (Reps.flatRep h k)
end
def kJ:D->Bool
 |.non=>true |.bl _=>true |.int _=>true |.str _=>true |.ty _=>true |_=>false
def ofS:D->V
 |.bl b=>.bl b |.int i=>.int i |.str x=>.str x |.ty n=>.ty n |_=>.non
theorem Rep.ofS{K:W.Frag}{G:QqE}{Z:QqA}{H:Hp}:∀{d:D},kJ d=true->Rep K G Z H d (ofS d)
 |.non,_=>by unfold Rep;rfl
 |.bl b,_=>by unfold Rep;rfl
 |.int b,_=>by unfold Rep;rfl
 |.str b,_=>by unfold Rep;rfl
 |.ty b,_=>by unfold Rep;rfl
 |.tup ds,h=>by simp[kJ] at h
 |.lst ds,h=>by simp[kJ] at h
 |.st,h=>by simp[kJ] at h
 |.fz ds,h=>by simp[kJ] at h
 |.own ds,h=>by simp[kJ] at h
 |.owT _ _,h=>by simp[kJ] at h
 |.prT _,h=>by simp[kJ] at h
theorem Rep.toS{K:W.Frag}{G:QqE}{Z:QqA}{H:Hp}{v:V}:∀{d:D},kJ d=true->Rep K G Z H d v->v=L2.ofS d
 |.non,_,h=>by unfold Rep at h;exact h
 |.bl b,_,h=>by unfold Rep at h;exact h
 |.int b,_,h=>by unfold Rep at h;exact h
 |.str b,_,h=>by unfold Rep at h;exact h
 |.ty b,_,h=>by unfold Rep at h;exact h
 |.tup ds,h,_=>by simp[kJ] at h
 |.lst ds,h,_=>by simp[kJ] at h
 |.st,h,_=>by simp[kJ] at h
 |.fz ds,h,_=>by simp[kJ] at h
 |.own ds,h,_=>by simp[kJ] at h
 |.owT _ _,h,_=>by simp[kJ] at h
 |.prT _,h,_=>by simp[kJ] at h
def Rep.int_inv{K:W.Frag}{G:QqE}{Z:QqA}{H:Hp}{v:V}{i:Int}(h:Rep K G Z H (.int i) v):v=.int i:=by unfold Rep at h;exact h
def Rep.bl_inv{K:W.Frag}{G:QqE}{Z:QqA}{H:Hp}{v:V}{i:Bool}(h:Rep K G Z H (.bl i) v):v=.bl i:=by unfold Rep at h;exact h
def Rep.tup_inv{K:W.Frag}{G:QqE}{Z:QqA}{H:Hp}{v:V}{ds:List D}(h:Rep K G Z H (.tup ds) v):∃a xs,v=.ref a/\SqZ K Z H false a xs/\Reps K G Z H ds xs:=by unfold Rep at h;exact h
def Rep.lst_inv{K:W.Frag}{G:QqE}{Z:QqA}{H:Hp}{v:V}{ds:List D}(h:Rep K G Z H (.lst ds) v):∃a xs,v=.ref a/\SqZ K Z H true a xs/\Reps K G Z H ds xs:=by unfold Rep at h;exact h
def Rep.fz_inv{K:W.Frag}{G:QqE}{Z:QqA}{H:Hp}{v:V}{ds:List D}(h:Rep K G Z H (.fz ds) v):∃a xs,v=.ref a/\SqL K H a xs/\Reps K G Z H ds xs:=by
 unfold Rep at h;obtain⟨a,xs,e,q,r⟩:=h;refine⟨a,xs,e,?_,r⟩
 rcases q with ⟨_,o,q⟩ |q
 ·exact .inl (.inr ⟨o,q⟩)
 ·rcases q with (q | ⟨o, q⟩) | q
  ·cases q
  ·cases q
  ·exact .inr q
def Rep.tup_mk{K:W.Frag}{G:QqE}{Z:QqA}{H:Hp}{a:Addr}{xs:List V}{ds:List D}(q:SqZ K Z H false a xs)(r:Reps K G Z H ds xs):Rep K G Z H (.tup ds) (.ref a):=by unfold Rep;exact⟨a,xs,rfl,q,r⟩
def Rep.lst_mk{K:W.Frag}{G:QqE}{Z:QqA}{H:Hp}{a:Addr}{xs:List V}{ds:List D}(q:SqZ K Z H true a xs)(r:Reps K G Z H ds xs):Rep K G Z H (.lst ds) (.ref a):=by unfold Rep;exact⟨a,xs,rfl,q,r⟩
def zx1(G:QqE)(n:Nat)(H:Hp):Prop:=∀a,G=some a->∃(J:List Int) (_ _:Nat),H a=some (.lst (J.map V.int))/\J.length=n/\(∀x∈J,0<=x)/\∀x,J[1]?=some x->x<2147483647
structure AC where
 K:W.Frag
 G:Option Addr
 Z0:Addr->Prop
 H0:Hp
abbrev Rho:=List (Option D)
def Zof(A:AC)(os:List (Nat × Addr)):Addr->Prop:=λa=>A.Z0 a\/∃p∈os,p.2=a
def kP(k:QqP):List Key:=[.inl k.1,.inl k.2]
def qx(ks:List (Int × Int))(xs:List V):List (List Key × V):=List.zipWith (λk x=>(kP k,x)) ks xs
def SlotR(A:AC)(os:List (Nat × Addr))(H:Hp)(i:Nat):D->V->Prop
 |.own ds,v=>∃a xs,v=.ref a/\(i,a)∈os/\H a=some (.lst xs)/\Reps A.K A.G (Zof A os) H ds xs
 |.owT ks ds,v=>∃a xs,v=.ref a/\(i,a)∈os/\H a=some (.dT (qx ks xs))/\ks.length=xs.length/\Reps A.K A.G (Zof A os) H ds xs
 |d,v=>Rep A.K A.G (Zof A os) H d v
def qv:List Str:=["_law_grown"]
def qj(K:W.Frag)(P:Addr)(q:Str):Prop:=∃x∈qv,∃c,W.tabIn K x=some (c,P)/\q=(x ++ ".<locals>.") ++ "<lambda>"
def Hot(o:Option HO):Prop:=∃u,o=some u/\∀ys,u≠.tup ys
def Hot.ne{o:Option HO}(h:Hot o):o≠none:=by obtain⟨u,e,_⟩:=h;rw[e];simp
def Hot.lst{xs:List V}:Hot (some (.lst xs)):=⟨_,rfl,λ_ z=>by cases z⟩
def Hot.dT{xs:List (List Key × V)}:Hot (some (.dT xs)):=⟨_,rfl,λ_ z=>by cases z⟩
def Hot.of{o o':Option HO}(h:Hot o)(f:∀u,o=some u->o'=some u):Hot o':=let ⟨u,e,t⟩:=h;⟨u,f u e,t⟩
def ZOk(K:W.Frag)(G:QqE)(Z:QqA)(H:Hp):Prop:=(∀a,Z a->Hot (H a))/\∀P q,qj K P q->H P=some (.cot q)/\G≠some P
structure AmO(A:AC)(os:List (Nat × Addr))(n:Nat)(rho:Rho)(sg:St)(H:Hp)(ds:List D)(vs:List V):Prop where
 len:rho.length=sg.length
 slot:∀i d,rho[i]?=some (some d)->∃v,sg[i]?=some (some v)/\SlotR A os H i d v
 pend:Reps A.K A.G (Zof A os) H ds vs
 nd:os.Pairwise λp q=>p.1≠q.1/\p.2≠q.2
 fresh:∀p∈os,A.H0 p.2=none/\¬ A.Z0 p.2/\Hot (H p.2)
 st:zx1 A.G n H
 gz:∀a,A.G=some a->A.Z0 a
 fr:∀a o,A.G≠some a->A.H0 a=some o->H a=some o
 z0:ZOk A.K A.G A.Z0 A.H0
def Am(A:AC)(n:Nat)(rho:Rho)(sg:St)(H:Hp)(ds:List D)(vs:List V):Prop:=∃os,AmO A os n rho sg H ds vs
section
variable {A:AC}{os:List (Nat × Addr)}{n:Nat}{rho:Rho}{sg:St}{H:Hp}{ds:List D}{vs:List V}{d:D}{v:V}
def AmO.zHot(I:AmO A os n rho sg H ds vs):∀a,Zof A os a->Hot (H a):=λa h=>by
 rcases h with h |⟨p,J,rfl⟩
 ·by_cases e : A.G = some a
  ·obtain⟨x,y,z,q,_⟩:=I.st a e;rw[q];exact Hot.lst
  ·exact(I.z0.1 a h).of λo q=>I.fr a o e q
 ·exact(I.fresh p J).2.2
def AmO.zH(I:AmO A os n rho sg H ds vs):∀a,Zof A os a->H a≠none:=λa h=>(I.zHot a h).ne
def AmO.zO(I:AmO A os n rho sg H ds vs):ZOk A.K A.G (Zof A os) H:=⟨I.zHot,λP q t=>⟨I.fr P _ (I.z0.2 P q t).2 (I.z0.2 P q t).1,(I.z0.2 P q t).2⟩⟩
def SlotR.mono{os':List (Nat × Addr)}{H':Hp}{i:Nat}(hz:∀a,H a≠none->Zof A os' a->Zof A os a)(J:∀a o,¬ Zof A os a->H a=some o->H' a=some o)
  (L:∀a xs,(i,a)∈os->H a=some xs->(i,a)∈os'/\H' a=some xs):∀(d:D) (v:V),SlotR A os H i d v->SlotR A os' H' i d v
 |.own ds,v,h=>by
  obtain⟨a,xs,e,m,q,r⟩:=h;obtain⟨m',q'⟩:=L a _ m q;exact⟨a,xs,e,m',q',Reps.mono hz J ds xs r⟩
 |.owT ks ds,v,h=>by
  obtain⟨a,xs,e,m,q,l,r⟩:=h;obtain⟨m',q'⟩:=L a _ m q;exact⟨a,xs,e,m',q',l,Reps.mono hz J ds xs r⟩
 |.non,v,h=>Rep.mono hz J _ _ h
 |.bl _,v,h=>Rep.mono hz J _ _ h
 |.int _,v,h=>Rep.mono hz J _ _ h
 |.str _,v,h=>Rep.mono hz J _ _ h
 |.ty _,v,h=>Rep.mono hz J _ _ h
 |.tup _,v,h=>Rep.mono hz J _ _ h
 |.lst _,v,h=>Rep.mono hz J _ _ h
 |.st,v,h=>Rep.mono hz J _ _ h
 |.fz _,v,h=>Rep.mono hz J _ _ h
 |.dic,v,h=>Rep.mono hz J _ _ h
 |.prT _,v,h=>Rep.mono hz J _ _ h
 |.dct _ _,v,h=>Rep.mono hz J _ _ h
 |.dcL _ _,v,h=>Rep.mono hz J _ _ h
def we:D->Bool
 |.own _=>false
 |.owT _ _=>false
 |_=>true
theorem SlotR.rep{i:Nat}:∀{d:D}{v:V},we d=true->SlotR A os H i d v->Rep A.K A.G (Zof A os) H d v
 |.own _,_,h,_=>by simp[we] at h
 |.owT _ _,_,h,_=>by simp[we] at h
 |.non,_,_,h=>h
 |.bl _,_,_,h=>h
 |.int _,_,_,h=>h
 |.str _,_,_,h=>h
 |.ty _,_,_,h=>h
 |.tup _,_,_,h=>h
 |.lst _,_,_,h=>h
 |.st,_,_,h=>h
 |.fz _,_,_,h=>h
 |.dic,_,_,h=>h
 |.prT _,_,_,h=>h
 |.dct _ _,_,_,h=>h
 |.dcL _ _,_,_,h=>h
theorem SlotR.of{i:Nat}:∀{d:D}{v:V},Rep A.K A.G (Zof A os) H d v->SlotR A os H i d v
 |.own _,_,h=>by unfold Rep at h;exact h.elim
 |.owT _ _,_,h=>by unfold Rep at h;exact h.elim
 |.non,_,h=>h
 |.bl _,_,h=>h
 |.int _,_,h=>h
 |.str _,_,h=>h
 |.ty _,_,h=>h
 |.tup _,_,h=>h
 |.lst _,_,h=>h
 |.st,_,h=>h
 |.fz _,_,h=>h
 |.dic,_,h=>h
 |.prT _,_,h=>h
 |.dct _ _,_,h=>h
 |.dcL _ _,_,h=>h
def AmO.push(I:AmO A os n rho sg H ds vs)(h:Rep A.K A.G (Zof A os) H d v):AmO A os n rho sg H (d::ds) (v::vs):=
 ⟨I.len,I.slot,.cons h I.pend,I.nd,I.fresh,I.st,I.gz,I.fr,I.z0⟩
def AmO.pends{es:List D}{ws:List V}(I:AmO A os n rho sg H ds vs)(h:Reps A.K A.G (Zof A os) H es ws):AmO A os n rho sg H es ws:=
 ⟨I.len,I.slot,h,I.nd,I.fresh,I.st,I.gz,I.fr,I.z0⟩
def AmO.pop(I:AmO A os n rho sg H (d::ds) (v::vs)):AmO A os n rho sg H ds vs/\Rep A.K A.G (Zof A os) H d v:=⟨I.pends I.pend.inv.2,I.pend.inv.1⟩
def AmO.grow{p:Addr}{o:HO}(I:AmO A os n rho sg H ds vs)(O:H p=none):AmO A os n rho sg (upd H p o) ds vs:=by
 have J:∀a u,H a=some u->upd H p o a=some u:=λa u e=>by rw[xZ (yc e O)];exact e
 refine⟨I.len,λi d e=>?_,Reps.mono (λ_ _ z=>z) (λa u _ e=>J a u e) _ _ I.pend,I.nd,λq L=>?_,λa e=>?_,I.gz,λa u h e=>J a u (I.fr a u h e),I.z0⟩
 ·obtain⟨v,e1,e2⟩:=I.slot i d e;exact⟨v,e1,SlotR.mono (λ_ _ z=>z) (λa u _ e=>J a u e) (λa xs m q=>⟨m,J a _ q⟩) _ _ e2⟩
 ·obtain⟨f1,Y,W⟩:=I.fresh q L;exact⟨f1,Y,W.of λu e=>J _ _ e⟩
 ·obtain⟨x,y,z,q,r⟩:=I.st a e;exact⟨x,y,z,J _ _ q,r⟩
def AmO.newTup{p:Addr}{es:List D}{xs:List V}(I:AmO A os n rho sg H ds vs)(r:Reps A.K A.G (Zof A os) H es xs)(J:H p=none):AmO A os n rho sg (upd H p (.tup xs)) (.tup es::ds) (.ref p::vs):=by
 have g:=I.grow (o:=.tup xs) J;refine g.push (.tup_mk (.inl ⟨λz=>I.zH p z J,.inl wX⟩) ?_)
 exact Reps.mono (λ_ _ z=>z) (λa u _ e=>by rw[xZ (yc e J)];exact e) _ _ r
def AmO.newLst{p:Addr}{es:List D}{xs:List V}(I:AmO A os n rho sg H ds vs)(r:Reps A.K A.G (Zof A os) H es xs)(J:H p=none):AmO A os n rho sg (upd H p (.lst xs)) (.lst es::ds) (.ref p::vs):=by
 have g:=I.grow (o:=.lst xs) J;refine g.push (.lst_mk ⟨λz=>I.zH p z J,wX⟩ ?_)
 exact Reps.mono (λ_ _ z=>z) (λa u _ e=>by rw[xZ (yc e J)];exact e) _ _ r
def AmO.set{i:Nat}(I:AmO A os n rho sg H (d::ds) (v::vs))(hi:i<rho.length):AmO A (os.filter λp=>decide (p.1≠i)) n (rho.set i (some d)) (sg.set i (some v)) H ds vs:=by
 obtain⟨J,W⟩:=I.pop
 have sub:∀a,H a≠none->Zof A (os.filter λp=>decide (p.1≠i)) a->Zof A os a:=λa _ z=>by
  rcases z with z |⟨p,O,e⟩
  ·exact .inl z
  ·exact .inr ⟨p,(zt.mp O).1,e⟩
 refine⟨by simp[I.len],λj c e=>?_,Reps.mono sub (λ_ _ _ e=>e) _ _ J.pend,I.nd.filter _,λp O=>I.fresh p (zt.mp O).1,I.st,I.gz,I.fr,I.z0⟩
 by_cases L:j=i
 ·subst L;rw[zW hi] at e;cases e
  exact⟨v,zW (by rw[<- I.len];exact hi),SlotR.of (Rep.mono sub (λ_ _ _ e=>e) _ _ W)⟩
 ·rw [xb (Ne.symm L)] at e;obtain⟨u,e1,Y⟩:=I.slot j c e
  exact⟨u,by rw[xb (Ne.symm L)];exact e1,SlotR.mono sub (λ_ _ _ e=>e) (λa xs m q=>⟨zt.mpr ⟨m,by simpa using L⟩,q⟩) _ _ Y⟩
end
abbrev TD:=Rho->Nat->(D->Nat->Prop)->Prop
abbrev TBD:=Rho->Nat->(Bool->Nat->Prop)->Prop
abbrev TAD:=Rho->Nat->(List D->Nat->Prop)->Prop
def tOf(A:AC)(t:TD):TE:=λsg H Q=>∃rho n P ds vs,Am A n rho sg H ds vs/\t rho n P/\∀v H' n' d,Am A n' rho sg H' (d::ds) (v::vs)->P d n'->Q v H'
def zb8(A:AC)(t:TBD):TT:=λsg H Q=>∃rho n P ds vs,Am A n rho sg H ds vs/\t rho n P/\∀b H' n',Am A n' rho sg H' ds vs->P b n'->Q b H'
def xH5(A:AC)(t:TAD):TA:=λsg H Q=>∃rho n P ds vs,Am A n rho sg H ds vs/\t rho n P/\∀ws H' n' es,Am A n' rho sg H' (es++ds) (ws++vs)->ws.length=es.length->P es n'->Q ws H'
@[irreducible] def PD(A:AC)(X:Cx)(e:Expr)(t:TD):Prop:=PE X e (tOf A t)
@[irreducible] def PTD(A:AC)(X:Cx)(e:Expr)(t:TBD):Prop:=PT X e (zb8 A t)
@[irreducible] def PWD(A:AC)(X:Cx)(e:Expr)(t:TBD):Prop:=PW X e (zb8 A t)
@[irreducible] def PAD(A:AC)(X:Cx)(es:List Expr)(t:TAD):Prop:=PA X es (xH5 A t)
def PE.imp{X:Cx}{e:Expr}{t t':TE}(h:PE X e t)(hi:∀sg H Q,t' sg H Q->t sg H Q):PE X e t':=λJ s sg H Q I q=>h J s sg H Q I (hi _ _ _ q)
def PT.imp{X:Cx}{e:Expr}{t t':TT}(h:PT X e t)(hi:∀sg H Q,t' sg H Q->t sg H Q):PT X e t':=λJ s sg H Q I q=>h J s sg H Q I (hi _ _ _ q)
def PW.imp{X:Cx}{e:Expr}{t t':TT}(h:PW X e t)(hi:∀sg H Q,t' sg H Q->t sg H Q):PW X e t':=λL J s sg H Q I q=>h L J s sg H Q I (hi _ _ _ q)
def PA.imp{X:Cx}{e:List Expr}{t t':TA}(h:PA X e t)(hi:∀sg H Q,t' sg H Q->t sg H Q):PA X e t':=λps J s sg H Q I q=>h ps J s sg H Q I (hi _ _ _ q)
def PS.imp{X:Cx}{e:Stmt}{t t':TS}(h:PS X e t)(hi:∀E sg H,t' E sg H->t E sg H):PS X e t':=λJ s sg H Q I q=>h J s sg H Q I (hi _ _ _ q)
def PSs.imp{X:Cx}{e:List Stmt}{t t':TS}(h:PSs X e t)(hi:∀E sg H,t' E sg H->t E sg H):PSs X e t':=λJ s sg H Q I q=>h J s sg H Q I (hi _ _ _ q)
section
variable {A:AC}{X:Cx}{a b c e:Expr}{es:List Expr}{ta tb tc:TD}{pos:Pos}
def atD(d:D)(k:D->Prop):Prop:=match d with
 |.own _=>False
 |.owT _ _=>False
 |.non=>k .non
 |.bl b=>k (.bl b)
 |.int b=>k (.int b)
 |.str b=>k (.str b)
 |.ty b=>k (.ty b)
 |.tup b=>k (.tup b)
 |.lst b=>k (.lst b)
 |.fz b=>k (.fz b)
 |.st=>k .st
 |.dic=>k .dic
 |.prT b=>k (.prT b)
 |.dct a b=>k (.dct a b)
 |.dcL a b=>k (.dcL a b)
def zw2{d:D}{k:D->Prop}(h:atD d k):we d=true/\k d:=by
 cases d<;>first |exact⟨rfl,h⟩ |exact h.elim
def zb0{d:D}{k:D->Prop}(h:we d=true)(q:k d):atD d k:=by
 cases d<;>first |exact q |(simp[we] at h;done)
def atV(o:Option (Option D))(k:D->Prop):Prop:=match o with |some (some d)=>atD d k |_=>False
def zW7{o:Option (Option D)}{k:D->Prop}(h:atV o k):∃d,o=some (some d)/\we d=true/\k d:=by
 match o,h with
 |some (some d),h=>exact⟨d,rfl,zw2 h⟩
def xN7(i:Nat):TD:=λrho n P=>atV rho[i]? λd=>P d n
def dC(d:D):TD:=λ_ n P=>P d n
def zh(i:Nat){x:Str}(Y:X.N[i]?=some x:=by rfl)(L:Vis X.env.scope x:=by first |exact Or.inl rfl |exact Or.inr (Or.inl rfl) |exact Or.inr (Or.inr rfl))(hd:(x == ("__debug__" : Str))=false:=by decide)
  (J:(x == ("__classdict__" : Str))=false:=by decide):PD A X (.Name x pos) (xN7 i):=by
 exists (qC Y L hd J).imp λsg H Q h=>by
   obtain⟨rho,n,P,ds,vs,⟨os,I⟩,O,W⟩:=h;obtain⟨d,e,hd,q⟩:=zW7 O;obtain⟨v,e1,e2⟩:=I.slot i d e;exact⟨v,e1,W v H n d ⟨os,I.push (e2.rep hd)⟩ q⟩
def zG4{d:D}(hs:kJ d=true){t:TE}(ht:∀sg H Q,Q (ofS d) H->t sg H Q)(h:PE X e t):PD A X e (dC d):=by
 exists h.imp λsg H Q q=>by
   obtain⟨rho,n,P,ds,vs,⟨os,I⟩,q,J⟩:=q;exact ht _ _ _ (J _ H n d ⟨os,I.push (Rep.ofS hs)⟩ q)
def zA{i:Int}{j:Nat}:PD A X (.Constant (.int i) j pos) (dC (.int i)):=by exists zG4 rfl (λ_ _ _ q=>q) QF
def Zq{i:Bool}{j:Nat}:PD A X (.Constant (.bool i) j pos) (dC (.bl i)):=by exists zG4 rfl (λ_ _ _ q=>q) xE1
def vq{j:Nat}:PD A X (.Constant .none j pos) (dC .non):=by exists zG4 rfl (λ_ _ _ q=>q) xf4
def XE{x:Str}{j:Nat}:PD A X (.Constant (.str x) j pos) (dC (.str x)):=by exists zG4 rfl (λ_ _ _ q=>q) xf1
abbrev RD2:=D->D->(D->Prop)->Prop
def ky(A:AC)(r:R2)(L:RD2):Prop:=
 ∀os n rho sg H ds vs d1 d2 v1 J (k:D->Prop) (Q:VK),AmO A os n rho sg H (d2::d1::ds) (J::v1::vs)->L d1 d2 k->(∀v H' d,Am A n rho sg H' (d::ds) (v::vs)->k d->Q v H')->r v1 J H Q
def dOp(J:RD2)(ta tb:TD):TD:=λrho n P=>ta rho n λd1 O=>tb rho O λd2 L=>J d1 d2 λd=>P d L
def zt2(t:TD):TBD:=λrho n P=>t rho n λd n'=>∃b,d=.bl b/\P b n'
def WP{r:R2}{L:RD2}(hr:ky A r L){sg:St}{H:Hp}{Q:VK}(h:tOf A (dOp L ta tb) sg H Q):tOp r (tOf A ta) (tOf A tb) sg H Q:=by
 obtain⟨rho,n,P,ds,vs,I,ht,hQ⟩:=h;exact⟨rho,n,_,ds,vs,I,ht,λv1 H1 Y d1 I1 h1=>⟨rho,Y,_,d1::ds,v1::vs,I1,h1,λv2 H2 W d2 ⟨O,I2⟩ h2=>hr _ _ _ _ _ _ _ _ _ _ _ _ Q I2 h2 λv H' d J k=>hQ v H' W d J k⟩⟩
def VF{t:TE}{L:TD}(h:∀sg H Q,tOf A L sg H Q->t sg H Q){sg:St}{H:Hp}{Q:Bool->Hp->Prop}(q:zb8 A (zt2 L) sg H Q):zZ0 t sg H Q:=by
 obtain⟨rho,n,P,ds,vs,I,ht,O⟩:=q;refine h _ _ _ ⟨rho,n,_,ds,vs,I,ht,λv H' n' d ⟨os,J⟩ k=>?_⟩;obtain⟨b,rfl,k⟩:=k;obtain⟨W,r⟩:=J.pop;exact⟨b,r.bl_inv,O b H' n' ⟨os,W⟩ k⟩
def Yu{op:Operator}{r:R2}{J:RD2}(O:OpR X (binaryOp op) r)(L:ky A r J)(ha:PD A X a ta)(W:PD A X b tb):PD A X (.BinOp a op b pos) (dOp J ta tb):=by exists (xE0 O ha W).imp λ_ _ _=>WP L
def XF{op:CmpOp}{r:R2}{J:RD2}(O:OpR X (compareOp op) r)(L:ky A r J)(ha:PD A X a ta)(Y:PD A X b tb)(W:behindInMarks op b=false):PD A X (.Compare a [op] [b] pos) (dOp J ta tb):=by exists (zQ3 O ha Y W).imp λ_ _ _=>WP L
def wh{op:CmpOp}{r:R2}{J:RD2}(O:OpR X (compareOp op) r)(L:ky A r J)(ha:PD A X a ta)(Y:PD A X b tb)(W:behindInMarks op b=false):PTD A X (.Compare a [op] [b] pos) (zt2 (dOp J ta tb)):=by
 exists 
   (zk9 O ha Y W).imp λ_ _ _=>VF λ_ _ _=>WP L
def wO{r:R2}{J:RD2}(hi:IxR X r)(L:ky A r J)(ha:PD A X a ta)(O:PD A X b tb)(hs:Uv b):PD A X (.Subscript a b pos) (dOp J ta tb):=by exists (zP8 hi ha O hs).imp λ_ _ _=>WP L
def Zm(ha:PD A X a ta)(L:∀J,isTrue a X.env J=(do let v <- J;standAt a.pos;holding [v] (truthy v)):=by intro _;rfl):PTD A X a (zt2 ta):=by exists (xe3 ha L).imp λ_ _ _=>VF λ_ _ _ q=>q
def rdI(C:Int->Int->Prop)(g:Int->Int->D):RD2:=λd1 d2 k=>match d1,d2 with |.int i,.int j=>C i j/\k (g i j) |_,_=>False
def zO3{C:Int->Int->Prop}{g:Int->Int->D}{d1 d2:D}{k:D->Prop}(h:rdI C g d1 d2 k):∃i j,d1=.int i/\d2=.int j/\C i j/\k (g i j):=by
 unfold rdI at h
 split at h
 ·exact⟨_,_,rfl,rfl,h⟩
 ·exact h.elim
def zz5(g:Int->Int->D):RD2:=λd1 d2 k=>match d1,d2 with |.int i,.int j=>k (g i j) |_,_=>False
def zz4{g:Int->Int->D}{d1 d2:D}{k:D->Prop}(h:zz5 g d1 d2 k):∃i j,d1=.int i/\d2=.int j/\k (g i j):=by
 unfold zz5 at h
 split at h
 ·exact⟨_,_,rfl,rfl,h⟩
 ·exact h.elim
def zz2{C:Int->Int->Prop}{g:Int->Int->V}{gd:Int->Int->D}(hs:∀i j,kJ (gd i j)=true)(W:∀i j,ofS (gd i j)=g i j):ky A (rI C g) (rdI C gd):=by
 rintro os n rho sg H ds vs d1 d2 v1 v2 k Q I O hQ;obtain⟨i,j,rfl,rfl,Y,q⟩:=zO3 O;obtain⟨I1,J⟩:=I.pop;obtain⟨I2,L⟩:=I1.pop
 exact⟨i,j,L.int_inv,J.int_inv,Y,hQ _ H _ ⟨os,I2.push (by rw[<- W];exact Rep.ofS (hs i j))⟩ q⟩
def UO{g:Int->Int->V}{gd:Int->Int->D}(hs:∀i j,kJ (gd i j)=true)(W:∀i j,ofS (gd i j)=g i j):ky A (rI0 g) (zz5 gd):=by
 rintro os n rho sg H ds vs d1 d2 v1 v2 k Q I O Y;obtain⟨i,j,rfl,rfl,q⟩:=zz4 O;obtain⟨I1,J⟩:=I.pop;obtain⟨I2,L⟩:=I1.pop
 exact⟨i,j,L.int_inv,J.int_inv,Y _ H _ ⟨os,I2.push (by rw[<- W];exact Rep.ofS (hs i j))⟩ q⟩
abbrev xW5:TD->TD->TD:=dOp (zz5 λi j=>.int (i+j))
abbrev xV5:TD->TD->TD:=dOp (zz5 λi j=>.int (i-j))
abbrev xV9:TD->TD->TD:=dOp (rdI CMul λi j=>.int (i*j))
abbrev xW0:TD->TD->TD:=dOp (rdI (λ_ j=>0<j) λi j=>.int (i%j))
abbrev xW4:TD->TD->TD:=dOp (rdI xP0 λi j=>.int (i/j))
abbrev xV8:TD->TD->TD:=dOp (rdI xO9 λi j=>.int (i^j.toNat))
def kC(ha:PD A X a ta)(J:PD A X b tb):PD A X (.BinOp a .Add b pos) (xW5 ta tb):=by exists Yu xg9 (UO (λ_ _=>rfl) λ_ _=>rfl) ha J
def qD(ha:PD A X a ta)(J:PD A X b tb):PD A X (.BinOp a .Sub b pos) (xV5 ta tb):=by exists Yu xg2 (UO (λ_ _=>rfl) λ_ _=>rfl) ha J
def YR(ha:PD A X a ta)(J:PD A X b tb):PD A X (.BinOp a .Mult b pos) (xV9 ta tb):=by exists Yu xg4 (zz2 (λ_ _=>rfl) λ_ _=>rfl) ha J
def ZP(ha:PD A X a ta)(J:PD A X b tb):PD A X (.BinOp a .Mod b pos) (xW0 ta tb):=by exists Yu xg5 (zz2 (λ_ _=>rfl) λ_ _=>rfl) ha J
def zm3(ha:PD A X a ta)(J:PD A X b tb):PD A X (.BinOp a .FloorDiv b pos) (xW4 ta tb):=by exists Yu zR1 (zz2 (λ_ _=>rfl) λ_ _=>rfl) ha J
def UR(ha:PD A X a ta)(J:PD A X b tb):PD A X (.BinOp a .Pow b pos) (xV8 ta tb):=by exists Yu xg3 (zz2 (λ_ _=>rfl) λ_ _=>rfl) ha J
abbrev xQ6:RD2:=zz5 λi j=>.bl (decide (i<j))
abbrev xQ8:RD2:=zz5 λi j=>.bl (decide (j<i))
abbrev xQ9:RD2:=zz5 λi j=>.bl (decide (j<=i))
def zO1:ky A (rI0 λi j=>.bl (decide (i<j))) xQ6:=UO (g:=λi j=>.bl (decide (i<j))) (λ_ _=>rfl) λ_ _=>rfl
def Xy:ky A (rI0 λi j=>.bl (decide (j<i))) xQ8:=UO (g:=λi j=>.bl (decide (j<i))) (λ_ _=>rfl) λ_ _=>rfl
def xv8:ky A (rI0 λi j=>.bl (decide (j<=i))) xQ9:=UO (g:=λi j=>.bl (decide (j<=i))) (λ_ _=>rfl) λ_ _=>rfl
def zO4:RD2:=λd1 d2 k=>kJ d1=true/\kJ d2=true/\xu7 (ofS d1) (ofS d2)=true/\k (.bl (decide (ofS d1=ofS d2)))
def xo4:RD2:=λd1 d2 k=>kJ d1=true/\kJ d2=true/\xu7 (ofS d1) (ofS d2)=true/\k (.bl (!decide (ofS d1=ofS d2)))
def Wt:ky A rEq zO4:=by
 rintro os n rho sg H ds vs d1 d2 v1 v2 k Q I ⟨h1,Y,W,q⟩ O;obtain⟨I1,J⟩:=I.pop;obtain⟨I2,L⟩:=I1.pop;rw[L.toS h1,J.toS Y];exact⟨W,O _ H _ ⟨os,I2.push (Rep.ofS rfl)⟩ q⟩
def ZA:D->Bool
 |.non=>true
 |_=>false
theorem Rep.non_iff{K:W.Frag}{G:QqE}{Z:QqA}{H:Hp}{v:V}:∀{d:D},Rep K G Z H d v->decide (v=.non)=ZA d
 |.non,h=>by unfold Rep at h;rw[h];rfl
 |.bl b,h=>by unfold Rep at h;rw[h];rfl
 |.int b,h=>by unfold Rep at h;rw[h];rfl
 |.str b,h=>by unfold Rep at h;rw[h];rfl
 |.ty b,h=>by unfold Rep at h;rw[h];rfl
 |.st,h=>by unfold Rep at h;obtain⟨a,_,h⟩:=h;rw[h];rfl
 |.tup ds,h=>by obtain⟨a,xs,h,_⟩:=h.tup_inv;rw[h];rfl
 |.lst ds,h=>by obtain⟨a,xs,h,_⟩:=h.lst_inv;rw[h];rfl
 |.own ds,h=>by unfold Rep at h;exact h.elim
 |.owT _ _,h=>by unfold Rep at h;exact h.elim
 |.fz ds,h=>by obtain⟨a,xs,h,_⟩:=h.fz_inv;rw[h];rfl
 |.dic,h=>by unfold Rep at h;obtain⟨a,J,h,_⟩:=h;rw[h];rfl
 |.prT _,h=>by unfold Rep at h;obtain⟨a,h,_⟩:=h;rw[h];rfl
 |.dct _ _,h=>by unfold Rep at h;obtain⟨a,xs,h,_⟩:=h;rw[h];rfl
 |.dcL _ _,h=>by unfold Rep at h;obtain⟨a,bs,xs,h,_⟩:=h;rw[h];rfl
def xc1:RD2:=λd1 d2 k=>d2=.non/\k (.bl (ZA d1))
def zI5:RD2:=λd1 d2 k=>d2=.non/\k (.bl (!ZA d1))
def jc:ky A (λx y H Q=>y=.non/\Q (.bl (decide (x=.non))) H) xc1:=by
 rintro os n rho sg H ds vs d1 d2 v1 J k Q I ⟨rfl,q⟩ W;obtain⟨I1,L⟩:=I.pop;obtain⟨Y,O⟩:=I1.pop;have e:J=.non:=L.toS rfl
 exact⟨e,by rw[O.non_iff];exact W _ H _ ⟨os,Y.push (Rep.ofS (d:=.bl (ZA d1)) rfl)⟩ q⟩
def Ys:ky A (λx y H Q=>y=.non/\Q (.bl (!decide (x=.non))) H) zI5:=by
 rintro os n rho sg H ds vs d1 d2 v1 J k Q I ⟨rfl,q⟩ W;obtain⟨I1,L⟩:=I.pop;obtain⟨Y,O⟩:=I1.pop;have e:J=.non:=L.toS rfl
 exact⟨e,by rw[O.non_iff];exact W _ H _ ⟨os,Y.push (Rep.ofS (d:=.bl (!ZA d1)) rfl)⟩ q⟩
def rdB(f:Bool->Bool->Bool):RD2:=λd1 d2 k=>match d1,d2 with |.bl c,.bl d=>k (.bl (f c d)) |_,_=>False
def WV:RD2:=λd1 d2 k=>∃es i d,(d1=.lst es\/d1=.tup es\/d1=.fz es)/\d2=.int i/\atI es i=some d/\k d
def Uu{K:W.Frag}{G:QqE}{Z:QqA}{H:Hp}{es:List D}{xs:List V}{i:Int}{d:D}(h:Reps K G Z H es xs)(e:atI es i=some d):∃v,atI xs i=some v/\Rep K G Z H d v:=by
 unfold atI at e ⊢;rw[h.length]
 cases q:ixN es.length i with
 |none=>rw[q] at e;cases e
 |some j=>
  rw[q] at e;exact h.get (i:=j) e
def wN:ky A (rIx A.K) WV:=by
 rintro os n rho sg H ds vs d1 d2 v1 v2 k Q I ⟨es,i,d,h1,rfl,h2,q⟩ Y;obtain⟨I1,O⟩:=I.pop;obtain⟨I2,W⟩:=I1.pop
 rcases h1 with rfl |rfl |rfl
 ·obtain⟨a,xs,e,sq,J⟩:=W.lst_inv;obtain⟨v,L,rv⟩:=Uu J h2;exact .inl ⟨a,xs,i,v,e,O.int_inv,sq.sq,L,Y v H d ⟨os,I2.push rv⟩ q⟩
 ·obtain⟨a,xs,e,sq,J⟩:=W.tup_inv;obtain⟨v,L,rv⟩:=Uu J h2;exact .inr (.inl ⟨a,xs,i,v,e,O.int_inv,sq.sq,L,Y v H d ⟨os,I2.push rv⟩ q⟩)
 ·obtain⟨a,xs,e,sq,J⟩:=W.fz_inv;obtain⟨v,L,rv⟩:=Uu J h2;exact .inl ⟨a,xs,i,v,e,O.int_inv,sq,L,Y v H d ⟨os,I2.push rv⟩ q⟩
def xc7:RD2:=λd1 d2 k=>∃es fs,d1=.lst es/\d2=.lst fs/\es.length+fs.length<=sizeLine/\k (.lst (es++fs))
def Qz:ky A xI8 xc7:=by
 rintro os n rho sg H ds vs d1 d2 v1 v2 k Q I ⟨es,fs,rfl,rfl,hz,q⟩ Y;obtain⟨I1,L⟩:=I.pop;obtain⟨I2,O⟩:=I1.pop;obtain⟨a,xs,e,sq,J⟩:=O.lst_inv;obtain⟨b,ys,e',sq',rs'⟩:=L.lst_inv
 exact⟨a,b,xs,ys,e,e',sq.2,sq'.2,by rw[J.length,rs'.length];exact hz,λp W=>Y _ _ _ ⟨os,I2.newLst (J.append rs') W⟩ q⟩
def zk3:RD2:=λd1 d2 k=>∃es i,d1=.tup es/\d2=.int i/\es≠[]/\1<=i/\es.length*i.toNat<=sizeLine/\k (.tup (replicate i.toNat es).flatten)
def zO0:ky A (xc8 A.K) zk3:=by
 rintro os n rho sg H ds vs d1 d2 v1 v2 k Q I ⟨es,i,rfl,rfl,J,h1,hz,q⟩ Y;obtain⟨I1,r2⟩:=I.pop;obtain⟨I2,W⟩:=I1.pop;have r1':=W;obtain⟨a,xs,e,sq,O⟩:=W.tup_inv;have L:=O.length
 refine⟨a,i,xs,e,r2.int_inv,sq.sq,λz=>J ?_,h1,by rw[L];exact hz,λhi=>?_,λhi p hp=>?_⟩
 ·rw[z] at L;exact zX.mp L.symm
 ·subst hi
  have e1:(replicate (1:Int).toNat es).flatten=es:=by simp
  rw[e1] at q;rw[e] at r1';exact Y _ H _ ⟨os,I2.push r1'⟩ q
 ·exact Y _ _ _ ⟨os,I2.newTup (O.flatRep i.toNat) hp⟩ q
def QG(ha:PD A X a ta):PD A X (.UnaryOp .USub a pos) (λrho n P=>ta rho n λd n'=>∃i,d=.int i/\P (.int (-i)) n'):=by
 exists (xD9 zY3 ha).imp λsg H Q h=>by
   obtain⟨rho,n,P,ds,vs,I,ht,L⟩:=h;refine⟨rho,n,_,ds,vs,I,ht,λv H' n' d ⟨os,J⟩ k=>?_⟩;obtain⟨i,rfl,k⟩:=k;obtain⟨O,r⟩:=J.pop;exact⟨i,r.int_inv,L _ H' n' _ ⟨os,O.push (Rep.ofS (d:=.int (-i)) rfl)⟩ k⟩
variable {t u:TBD}{rest:List Expr}
def xO4(t u:TBD):TBD:=λrho n P=>t rho n λc J=>if c=true then u rho J P else P false J
def bOr(t u:TBD):TBD:=λrho n P=>t rho n λc J=>if c=true then P true J else u rho J P
def xG8(t:TBD):TBD:=λrho n P=>t rho n λc J=>P (!c) J
def qo(ha:PTD A X a t):PWD A X (.BoolOp .And [a] pos) t:=by exists zO9 ha
def Yt(ha:PTD A X a t):PWD A X (.BoolOp .Or [a] pos) t:=by exists xe0 ha
def qr(ha:PTD A X a t)(O:PWD A X (.BoolOp .And (b::rest) pos) u):PWD A X (.BoolOp .And (a::b::rest) pos) (xO4 t u):=by
 exists (xe1 ha O).imp λsg H Q h=>by
   obtain⟨rho,n,P,ds,vs,I,ht,L⟩:=h;refine⟨rho,n,_,ds,vs,I,ht,λc H' n' J k=>?_⟩
   cases c with
   |true=>exact⟨rho,n',P,ds,vs,J,k,L⟩
   |false=>exact L _ _ _ J k
def WY(ha:PTD A X a t)(O:PWD A X (.BoolOp .Or (b::rest) pos) u):PWD A X (.BoolOp .Or (a::b::rest) pos) (bOr t u):=by
 exists (xD6 ha O).imp λsg H Q h=>by
   obtain⟨rho,n,P,ds,vs,I,ht,L⟩:=h;refine⟨rho,n,_,ds,vs,I,ht,λc H' n' J k=>?_⟩
   cases c with
   |false=>exact⟨rho,n',P,ds,vs,J,k,L⟩
   |true=>exact L _ _ _ J k
def PWD.pt(h:PWD A X e t):PTD A X e t:=by exists PW.pt h
def JB(ha:PTD A X a t):PTD A X (.UnaryOp .Not a pos) (xG8 t):=by
 exists (xe4 ha).imp λsg H Q h=>by
   obtain⟨rho,n,P,ds,vs,I,ht,L⟩:=h;exact⟨rho,n,_,ds,vs,I,ht,λc H' n' J k=>L _ _ _ J k⟩
def xO3(ta tb:TD):TD:=λrho n P=>ta rho n λd J=>∃c,d=.bl c/\if c=true then tb rho J P else P (.bl false) J
def dOr(ta tb:TD):TD:=λrho n P=>ta rho n λd J=>∃c,d=.bl c/\if c=true then P (.bl true) J else tb rho J P
def xO1(ta:TD):TD:=λrho n P=>ta rho n λd J=>∃c,d=.bl c/\P (.bl (!c)) J
def xf8{op:BoolOp}(h:PD A X a ta):PD A X (.BoolOp op [a] pos) ta:=by exists xf2 h
def zJ8(ha:PD A X a ta)(W:PD A X (.BoolOp .And (b::rest) pos) tb):PD A X (.BoolOp .And (a::b::rest) pos) (xO3 ta tb):=by
 exists (xf6 ha W).imp λsg H Q h=>by
   obtain⟨rho,n,P,ds,vs,I,ht,L⟩:=h;refine⟨rho,n,_,ds,vs,I,ht,λv H' n' d ⟨os,J⟩ k=>?_⟩;obtain⟨c,rfl,k⟩:=k;obtain⟨O,r⟩:=J.pop;refine⟨c,r.bl_inv,?_⟩
   cases c with
   |true=>exact⟨rho,n',P,ds,vs,⟨os,O⟩,k,L⟩
   |false=>exact L _ _ _ _ ⟨os,O.push (Rep.ofS (d:=.bl false) rfl)⟩ k
def zJ7(ha:PD A X a ta):PD A X (.UnaryOp .Not a pos) (xO1 ta):=by
 exists (xf3 ha).imp λsg H Q h=>by
   obtain⟨rho,n,P,ds,vs,I,ht,L⟩:=h;refine⟨rho,n,_,ds,vs,I,ht,λv H' n' d ⟨os,J⟩ k=>?_⟩;obtain⟨c,rfl,k⟩:=k;obtain⟨O,r⟩:=J.pop;exact⟨c,r.bl_inv,L _ _ _ _ ⟨os,O.push (Rep.ofS (d:=.bl (!c)) rfl)⟩ k⟩
def dIf(t:TBD)(ta tb:TD):TD:=λrho n P=>t rho n λc J=>if c=true then ta rho J P else tb rho J P
def VU(O:PTD A X c t)(ha:PD A X a ta)(W:PD A X b tb):PD A X (.IfExp c a b pos) (dIf t ta tb):=by
 exists (zB2 O ha W).imp λsg H Q h=>by
   obtain⟨rho,n,P,ds,vs,I,ht,L⟩:=h;refine⟨rho,n,_,ds,vs,I,ht,λc H' n' J k=>?_⟩
   cases c with
   |true=>exact⟨rho,n',P,ds,vs,J,k,L⟩
   |false=>exact⟨rho,n',P,ds,vs,J,k,L⟩
variable {t1:TAD}
def xG9:TAD:=λ_ n P=>P [] n
def xn9(t:TD)(r:TAD):TAD:=λrho n P=>t rho n λd L=>r rho L λds J=>P (d::ds) J
def zm:PAD A X [] xG9:=by
 exists YS.imp λsg H Q h=>by
   obtain⟨rho,n,P,ds,vs,I,ht,J⟩:=h;exact J [] H n [] I rfl ht
def zz1{K:W.Frag}{G:QqE}{Z:QqA}{H:Hp}{es ds:List D}{ws vs:List V}{d:D}{v:V}(h:Reps K G Z H (es++d::ds) (ws++v::vs))(J:ws.length=es.length):Reps K G Z H (d::es++ds) (v::ws++vs):=by
 have h1:=h.take es.length;have L:=h.drop es.length;rw[take_left' rfl,take_left' J] at h1;rw[yL rfl,yL J] at L;obtain⟨r,t⟩:=L.inv;exact .cons r (h1.append t)
def qp:Expr->Bool
 |.Starred ..=>true
 |_=>false
def sE{e:Expr}{es:List Expr}{env:Env}(h:qp e=false):starEach (e::es) env=(false,eval e env)::starEach es env:=by
 cases e<;>first |(simp[starEach];done) |(simp[qp] at h;done)
def zc(ha:PD A X a ta)(hr:PAD A X es t1)(hs:qp a=false:=by rfl):PAD A X (a::es) (xn9 ta t1):=by
 exists (jr ha hr (sE hs)).imp λsg H Q h=>by
   obtain⟨rho,n,P,ds,vs,I,ht,hQ⟩:=h;refine⟨rho,n,_,ds,vs,I,ht,λv H' n' d J k=>⟨rho,n',_,d::ds,v::vs,J,k,λws H2 W es' ⟨os,O⟩ L Y=>?_⟩⟩
   exact hQ (v::ws) H2 W (d::es') ⟨os,O.pends (zz1 O.pend L)⟩ (by rw[zI,zI,L]) Y
def Xf{K:W.Frag}{G:QqE}{Z:QqA}{H:Hp}{es ds:List D}{ws vs:List V}(h:Reps K G Z H (es++ds) (ws++vs))(J:ws.length=es.length):Reps K G Z H es ws/\Reps K G Z H ds vs:=by
 have h1:=h.take es.length;have L:=h.drop es.length;rw[take_left' rfl,take_left' J] at h1;rw[yL rfl,yL J] at L;exact⟨h1,L⟩
def xN8(t:TAD):TD:=λrho n P=>t rho n λds J=>ds.length<=sizeLine/\P (.tup ds) J
def xG5(t:TAD):TD:=λrho n P=>t rho n λds J=>ds.length<=sizeLine/\P (.lst ds) J
def yn{O}(h:PAD A X es t1):PD A X (.Tuple es O pos) (xN8 t1):=by
 exists (zJ5 h).imp λsg H Q h=>by
   obtain⟨rho,n,P,ds,vs,I,ht,hQ⟩:=h
   refine⟨rho,n,_,ds,vs,I,ht,λws H' n' es' ⟨os,J⟩ L k=>⟨by rw[L];exact k.1,λp hp=>?_⟩⟩
   obtain⟨Y,W⟩:=Xf J.pend L;exact hQ _ _ n' _ ⟨os,(J.pends W).newTup Y hp⟩ k.2
def vN(h:PAD A X es t1):PD A X (.List es pos) (xG5 t1):=by
 exists (zl8 h).imp λsg H Q h=>by
   obtain⟨rho,n,P,ds,vs,I,ht,hQ⟩:=h
   refine⟨rho,n,_,ds,vs,I,ht,λws H' n' es' ⟨os,J⟩ L k=>⟨by rw[L];exact k.1,λp Y=>?_⟩⟩
   obtain⟨W,O⟩:=Xf J.pend L;exact hQ _ _ n' _ ⟨os,(J.pends O).newLst W Y⟩ k.2
def vA(A:AC)(r:List V->Hp->VK->Prop)(J:List D->(D->Prop)->Prop):Prop:=
 ∀os n rho sg H ds vs es ws (k:D->Prop) (Q:VK),AmO A os n rho sg H ds vs->Reps A.K A.G (Zof A os) H es ws->J es k->(∀v H' d,Am A n rho sg H' (d::ds) (v::vs)->k d->Q v H')->r ws H Q
def zG3(J:List D->(D->Prop)->Prop)(t:TAD):TD:=λrho n P=>t rho n λes L=>J es λd=>P d L
def zI2{r:List V->Hp->VK->Prop}{L:List D->(D->Prop)->Prop}(hr:vA A r L){sg:St}{H:Hp}{Q:VK}(h:tOf A (zG3 L t1) sg H Q):tCB r (xH5 A t1) sg H Q:=by
 obtain⟨rho,n,P,ds,vs,I,ht,hQ⟩:=h;refine⟨rho,n,_,ds,vs,I,ht,λws H' n' es' ⟨os,J⟩ hl k=>?_⟩;obtain⟨W,O⟩:=Xf J.pend hl;exact hr _ _ _ _ _ _ _ _ _ _ Q (J.pends O) W k λv H2 d J2 Y=>hQ v H2 n' d J2 Y
def wn{x:Str}{p:Pos}{id:String}{r:List V->Hp->VK->Prop}{O:List D->(D->Prop)->Prop}(hc:kW X (.builtin id) r)(Y:vA A r O)(hm:X.mg x=none)(W:bootBuiltins x=some (.builtin id))(ha:PAD A X (e::es) t1)(hg:Gl X x:=by rfl)(hn:x ≠ "__name__" := by decide)(L:(x == ("__debug__" : Str))=false:=by decide)
  (he:starEach (e::es) X.env=(false,eval e X.env)::starEach es X.env:=by rfl) (J:(backTo pos (starEach es X.env)).any (·.1)=false:=by rfl):PD A X (.Call (.Name x p) (e::es) [] pos) (zG3 O t1):=by
 exists 
   (Xg hc hg hm W ha hn L he J).imp λ_ _ _=>zI2 Y
def yV{x:Str}{p:Pos}{T:String}{r:List V->Hp->VK->Prop}{O:List D->(D->Prop)->Prop}(hc:kW X (.type T) r)(Y:vA A r O)(hm:X.mg x=none)(W:bootBuiltins x=some (.type T))(ha:PAD A X (e::es) t1)(hg:Gl X x:=by rfl)(hn:x ≠ "__name__" := by decide)(L:(x == ("__debug__" : Str))=false:=by decide)
  (he:starEach (e::es) X.env=(false,eval e X.env)::starEach es X.env:=by rfl) (J:(backTo pos (starEach es X.env)).any (·.1)=false:=by rfl):PD A X (.Call (.Name x p) (e::es) [] pos) (zG3 O t1):=by
 exists 
   (ZO hc hg hm W ha hn L he J).imp λ_ _ _=>zI2 Y
def kO{K:W.Frag}{G:QqE}{Z:QqA}{H:Hp}{d:D}{ws:List V}(h:Reps K G Z H [d] ws):∃v,ws=[v]/\Rep K G Z H d v:=by
 obtain⟨v,r,rfl,q,t⟩:=h.split;rw[t.nil_inv];exact⟨v,rfl,q⟩
def VP{K:W.Frag}{G:QqE}{Z:QqA}{H:Hp}{d d':D}{ws:List V}(h:Reps K G Z H [d,d'] ws):∃v v',ws=[v,v']/\Rep K G Z H d v/\Rep K G Z H d' v':=by
 obtain⟨v,r,rfl,q,t⟩:=h.split;obtain⟨v',rfl,q'⟩:=kO t;exact⟨v,v',rfl,q,q'⟩
def zU2:List D->(D->Prop)->Prop:=λes k=>∃fs,(es=[.lst fs]\/es=[.tup fs]\/es=[.fz fs])/\k (.int fs.length)
def xN6:List D->(D->Prop)->Prop:=λes k=>∃i,es=[.int i]/\k (.int (if i<0 then -i else i))
def xk1:List D->(D->Prop)->Prop:=λes k=>∃c,es=[.bl c]/\k (.int (if c then 1 else 0))
def xU8:List D->(D->Prop)->Prop:=λes k=>∃bs:List Bool,es=[.lst (bs.map D.bl)]/\k (.bl (bs.all id))
def xU7:List D->(D->Prop)->Prop:=λes k=>∃bs:List Bool,es=[.lst (bs.map D.bl)]/\k (.bl (bs.any id))
def zq3:List D->(D->Prop)->Prop:=λes k=>∃fs,(es=[.lst fs]\/es=[.tup fs])/\k (.tup fs)
def zU1:List D->(D->Prop)->Prop:=λes k=>∃fs,(es=[.lst fs]\/es=[.tup fs])/\k (.lst fs)
def kX:vA A (λxs H Q=>∃p ys,xs=[.ref p]/\(SqL A.K H p ys\/SqT A.K H p ys)/\Q (.int ys.length) H) zU2:=by
 rintro os n rho sg H ds vs es ws k Q I L ⟨fs,h,q⟩ O
 rcases h with rfl |rfl |rfl
 ·obtain ⟨v, rfl, r⟩ := kO L;obtain⟨a,xs,rfl,sq,J⟩:=r.lst_inv
  exact⟨a,xs,rfl,.inl sq.sq,by rw[J.length];exact O _ H _ ⟨os,I.push (Rep.ofS rfl)⟩ q⟩
 ·obtain ⟨v, rfl, r⟩ := kO L;obtain⟨a,xs,rfl,sq,J⟩:=r.tup_inv
  exact⟨a,xs,rfl,.inr sq.sq,by rw[J.length];exact O _ H _ ⟨os,I.push (Rep.ofS rfl)⟩ q⟩
 ·obtain ⟨v, rfl, r⟩ := kO L;obtain⟨a,xs,rfl,sq,J⟩:=r.fz_inv
  exact⟨a,xs,rfl,.inl sq,by rw[J.length];exact O _ H _ ⟨os,I.push (Rep.ofS rfl)⟩ q⟩
def zL9:vA A (λxs H Q=>∃i,xs=[.int i]/\Q (.int (if i<0 then -i else i)) H) xN6:=by
 rintro os n rho sg H ds vs es ws k Q I J ⟨i,rfl,q⟩ L;obtain⟨v,rfl,r⟩:=kO J
 exact⟨i,by rw[r.int_inv],L _ H _ ⟨os,I.push (Rep.ofS rfl)⟩ q⟩
def Us:vA A (λxs H Q=>(∃i,xs=[.int i]/\Q (.int i) H)\/∃k,xs=[.bl k]/\Q (.int (if k then 1 else 0)) H) xk1:=by
 rintro os n rho sg H ds vs es ws k Q I J ⟨i,rfl,q⟩ L;obtain⟨v,rfl,r⟩:=kO J
 exact .inr ⟨i,by rw[r.bl_inv],L _ H _ ⟨os,I.push (Rep.ofS rfl)⟩ q⟩
theorem Yq{K:W.Frag}{G:QqE}{Z:QqA}{H:Hp}:∀{bs:List Bool}{ws:List V},Reps K G Z H (bs.map D.bl) ws->ws=bs.map V.bl
 |[],ws,h=>h.nil_inv
 |b::bs,ws,h=>by
  obtain⟨v,r,rfl,q,t⟩:=h.split;rw[q.bl_inv,Yq t];rfl
def xm9:vA A (λxs H Q=>∃(p:Addr) (bs:List Bool),xs=[.ref p]/\SqL A.K H p (bs.map V.bl)/\Q (.bl (bs.all id)) H) xU8:=by
 rintro os n rho sg H ds vs es ws k Q I J ⟨bs,rfl,q⟩ O;obtain⟨v,rfl,r⟩:=kO J;obtain⟨a,xs,rfl,sq,L⟩:=r.lst_inv;have e:=Yq L;subst e;exact⟨a,bs,rfl,sq.sq,O _ H _ ⟨os,I.push (Rep.ofS rfl)⟩ q⟩
def xm8:vA A (λxs H Q=>∃(p:Addr) (bs:List Bool),xs=[.ref p]/\SqL A.K H p (bs.map V.bl)/\Q (.bl (bs.any id)) H) xU7:=by
 rintro os n rho sg H ds vs es ws k Q I J ⟨bs,rfl,q⟩ O;obtain⟨v,rfl,r⟩:=kO J;obtain⟨a,xs,rfl,sq,L⟩:=r.lst_inv;have e:=Yq L;subst e;exact⟨a,bs,rfl,sq.sq,O _ H _ ⟨os,I.push (Rep.ofS rfl)⟩ q⟩
def kg:vA A (λxs H Q=>∃p ys,xs=[.ref p]/\((SqL A.K H p ys/\∀l,H l=none->Q (.ref l) (upd H l (.tup ys)))\/(SqT A.K H p ys/\Q (.ref p) H))) zq3:=by
 rintro os n rho sg H ds vs es ws k Q I J ⟨fs,h,q⟩ O
 rcases h with rfl |rfl
 ·obtain⟨v,rfl,r⟩:=kO J;obtain⟨a,xs,rfl,sq,L⟩:=r.lst_inv;exact⟨a,xs,rfl,.inl ⟨sq.sq,λl W=>O _ _ _ ⟨os,I.newTup L W⟩ q⟩⟩
 ·obtain⟨v,rfl,r⟩:=kO J;have r':=r;obtain⟨a,xs,rfl,sq,L⟩:=r.tup_inv;exact⟨a,xs,rfl,.inr ⟨sq.sq,O _ _ _ ⟨os,I.push r'⟩ q⟩⟩
def zu4:vA A (λxs H Q=>∃p ys,xs=[.ref p]/\(SqL A.K H p ys\/SqT A.K H p ys)/\∀l,H l=none->Q (.ref l) (upd H l (.lst ys))) zU1:=by
 rintro os n rho sg H ds vs es ws k Q I O ⟨fs,h,q⟩ W
 rcases h with rfl |rfl
 ·obtain⟨v,rfl,r⟩:=kO O;obtain⟨a,xs,rfl,sq,J⟩:=r.lst_inv;exact⟨a,xs,rfl,.inl sq.sq,λl L=>W _ _ _ ⟨os,I.newLst J L⟩ q⟩
 ·obtain⟨v,rfl,r⟩:=kO O;obtain⟨a,xs,rfl,sq,J⟩:=r.tup_inv;exact⟨a,xs,rfl,.inr sq.sq,λl L=>W _ _ _ ⟨os,I.newLst J L⟩ q⟩
def zU5(T:String):D->Bool
 |.bl _=>T == "bool" || T == "int"
 |.int _=>T == "int"
 |.str _=>T == "str"
 |.tup _=>T == "tuple"
 |.lst _=>T == "list"
 |_=>false
def Uk:D->Bool
 |.non=>true |.bl _=>true |.int _=>true |.str _=>true |.tup _=>true |.lst _=>true |.dic=>true |_=>false
def zY0:List D->(D->Prop)->Prop:=λes k=>∃d T,es=[d,.ty T]/\(T = "bool" \/ T = "int" \/ T = "str" \/ T = "tuple" \/ T = "list")/\Uk d=true/\k (.bl (zU5 T d))
end
section
variable {A:AC}{os:List (Nat × Addr)}{n:Nat}{rho:Rho}{sg:St}{H:Hp}{ds es:List D}{vs ws:List V}{d:D}{v:V}
def AmO.split(I:AmO A os n rho sg H (es++ds) (ws++vs))(O:ws.length=es.length):AmO A os n rho sg H ds vs/\Reps A.K A.G (Zof A os) H es ws:=
 let ⟨L,J⟩:=Xf I.pend O
 ⟨I.pends J,L⟩
def AmO.join(I:AmO A os n rho sg H ds vs)(h:Reps A.K A.G (Zof A os) H es ws):AmO A os n rho sg H (es++ds) (ws++vs):=I.pends (h.append I.pend)
def AmO.under(I:AmO A os n rho sg H (d::(es++ds)) (v::(ws++vs)))(L:ws.length=es.length):AmO A os n rho sg H (d::ds) (v::vs):=by
 obtain⟨J,r⟩:=I.pop;exact(J.split L).1.push r
def AmO.front(m:Nat)(I:AmO A os n rho sg H ds vs):AmO A (os.map λp=>(p.1+m,p.2)) n (replicate m none++rho) (replicate m none++sg) H ds vs:=by
 have J:∀a,Zof A (os.map λp=>(p.1+m,p.2)) a->Zof A os a:=λa z=>by
  rcases z with z |⟨p,hp,e⟩
  ·exact .inl z
  ·obtain⟨q,hq,rfl⟩:=zi.mp hp;exact .inr ⟨q,hq,e⟩
 refine⟨by simp[I.len],λi c e=>?_,Reps.mono (λa _ z=>J a z) (λ_ _ _ e=>e) _ _ I.pend,?_,λp hp=>?_,I.st,I.gz,I.fr,I.z0⟩
 ·have hi : m <= i := by
   apply ym;intro L
   rw[xB (by simpa using L),xl,if_pos L] at e
   cases e
  rw[xk (by simpa using hi),xN] at e
  obtain⟨u,e1,e2⟩:=I.slot _ c e
  refine⟨u,by rw[xk (by simpa using hi),xN];exact e1,?_⟩
  have key:∀j,j+m=i->SlotR A os H j c u->SlotR A (os.map λp=>(p.1+m,p.2)) H i c u:=λj hj h=>by
   subst hj
   cases c with
   |own fs=>
    obtain⟨a,xs,q1,Y,W,O⟩:=h;exact⟨a,xs,q1,zi.mpr ⟨_,Y,rfl⟩,W,Reps.mono (λa _ z=>J a z) (λ_ _ _ e=>e) _ _ O⟩
   |owT ks fs=>
    obtain⟨a,xs,q1,Y,W,ql,O⟩:=h;exact⟨a,xs,q1,zi.mpr ⟨_,Y,rfl⟩,W,ql,Reps.mono (λa _ z=>J a z) (λ_ _ _ e=>e) _ _ O⟩
   |non=>exact Rep.mono (λa _ z=>J a z) (λ_ _ _ e=>e) _ _ h
   |bl _=>exact Rep.mono (λa _ z=>J a z) (λ_ _ _ e=>e) _ _ h
   |int _=>exact Rep.mono (λa _ z=>J a z) (λ_ _ _ e=>e) _ _ h
   |str _=>exact Rep.mono (λa _ z=>J a z) (λ_ _ _ e=>e) _ _ h
   |ty _=>exact Rep.mono (λa _ z=>J a z) (λ_ _ _ e=>e) _ _ h
   |tup _=>exact Rep.mono (λa _ z=>J a z) (λ_ _ _ e=>e) _ _ h
   |lst _=>exact Rep.mono (λa _ z=>J a z) (λ_ _ _ e=>e) _ _ h
   |st=>exact Rep.mono (λa _ z=>J a z) (λ_ _ _ e=>e) _ _ h
   |fz _=>exact Rep.mono (λa _ z=>J a z) (λ_ _ _ e=>e) _ _ h
   |dic=>exact Rep.mono (λa _ z=>J a z) (λ_ _ _ e=>e) _ _ h
   |prT _=>exact Rep.mono (λa _ z=>J a z) (λ_ _ _ e=>e) _ _ h
   |dct _ _=>exact Rep.mono (λa _ z=>J a z) (λ_ _ _ e=>e) _ _ h
   |dcL _ _=>exact Rep.mono (λa _ z=>J a z) (λ_ _ _ e=>e) _ _ h
  exact key (i-m) w5 e2
 ·rw [xn]
  exact I.nd.imp λ{p q} h=>⟨λz=>h.1 (by simpa using z),h.2⟩
 ·obtain⟨q,hq,rfl⟩:=zi.mp hp;exact I.fresh q hq
def AmO.back{m:Nat}{rho':Rho}{sg':St}(I:AmO A os n rho' sg' H ds vs)(h1:rho'.drop m=rho)(h2:sg'.drop m=sg):∃os',AmO A os' n rho sg H ds vs:=by
 refine⟨(os.filter λp=>decide (m<=p.1)).map λp=>(p.1-m,p.2),?_⟩
 have J:∀a,Zof A ((os.filter λp=>decide (m<=p.1)).map λp=>(p.1-m,p.2)) a->Zof A os a:=λa z=>by
  rcases z with z |⟨p,W,e⟩
  ·exact .inl z
  ·obtain⟨q,O,rfl⟩:=zi.mp W;exact .inr ⟨q,(zt.mp O).1,e⟩
 subst h1 h2
 refine⟨by simp[I.len],λi c e=>?_,Reps.mono (λa _ z=>J a z) (λ_ _ _ e=>e) _ _ I.pend,?_,λp W=>?_,I.st,I.gz,I.fr,I.z0⟩
 ·rw [yp] at e;obtain⟨u,e1,L⟩:=I.slot _ c e
  refine⟨u,by rw[yp];exact e1,?_⟩
  cases c with
  |own fs=>
   obtain⟨a,xs,q1,q2,q3,Y⟩:=L
   exact⟨a,xs,q1,zi.mpr ⟨_,zt.mpr ⟨q2,by simp⟩,by simp⟩,q3,Reps.mono (λa _ z=>J a z) (λ_ _ _ e=>e) _ _ Y⟩
  |owT ks fs=>
   obtain⟨a,xs,q1,q2,q3,ql,Y⟩:=L
   exact⟨a,xs,q1,zi.mpr ⟨_,zt.mpr ⟨q2,by simp⟩,by simp⟩,q3,ql,Reps.mono (λa _ z=>J a z) (λ_ _ _ e=>e) _ _ Y⟩
  |non=>exact Rep.mono (λa _ z=>J a z) (λ_ _ _ e=>e) _ _ L
  |bl _=>exact Rep.mono (λa _ z=>J a z) (λ_ _ _ e=>e) _ _ L
  |int _=>exact Rep.mono (λa _ z=>J a z) (λ_ _ _ e=>e) _ _ L
  |str _=>exact Rep.mono (λa _ z=>J a z) (λ_ _ _ e=>e) _ _ L
  |ty _=>exact Rep.mono (λa _ z=>J a z) (λ_ _ _ e=>e) _ _ L
  |tup _=>exact Rep.mono (λa _ z=>J a z) (λ_ _ _ e=>e) _ _ L
  |lst _=>exact Rep.mono (λa _ z=>J a z) (λ_ _ _ e=>e) _ _ L
  |st=>exact Rep.mono (λa _ z=>J a z) (λ_ _ _ e=>e) _ _ L
  |fz _=>exact Rep.mono (λa _ z=>J a z) (λ_ _ _ e=>e) _ _ L
  |dic=>exact Rep.mono (λa _ z=>J a z) (λ_ _ _ e=>e) _ _ L
  |prT _=>exact Rep.mono (λa _ z=>J a z) (λ_ _ _ e=>e) _ _ L
  |dct _ _=>exact Rep.mono (λa _ z=>J a z) (λ_ _ _ e=>e) _ _ L
  |dcL _ _=>exact Rep.mono (λa _ z=>J a z) (λ_ _ _ e=>e) _ _ L
 ·rw [xn, List.pairwise_filter];refine I.nd.imp λ{p q} h W O=>⟨λz=>h.1 ?_,h.2⟩
  have a1:m<=p.1:=by simpa using W
  have a2:m<=q.1:=by simpa using O
  have z':p.1-m=q.1-m:=z;lia
 ·obtain⟨q,O,rfl⟩:=zi.mp W;exact I.fresh q (zt.mp O).1
end
abbrev TGD:=D->Rho->(Rho->Prop)->Prop
abbrev zH5:=List D->Rho->(Rho->Prop)->Prop
def gOf(A:AC)(m:Nat)(g:TGD):TG:=λv sg H Q=>∃rho n P d ds vs,Am A n rho sg H (d::ds) (v::vs)/\g d rho P/\∀rho' sg',Am A n rho' sg' H ds vs->sg'.drop m=sg.drop m->P rho'->Q sg' H
def xV1(A:AC)(m:Nat)(g:zH5):TGs:=λus sg H Q=>∃rho n P es ds vs,Am A n rho sg H (es++ds) (us++vs)/\us.length=es.length/\g es rho P/\∀rho' sg',Am A n rho' sg' H ds vs->sg'.drop m=sg.drop m->P rho'->Q sg' H
@[irreducible] def PGD(A:AC)(X:Cx)(m:Nat)(J:Expr)(g:TGD):Prop:=PG X J (gOf A m g)
@[irreducible] def xt4(A:AC)(X:Cx)(m:Nat)(J:List Expr)(g:zH5):Prop:=PGs X J (xV1 A m g)
def PG.imp{X:Cx}{L:Expr}{g g':TG}(h:PG X L g)(hi:∀v sg H Q,g' v sg H Q->g v sg H Q):PG X L g':=λJ s sg H v u Q I r q=>h J s sg H v u Q I r (hi _ _ _ _ q)
def PGs.imp{X:Cx}{L:List Expr}{g g':TGs}(h:PGs X L g)(hi:∀v sg H Q,g' v sg H Q->g v sg H Q):PGs X L g':=λJ s sg H v u Q I r q=>h J s sg H v u Q I r (hi _ _ _ _ q)
section
variable {A:AC}{X:Cx}{m:Nat}{pos:Pos}
def zK9(i:Nat):TGD:=λd rho P=>i<rho.length/\P (rho.set i (some d))
def zV{i:Nat}{x:Str}(Y:X.N.Nodup)(hi:X.N[i]?=some x)(hx:Loc X.env.scope x)(J:i<m)(O:X.fn x=true\/X.env.scope.names.lookup x=some .local:=by first |exact .inl rfl |exact .inr rfl |assumption):PGD A X m (.Name x pos) (zK9 i):=by
 exists 
   (zP7 Y hi hx O).imp λv sg H Q h => by
    obtain⟨rho,n,P,d,ds,vs,⟨os,I⟩,⟨L,k⟩,W⟩:=h;refine W (rho.set i (some d)) (sg.set i (some v)) ⟨_,I.set L⟩ ?_ k;rw[List.drop_set_of_lt J]
def xl4:zH5:=λes rho P=>es=[]/\P rho
def zL0(g:TGD)(J:zH5):zH5:=λes rho P=>∃d r,es=d::r/\g d rho λrho'=>J r rho' P
def yw:xt4 A X m [] xl4:=by
 exists zP6.imp λus sg H Q h=>by
   obtain⟨rho,n,P,es,ds,vs,I,J,⟨rfl,k⟩,L⟩:=h;have e:us=[]:=zX.mp J;subst e;exact⟨rfl,L rho sg I rfl k⟩
def xf{e:Expr}{es:List Expr}{g:TGD}{W:zH5}(h1:PGD A X m e g)(h2:xt4 A X m es W)(hs:(assignEach (e::es) X.env).map (·.2)=assign e X.env::(assignEach es X.env).map (·.2):=by rfl):xt4 A X m (e::es) (zL0 g W):=by
 exists 
   (zB1 h1 h2 hs).imp λus sg H Q h => by
    obtain⟨rho,n,P,es',ds,vs,I,O,⟨d,r,rfl,k⟩,hQ⟩:=h
    cases us with
    |nil=>simp at O
    |cons u us=>
     refine⟨u,us,rfl,⟨rho,n,_,d,r++ds,us++vs,I,k,λrho' sg' I' e1 k'=>⟨rho',n,P,r,ds,vs,I',by simpa using O,k',λJ L I2 e2 Y=>hQ J L I2 (e2.trans e1) Y⟩⟩⟩
def xl3(k:Nat)(J:zH5):TGD:=λd rho P=>∃es,d=.tup es/\es.length=k/\J es rho P
def vh{es:List Expr}{k:Nat}{W:zH5}{kt:Nat}(hK:X.K=A.K)(hc:X.calm=true)(h:xt4 A X m es W)(Y:(assignEach es X.env).length=k:=by rfl)(L:(assignEach es X.env).findIdx? (·.1)=none:=by rfl):PGD A X m (.Tuple es kt pos) (xl3 k W):=by
 exists 
   (xe9 (n := k) hc h Y L).imp λv sg H Q h => by
    obtain⟨rho,n,P,d,ds,vs,⟨os,I⟩,⟨fs,rfl,hl,q⟩,hQ⟩:=h;obtain⟨J,r⟩:=I.pop;obtain⟨a,xs,rfl,sq,O⟩:=r.tup_inv;have hx:=O.length;rw[hK]
    exact⟨a,xs,rfl,sq.sq,by rw[hx];exact hl,rho,n,P,fs,ds,vs,⟨os,J.join O⟩,hx,q,hQ⟩
end
abbrev TID:=Rho->Nat->(List D->Nat->Prop)->Prop
def JIs(A:AC)(J:It)(es:List D)(ws:List V)(items:List D):Prop:=∀n rho sg H ds vs i,Am A n rho sg H (es++ds) (ws++vs) ->
 (∀d,items[i]?=some d->J.go i H/\∀x H',J.yld i H x H'->Am A n rho sg H' (d::(es++ds)) (x::(ws++vs)))/\(items.length<=i->J.stop i H)
def iOf(A:AC)(it:TID):TI:=λsg H R=>∃rho n P ds vs,Am A n rho sg H ds vs/\it rho n P/\∀J H' n' items es ws,Am A n' rho sg H' (es++ds) (ws++vs)->ws.length=es.length->JIs A J es ws items->P items n'->R J H'
@[irreducible] def PID(A:AC)(X:Cx)(J iter:Expr)(it:TID):Prop:=PI X J iter (iOf A it)
def PI.imp{X:Cx}{L e:Expr}{t t':TI}(h:PI X L e t)(hi:∀sg H Q,t' sg H Q->t sg H Q):PI X L e t':=λJ s sg H Q I q=>h J s sg H Q I (hi _ _ _ q)
section
variable {A:AC}{X:Cx}{tg a b:Expr}{ta tb:TD}{pos p:Pos}{t1:TAD}
def zc5(lo:Int)(k:Nat):List D:=(List.range k).map fun(i:Nat)=>D.int (lo+(i:Int))
def xk9(t:TAD):TID:=λrho n P=>t rho n λes J=>∃j:Int,es=[.int j]/\-(2^62)<=j/\j<2^62/\P (zc5 0 j.toNat) J
def zU4{lo:Int}{k:Nat}:JIs A (Itr lo k) [] [] (zc5 lo k):=λn2 O aa H2 ac Y i ⟨J,I2⟩=>by
 refine⟨λd e=>?_,λhi=>?_⟩
 ·unfold zc5 at e;rw[zw] at e
  cases q:(List.range k)[i]? with
  |none=>rw[q] at e;cases e
  |some j=>
   rw[q] at e;cases e;have hj:=zu.mp q;obtain⟨L,W⟩:=hj;rw[List.getElem_range] at W;subst W
   refine⟨(show i<k by simpa using L),λx H3 y=>?_⟩
   obtain⟨e3,e4⟩:=y;subst e3 e4;exact⟨J,I2.push (Rep.ofS (d:=.int (lo+i)) rfl)⟩
 ·unfold zc5 at hi
  exact(show k<=i by simpa using hi)
def Zp(O:X.mg "range" = none)(ha:PAD A X [a] t1)(Y:Gl X "range" := by rfl)(hs:starEach [a] X.env=[(false,eval a X.env)]:=by rfl):PID A X tg (.Call (.Name "range" p) [a] [] pos) (xk9 t1):=by
 exists 
   (zl7 Y O ha hs).imp λsg H R h => by
    obtain⟨rho,n,P,ds,vs,I,ht,hQ⟩:=h;refine⟨rho,n,_,ds,vs,I,ht,λws H' n' es' ⟨os,J⟩ W k=>?_⟩;obtain⟨j,rfl,h1,h2,k⟩:=k;obtain⟨J1,L⟩:=J.split W;obtain⟨v,rfl,r⟩:=kO L
    exact⟨j,by rw[r.int_inv],h1,h2,hQ _ H' n' _ [] [] ⟨os,J1⟩ rfl zU4 k⟩
def Xu:D->Option (Bool × List D)
 |.lst es=>some (true,es)
 |.tup es=>some (false,es)
 |_=>none
theorem Rep.seq{K:W.Frag}{G:QqE}{Z:QqA}{H:Hp}{v:V}{b:Bool}{es:List D}:∀{d:D},Xu d=some (b,es)->Rep K G Z H d v->∃a xs,v=.ref a/\SqZ K Z H b a xs/\Reps K G Z H es xs
 |.lst fs,h,r=>by cases h;exact r.lst_inv
 |.tup fs,h,r=>by cases h;exact r.tup_inv
 |.non,h,_=>by cases h
 |.bl _,h,_=>by cases h
 |.int _,h,_=>by cases h
 |.str _,h,_=>by cases h
 |.ty _,h,_=>by cases h
 |.st,h,_=>by cases h
 |.own _,h,_=>by cases h
 |.owT _ _,h,_=>by cases h
 |.prT _,h,_=>by cases h
 |.fz _,h,_=>by cases h
def WN(xs ys:List D):List D:=List.zipWith (λx y=>D.tup [x,y]) xs ys
def xk7(t:TAD):TID:=λrho n P=>t rho n λes J=>∃d1 d2 O xs L ys,es=[d1,d2]/\Xu d1=some (O,xs)/\Xu d2=some (L,ys)/\P (WN xs ys) J
def zU3{d1 d2:D}{l1 l2:Addr}{b1 b2:Bool}{xs ys:List D}(h1:Xu d1=some (b1,xs))(h2:Xu d2=some (b2,ys)):JIs A (Itz A.K b1 b2 l1 l2) [d1,d2] [.ref l1,.ref l2] (WN xs ys):=λn rho sg H ds vs i ⟨os,I⟩=>by
 obtain⟨I1,r1⟩:=AmO.pop (d:=d1) (v:=.ref l1) (ds:=d2::ds) (vs:=.ref l2::vs) I;obtain⟨I2,r2⟩:=I1.pop;obtain⟨a1,us,e1,L,W⟩:=r1.seq h1;obtain⟨a2,ws,e2,J,O⟩:=r2.seq h2;cases e1;cases e2;refine⟨λd e=>?_,λhi=>⟨us,ws,L.sq,J.sq,?_⟩⟩
 ·unfold WN at e;rw[List.getElem?_zipWith] at e
  cases Y:xs[i]? with
  |none=>rw[Y] at e;cases e
  | some x =>
   cases q2:ys[i]? with
   |none=>rw[Y,q2] at e;cases e
   |some y=>
    rw[Y,q2] at e;cases e;obtain⟨u,eu,ru⟩:=W.get Y;obtain⟨w,ew,rw'⟩:=O.get q2;refine⟨⟨us,ws,u,w,L.sq,J.sq,eu,ew⟩,λv H3 yy=>?_⟩;obtain⟨T,hT,rfl,k⟩:=yy;obtain⟨u',w',eu',ew',rfl⟩:=k us ws L.sq J.sq;rw[eu] at eu';cases eu';rw[ew] at ew';cases ew';exact⟨os,I.newTup (.cons ru (.cons rw' .nil)) hT⟩
 ·rw[W.length,O.length];unfold WN at hi;rw[wD] at hi;lia
def XD{es:List Expr}{kk:Nat}{ps:Pos}(hK:X.K=A.K)(hm:X.mg "zip" = none)(ha:PAD A X [a,b] t1)(hg:Gl X "zip" := by rfl)(hs:starEach [a,b] X.env=[(false,eval a X.env),(false,eval b X.env)]:=by rfl)(W:starEach [b] X.env=[(false,eval b X.env)]:=by rfl) :
  PID A X (.Tuple es kk ps) (.Call (.Name "zip" p) [a,b] [] pos) (xk7 t1):=by
 exists (xe8 hg hm ha hs W).imp λsg H R h=>by
   obtain⟨rho,n,P,ds,vs,I,ht,hQ⟩:=h;refine⟨rho,n,_,ds,vs,I,ht,λws H' n' es' ⟨os,J⟩ hl k=>?_⟩;obtain⟨d1,d2,b1,xs,b2,ys,rfl,h1,Y,k⟩:=k;obtain⟨J1,rs⟩:=J.split hl;obtain⟨v1,v2,rfl,r1,r2⟩:=VP rs;obtain⟨a1,us,rfl,O,ac⟩:=r1.seq h1;obtain⟨a2,ws',rfl,L,aa⟩:=r2.seq Y;rw[hK];exact⟨b1,b2,a1,a2,us,ws',rfl,O.sq,L.sq,hQ _ H' n' _ [d1,d2] [.ref a1,.ref a2] ⟨os,J⟩ rfl (zU3 h1 Y) k⟩
end
section
variable {A:AC}{X:Cx}{tg iter elt:Expr}{ifs:List Expr}{scope:Scope}{own M:List Str}{pos:Pos}{it:TID}{g:TGD}{tt:TBD}{te:TD}
def zf6(it:TID)(own:Nat)(g:TGD)(tt:TBD)(te:TD):TD:=λrho n P=>it rho n λitems Y=>items.length<=sizeLine/\∃J:Nat->List D->Nat->Prop,J 0 [] Y /\
 (∀i d L n,items[i]?=some d->J i L n->g d (replicate own none++rho) λrho'=>rho'.drop own=rho/\tt rho' n λc O=>if c=true then te rho' O λe W=>J (i+1) (L++[e]) W else J (i+1) L O) /\
 ∀L n,J items.length L n->P (.lst L) n
def xn6:TBD:=λ_ n P=>P true n
def PTs.imp{X:Cx}{e:List Expr}{t t':TT}(h:PTs X e t)(hi:∀sg H Q,t' sg H Q->t sg H Q):PTs X e t':=by exists λJ s sg H Q I q=>h J s sg H Q I (hi _ _ _ q)
def yU{X:Cx}:PTs X [] (zb8 A xn6):=by
 exists zP1.imp λsg H Q h=>by
   obtain⟨rho,n,P,ds,vs,I,ht,J⟩:=h;exact J true H n I ht
def zi8{sg:St}{H:Hp}{Q:VK}{m:Nat}{rho:Rho}{n:Nat}{P:D->Nat->Prop}{ds:List D}{vs:List V}(I:Am A n rho sg H ds vs)(ht:zf6 it m g tt te rho n P)
  (hQ:∀os n' H' fs xs p,AmO A os n' rho sg H' ds vs->Reps A.K A.G (Zof A os) H' fs xs->H' p=none->P (.lst fs) n'->Q (.ref p) (upd H' p (.lst xs))):zy2 (iOf A it) m (gOf A m g) (zb8 A tt) (tOf A te) sg H Q:=by
 refine⟨rho,n,_,ds,vs,I,ht,λJ H' n' items es ws I1 hl hJ k=>?_⟩;obtain⟨hsz,W,w0,turn,fin⟩:=k
 refine⟨λi mm O H=>mm=items.length-i/\i<=items.length/\O.length<=i/\∃L n,O.length=L.length/\Am A n rho sg H (es++(L++ds)) (ws++(O++vs))/\W i L n,
  ⟨items.length,rfl,wo _,zn _,[],n',rfl,I1,w0⟩,?_⟩
 rintro i mm O H3 ⟨rfl,hi,ag,L,n3,aa,⟨os,I3⟩,w3⟩;obtain⟨j1,j2⟩:=hJ n3 rho sg H3 (L++ds) (O++vs) i ⟨os,I3⟩
 by_cases Y:i<items.length
 ·refine .inr ⟨(j1 items[i] (by simp [Y])).1, by lia, λx H4 y => ?_⟩
  obtain⟨al,I4⟩:=(j1 items[i] (by simp[Y])).2 x H4 y
  refine⟨replicate m none++rho,n3,_,items[i],es++(L++ds),ws++(O++vs),⟨_,I4.front m⟩,turn i items[i] L n3 (by simp[Y]) w3,λrho' sg' ⟨af,I5⟩ e5 k5=>?_⟩
  obtain⟨k5,k6⟩:=k5
  have e6:sg'.drop m=sg:=by rw[e5,yL (by simp)]
  refine⟨e6,rho',n3,_,es++(L++ds),ws++(O++vs),⟨af,I5⟩,k6,λc H6 n6 ⟨ae,I6⟩ k7=>?_⟩
  cases c with
  |false=>
   obtain⟨ad,I7⟩:=I6.back k5 e6
   exact⟨items.length-(i+1),w5,rfl,Y,w5,L,n6,aa,⟨ad,I7⟩,k7⟩
  |true=>
   rw[if_pos rfl] at k7 ⊢;refine⟨rho',n6,_,es++(L++ds),ws++(O++vs),⟨ae,I6⟩,k7,λv H8 n8 d ⟨ak,I8⟩ k8=>?_⟩;obtain⟨ac,I9⟩:=I8.back k5 e6;obtain⟨aj,rv⟩:=I9.pop;obtain⟨ai,r1⟩:=aj.split hl;obtain⟨ah,r2⟩:=ai.split aa
   refine⟨items.length-(i+1),w5,rfl,Y,by rw[zy,List.length_singleton];lia,L++[d],n8,by simp[aa],⟨ac,(ah.join (r2.append (.cons rv .nil))).join r1⟩,k8⟩
 ·have e : i = items.length := by lia
  subst e;refine .inl ⟨j2 (zn _),zD ag hsz,λD hD=>?_⟩;obtain⟨I4,r1⟩:=I3.split hl;obtain⟨I5,r2⟩:=I4.split aa;exact hQ os n3 _ L O D I5 r2 hD (fin L n3 w3)
def Qr{sg:St}{H:Hp}{Q:VK}{m:Nat}(h:tOf A (zf6 it m g tt te) sg H Q):zy2 (iOf A it) m (gOf A m g) (zb8 A tt) (tOf A te) sg H Q:=by
 obtain⟨rho,n,P,ds,vs,I,ht,O⟩:=h;exact zi8 I ht λos n' H' fs xs p J r L k=>O _ _ n' _ ⟨os,J.newLst r L⟩ k
def vC(ok:CompOk X scope M)(hc:X.calm=true)(hi:PID A X tg iter it)(W:∀C J O L,PGD A (wS X scope own M C J O L) own.length tg g)(ht:∀C J O L,PTs (wS X scope own M C J O L) ifs (zb8 A tt))
  (Y:∀C J O L,PD A (wS X scope own M C J O L) elt te) (hs:∀x,foldedSetIterable iter X.env x=pure x:=by intro _;rfl):PD A X (.ListComp elt [⟨tg,iter,ifs,0⟩] scope pos) (zf6 it own.length g tt te):=by
 exists 
   (zQ2 ok hc hi W ht Y hs).imp λ_ _ _=>Qr
end
structure EndsD where
 nx:Rho->Nat->Prop
 rt:D->Nat->Prop
 bk:Rho->Nat->Prop:=λ_ _=>False
 ct:Rho->Nat->Prop:=λ_ _=>False
abbrev TSD:=EndsD->Rho->Nat->Prop
structure EOk(A:AC)(E:zH8)(F:EndsD)(ds:List D)(vs:List V):Prop where
 nx:∀rho n sg H,Am A n rho sg H ds vs->F.nx rho n->E.nx sg H
 rt:∀d n v rho sg H,Am A n rho sg H (d::ds) (v::vs)->F.rt d n->E.rt v H
 bk:∀rho n sg H,Am A n rho sg H ds vs->F.bk rho n->E.bk sg H
 ct:∀rho n sg H,Am A n rho sg H ds vs->F.ct rho n->E.ct sg H
def sOf(A:AC)(t:TSD):TS:=λE sg H=>∃rho n F ds vs,Am A n rho sg H ds vs/\t F rho n/\EOk A E F ds vs
@[irreducible] def PSD(A:AC)(X:Cx)(s:Stmt)(t:TSD):Prop:=PS X s (sOf A t)
@[irreducible] def zg1(A:AC)(X:Cx)(s:List Stmt)(t:TSD):Prop:=PSs X s (sOf A t)
section
variable {A:AC}{X:Cx}{st:Stmt}{rest:List Stmt}{t u:TSD}{e a b:Expr}{te:TD}{tc:TBD}{pos:Pos}
def xa5:TSD:=λF rho n=>F.nx rho n
def Ws(t u:TSD):TSD:=λF rho n=>t { F with nx:=u F } rho n
def yj:zg1 A X [] xa5:=by
 exists zl0.imp λE sg H h=>by
   obtain⟨rho,n,F,ds,vs,I,ht,ok⟩:=h;exact ok.nx _ _ _ _ I ht
def zG(h1:PSD A X st t)(J:zg1 A X rest u):zg1 A X (st::rest) (Ws t u):=by
 exists (VR h1 J).imp λE sg H h=>by
   obtain⟨rho,n,F,ds,vs,I,ht,ok⟩:=h;exact⟨rho,n,{ F with nx:=u F },ds,vs,I,ht,⟨λrho' n' sg' H' I' k=>⟨rho',n',F,ds,vs,I',k,ok⟩,ok.rt,ok.bk,ok.ct⟩⟩
def zU(h1:PSD A X st t):zg1 A X [st] t:=by exists zP2 h1
def xv0(te:TD):TSD:=λF rho n=>te rho n F.rt
def xQ(J:PD A X e te):PSD A X (.Return (some e) pos) (xv0 te):=by
 exists (zJ2 J).imp λE sg H h=>by
   obtain⟨rho,n,F,ds,vs,I,ht,ok⟩:=h;exact⟨rho,n,_,ds,vs,I,ht,λv H' n' d I' k=>ok.rt _ _ _ _ _ _ I' k⟩
def sIf(c:TBD)(t u:TSD):TSD:=λF rho n=>c rho n λb J=>if b=true then t F rho J else u F rho J
def vt{c:Expr}{O L:List Stmt}(W:PTD A X c tc)(ha:zg1 A X O t)(Y:zg1 A X L u):PSD A X (.If c O L pos) (sIf tc t u):=by
 exists (xD8 W ha Y).imp λE sg H h=>by
   obtain⟨rho,n,F,ds,vs,I,ht,ok⟩:=h;refine⟨rho,n,_,ds,vs,I,ht,λc H' n' J k=>?_⟩
   cases c with
   |true=>exact⟨rho,n',F,ds,vs,J,k,ok⟩
   |false=>exact⟨rho,n',F,ds,vs,J,k,ok⟩
def zc4(i:Nat)(te:TD):TSD:=λF rho n=>i<rho.length/\te rho n λd J=>F.nx (rho.set i (some d)) J
def yS{i:Nat}{x:Str}{pos':Pos}(Y:X.N.Nodup)(hi:X.N[i]?=some x)(hx:Loc X.env.scope x)(W:PD A X e te)(hs:swapsWith e (some (.Name x pos')) pos.line X.env=pure false:=by rfl)(O:X.fn x=true\/X.env.scope.names.lookup x=some .local:=by first |exact .inl rfl |exact .inr rfl |assumption) :
  PSD A X (.Assign [.Name x pos'] e pos) (zc4 i te):=by
 exists (UQ Y hi hx W hs O).imp λE sg H h=>by
   obtain⟨rho,n,F,ds,vs,I,⟨L,ht⟩,ok⟩:=h;exact⟨rho,n,_,ds,vs,I,ht,λv H' n' d ⟨os,J⟩ k=>ok.nx _ _ _ _ ⟨_,J.set L⟩ k⟩
def Zn{i:Nat}{x:Str}{pos' O:Pos}{tg iter W:Expr}{ifs:List Expr}{L:Scope}{own M:List Str}{it:TID}{g:TGD}{tt:TBD}(hN:X.N.Nodup)(ac:X.N[i]?=some x)(hx:Loc X.env.scope x)(ok:CompOk X L M)(hc:X.calm=true)(hi:PID A X tg iter it)
  (hg:∀C Y H2 fp,PGD A (wS X L own M C Y H2 fp) own.length tg g) (ht:∀C Y H2 fp,PTs (wS X L own M C Y H2 fp) ifs (zb8 A tt)) (he:∀C Y H2 fp,PD A (wS X L own M C Y H2 fp) W te)
  (aa:swapsWith (.ListComp W [⟨tg,iter,ifs,0⟩] L pos) (some (.Name x pos')) O.line X.env=pure true:=by rfl) (hf:X.fn x=true\/X.env.scope.names.lookup x=some .local:=by first |exact .inl rfl |exact .inr rfl |assumption)
  (hs:∀x,foldedSetIterable iter X.env x=pure x:=by intro _;rfl):PSD A X (.Assign [.Name x pos'] (.ListComp W [⟨tg,iter,ifs,0⟩] L pos) O) (zc4 i (zf6 it own.length g tt te)):=by
 exists 
   (zc8 hN ac hx ok hc hi hg ht he aa hf hs).imp λE sg H h => by
    obtain⟨rho,n,F,ds,vs,I,⟨hl,ht⟩,ok⟩:=h;exact Qr (A:=A) ⟨rho,n,_,ds,vs,I,ht,λv H' n' d ⟨os,J⟩ k=>ok.nx _ _ _ _ ⟨_,J.set hl⟩ k⟩
def xu8(te:TD)(g:TGD):TSD:=λF rho n=>te rho n λd J=>g d rho λrho'=>F.nx rho' J
def jo{L:Expr}{g:TGD}{m:Nat}(Y:PD A X e te)(W:PGD A X m L g)(hs:swapsWithSole [L] e pos.line X.env=pure false:=by rfl)(O:swappedStores [L] e X.env=pure none:=by rfl)
  (h1:(assignEach [L] X.env).map (·.2)=[assign L X.env]:=by rfl):PSD A X (.Assign [L] e pos) (xu8 te g):=by
 exists (zl3 Y W hs O h1).imp λE sg H h=>by
   obtain⟨rho,n,F,ds,vs,I,ht,ok⟩:=h;exact⟨rho,n,_,ds,vs,I,ht,λv H' n' d J k=>⟨rho,n',_,d,ds,vs,J,k,λrho' sg' J' _ k'=>ok.nx _ _ _ _ J' k'⟩⟩
def xv2(i j:Nat)(t:TAD):TSD:=λF rho n=>i<rho.length/\j<rho.length/\t rho n λes J=>∃d d',es=[d,d']/\F.nx ((rho.set i (some d)).set j (some d')) J
def zP3{i j:Nat}{x y:Str}{ta:TAD}{Y W pt:Pos}{kt k2 L}(hc:X.calm=true)(hN:X.N.Nodup)(hi:X.N[i]?=some x)(hj:X.N[j]?=some y)(ac:i≠j)
  (hx:X.env.scope.names.lookup x=some .local) (hy:X.env.scope.names.lookup y=some .local) (ha:PAD A X [a,b] ta)
  (hw:swappedStores [.Tuple [.Name x Y,.Name y W] kt pt] (.Tuple [a,b] k2 L) X.env=pure (some [x,y]):=by rfl)
  (hs:swapsWithSole [.Tuple [.Name x Y,.Name y W] kt pt] (.Tuple [a,b] k2 L) pos.line X.env=pure false:=by rfl) :
  PSD A X (.Assign [.Tuple [.Name x Y,.Name y W] kt pt] (.Tuple [a,b] k2 L) pos) (xv2 i j ta):=by
 exists (zJ3 hc hN hi hj ac hx hy ha hw hs).imp λE sg H h=>by
   obtain⟨rho,n,F,ds,vs,I,⟨hl,aa,ht⟩,ok⟩:=h;refine⟨rho,n,_,ds,vs,I,ht,λws H' n' es ⟨os,J⟩ O k=>?_⟩;obtain⟨d,d',rfl,k⟩:=k;obtain⟨J1,rs⟩:=J.split O;obtain⟨v,v',rfl,r,r'⟩:=VP rs;refine⟨v,v',rfl,ok.nx _ _ _ _ ?_ k⟩;have J2:AmO A os n' rho sg H' (d::d'::ds) (v::v'::vs):=(J1.push r').push r
   exact⟨_,(J2.set hl).set (by simpa using aa)⟩
def xH9(it:TID)(g:TGD)(tb:TSD):TSD:=λF rho n=>it rho n λitems L=>∃J:Nat->Rho->Nat->Prop,J 0 rho L /\
 (∀i d rho n,items[i]?=some d->J i rho n->g d rho λrho'=>tb { F with nx:=J (i+1),ct:=J (i+1),bk:=F.nx } rho' n)/\∀rho n,J items.length rho n->F.nx rho n
def qt{tg iter:Expr}{body:List Stmt}{it:TID}{g:TGD}{tb:TSD}{m:Nat}(hp:PassesOwn (model X.prog X.w) X.A X.env X.xe)(hc:X.calm=true)(hi:PID A X tg iter it)(hg:PGD A X m tg g)(hb:zg1 A X body tb)
  (hs:∀x,foldedSetIterable iter X.env x=pure x:=by intro _;rfl):PSD A X (.For tg iter body [] pos) (xH9 it g tb):=by
 exists (xe5 hp hc hi hg hb hs).imp λE sg H h=>by
   obtain⟨rho,n,F,ds,vs,I,ht,ok⟩:=h;refine⟨rho,n,_,ds,vs,I,ht,λJ H' n' items es ws I1 hl hJ k=>?_⟩;obtain⟨W,w0,turn,fin⟩:=k;refine⟨λi mm sg H=>mm=items.length-i/\i<=items.length/\∃rho n,Am A n rho sg H (es++ds) (ws++vs)/\W i rho n,⟨items.length,rfl,wo _,rho,n',I1,w0⟩,?_⟩;rintro i mm ad H3 ⟨rfl,hi,O,n3,I3,w3⟩;obtain⟨j1,j2⟩:=hJ n3 O ad H3 ds vs i I3
   by_cases Y:i<items.length
   ·refine .inr ⟨(j1 items[i] (by simp [Y])).1, λsg' H' => ∃ rho n, Am A n rho sg' H' (es ++ ds) (ws ++ vs) /\ W (i + 1) rho n, λsg' H' ⟨rho', n', I', w'⟩ => ⟨items.length - (i + 1), by lia, rfl, Y, rho', n', I', w'⟩, λx H4 y => ?_⟩
    have I4:=(j1 items[i] (by simp[Y])).2 x H4 y
    refine⟨O,n3,_,items[i],es++ds,ws++vs,I4,turn i items[i] O n3 (by simp[Y]) w3,λrho' sg' I5 _ k5=>⟨rho',n3,{ F with nx:=W (i+1),ct:=W (i+1),bk:=F.nx },es++ds,ws++vs,I5,k5,?_⟩⟩
    refine⟨λL n6 aa H6 I6 k6=>⟨L,n6,I6,k6⟩,λd n6 v L aa H6 ⟨ac,I6⟩ k6=>ok.rt _ _ _ _ _ _ ⟨ac,I6.under hl⟩ k6,λL n6 aa H6 ⟨ac,I6⟩ k6=>ok.nx _ _ _ _ ⟨ac,(I6.split hl).1⟩ k6,λL n6 aa H6 I6 k6=>⟨L,n6,I6,k6⟩⟩
   ·have e : i = items.length := by lia
    subst e;obtain⟨os,I3⟩:=I3;exact .inl ⟨j2 (zn _),ok.nx _ _ _ _ ⟨os,(I3.split hl).1⟩ (fin O n3 w3)⟩
def xv4(te:TD):TSD:=λF rho n=>te rho n λ_ J=>F.nx rho J
def AmO.setOwn{os:List (Nat × Addr)}{n:Nat}{rho:Rho}{sg:St}{H:Hp}{ds es:List D}{vs xs:List V}{i:Nat}{p:Addr}(I:AmO A os n rho sg H ds vs)(hi:i<rho.length)(L:H p=none)(r:Reps A.K A.G (Zof A os) H es xs) :
  ∃os',AmO A os' n (rho.set i (some (.own es))) (sg.set i (some (.ref p))) (upd H p (.lst xs)) ds vs:=by
 have O:∀a u,H a=some u->upd H p (.lst xs) a=some u:=λa u e=>by rw[xZ (yc e L)];exact e
 refine⟨(i,p)::os.filter λq=>decide (q.1≠i),?_⟩
 have Y:∀a,H a≠none->Zof A ((i,p)::os.filter λq=>decide (q.1≠i)) a->Zof A os a:=λa ha z=>by
  rcases z with z |⟨q,J,e⟩
  ·exact .inl z
  ·rcases zk.mp J with rfl | J
   ·exact absurd (by rw[<- e];exact L) ha
   ·exact .inr ⟨q,(zt.mp J).1,e⟩
 have h0:A.H0 p=none:=by
  cases q:A.H0 p with
  |none=>rfl
  |some o=>
   by_cases e:A.G=some p
   ·obtain⟨x,y,z,w,_⟩:=I.st p e;rw[w] at L;cases L
   ·have:=I.fr p o e q;rw[this] at L;cases L
 refine⟨by simp[I.len],λj c e=>?_,Reps.mono Y (λa u _ e=>O a u e) _ _ I.pend,?_,λq J=>?_,λa e=>?_,I.gz,λa u h e=>O a u (I.fr a u h e),I.z0⟩
 ·by_cases W : j = i
  ·subst W;rw[zW hi] at e;cases e
   exact⟨.ref p,zW (by rw[<- I.len];exact hi),p,xs,rfl,xo,wX,Reps.mono Y (λa u _ e=>O a u e) _ _ r⟩
  ·rw [xb (Ne.symm W)] at e;obtain⟨u,e1,e2⟩:=I.slot j c e
   exact⟨u,by rw[xb (Ne.symm W)];exact e1,SlotR.mono Y (λa u _ e=>O a u e) (λa ys m q=>⟨zj _ (zt.mpr ⟨m,by simpa using W⟩),O a _ q⟩) _ _ e2⟩
 ·refine wb.mpr ⟨λq J => ?_, I.nd.filter _⟩;obtain⟨m1,m2⟩:=zt.mp J
  refine⟨λz=>by simp[<- z] at m2,λz=>(I.fresh q m1).2.2.ne ?_⟩
  have z':p=q.2:=z;rw[<- z'];exact L
 ·rcases zk.mp J with rfl | J
  ·exact⟨h0,λz=>(I.z0.1 p z).ne h0,by show Hot (upd H p _ p);rw[wX];exact Hot.lst⟩
  ·obtain⟨f1,f2,f3⟩:=I.fresh q (zt.mp J).1;exact⟨f1,f2,f3.of λu w=>O _ _ w⟩
 ·obtain⟨x,y,z,q,rr⟩:=I.st a e;exact⟨x,y,z,O _ _ q,rr⟩
def xv3(i:Nat)(t:TAD):TSD:=λF rho n=>i<rho.length/\t rho n λes J=>es.length<=sizeLine/\F.nx (rho.set i (some (.own es))) J
def XB{i:Nat}{x:Str}{pos' pos2:Pos}{O:List Expr}{W:TAD}(hN:X.N.Nodup)(hi:X.N[i]?=some x)(hx:Loc X.env.scope x)(ha:PAD A X O W)(hf:X.fn x=true\/X.env.scope.names.lookup x=some .local:=by first |exact .inl rfl |exact .inr rfl |assumption)
  (hs:swapsWith (.List O pos2) (some (.Name x pos')) pos.line X.env=pure false:=by rfl):PSD A X (.Assign [.Name x pos'] (.List O pos2) pos) (xv3 i W):=by
 exists (UQ hN hi hx (zl8 ha) hs hf).imp λE sg H h=>by
   obtain⟨rho,n,F,ds,vs,I,⟨hl,ht⟩,ok⟩:=h
   refine⟨rho,n,_,ds,vs,I,ht,λws H' n' es ⟨os,J⟩ L k=>⟨by rw[L];exact k.1,λp hp=>?_⟩⟩
   obtain⟨J1,Y⟩:=J.split L;exact ok.nx _ _ _ _ (J1.setOwn hl hp Y) k.2
def AmO.own{os:List (Nat × Addr)}{n:Nat}{rho:Rho}{sg:St}{H:Hp}{ds es es':List D}{vs xs':List V}{i:Nat}(I:AmO A os n rho sg H ds vs)(hi:rho[i]?=some (some (.own es))) :
  ∃a xs,sg[i]?=some (some (.ref a))/\H a=some (.lst xs)/\Reps A.K A.G (Zof A os) H es xs/\∀es' xs',Reps A.K A.G (Zof A os) H es' xs'->AmO A os n (rho.set i (some (.own es'))) sg (upd H a (.lst xs')) ds vs:=by
 obtain⟨v,J,a,xs,rfl,W,hH,rs⟩:=I.slot i _ hi;have aa:i<rho.length:=(zu.mp hi).1;have za:Zof A os a:=.inr ⟨_,W,rfl⟩
 have hf:∀(xs':List V) b u,¬ Zof A os b->H b=some u->upd H a (.lst xs') b=some u:=λxs' b u nz e=>by
  rw[xZ λz=>nz (by rw[z];exact za)];exact e
 have uniq:∀j,(j,a)∈os->j=i:=λj O=>by
  by_cases L:j=i
  ·exact L
  ·have key : ∀ (l : List (Nat × Addr)), l.Pairwise (λp q => p.1 ≠ q.1 /\ p.2 ≠ q.2) -> (j, a) ∈ l -> (i, a) ∈ l -> False := by
    intro l
    induction l with
    |nil=>intro _ h;simp at h
    |cons c l ih=>
     intro hp h1 Y;obtain⟨p1,p2⟩:=wb.mp hp
     rcases zk.mp h1 with J |h1<;>rcases zk.mp Y with e2 |Y
     ·rw[<- e2] at J;exact L (Prod.mk.inj J).1
     ·exact(p1 _ Y).2 (by rw[<- J])
     ·exact(p1 _ h1).2 (by rw[<- e2])
     ·exact ih p2 h1 Y
   exact(key os I.nd O W).elim
 obtain⟨ad,ac,ae⟩:=I.fresh _ W
 refine⟨a,xs,J,hH,rs,λes' xs' r=>⟨by simp[I.len],λj c e=>?_,Reps.mono (λ_ _ z=>z) (hf xs') _ _ I.pend,I.nd,λq hq=>?_,λb e=>?_,I.gz,λb u h e=>?_,I.z0⟩⟩
 ·by_cases O : j = i
  ·subst O;rw[zW aa] at e;cases e;exact⟨.ref a,J,a,xs',rfl,W,wX,Reps.mono (λ_ _ z=>z) (hf xs') _ _ r⟩
  ·rw [xb (Ne.symm O)] at e;obtain⟨u,e2,e3⟩:=I.slot j c e
   exact⟨u,e2,SlotR.mono (λ_ _ z=>z) (hf xs') (λb ys m q=>⟨m,by rw[xZ λz=>O (uniq j (by rw[<- z];exact m))];exact q⟩) _ _ e3⟩
 ·obtain ⟨f1, f2, f3⟩ := I.fresh q hq;refine⟨f1,f2,?_⟩
  by_cases e:q.2=a
  ·rw[e,wX];exact Hot.lst
  ·rw[xZ e];exact f3
 ·obtain ⟨x, y, z, q, rr⟩ := I.st b e
  exact⟨x,y,z,by rw[xZ λw=>ac (by rw[<- w];exact I.gz b e)];exact q,rr⟩
 ·rw [xZ λw => by rw [w, ad] at e; cases e]
  exact I.fr b u h e
def AmO.freeze{os:List (Nat × Addr)}{n:Nat}{rho:Rho}{sg:St}{H:Hp}{ds es:List D}{vs:List V}{i:Nat}(I:AmO A os n rho sg H ds vs)(hi:rho[i]?=some (some (.own es))):∃os',AmO A os' n (rho.set i (some (.lst es))) sg H ds vs:=by
 obtain⟨v,W,a,xs,rfl,hm,hH,rs⟩:=I.slot i _ hi;have aa:i<rho.length:=(zu.mp hi).1;refine⟨os.filter λq=>decide (q.1≠i),?_⟩
 have sub:∀b,H b≠none->Zof A (os.filter λp=>decide (p.1≠i)) b->Zof A os b:=λb _ z=>by
  rcases z with z |⟨p,L,e⟩
  ·exact .inl z
  ·exact .inr ⟨p,(zt.mp L).1,e⟩
 have key:∀(l:List (Nat × Addr)),l.Pairwise (λp q=>p.1≠q.1/\p.2≠q.2)->(i,a)∈l->∀q∈l,q.2=a->q.1=i:=by
  intro l
  induction l with
  |nil=>intro _ h;simp at h
  |cons c l ih=>
   intro L h1 q hq J;obtain⟨p1,p2⟩:=wb.mp L
   rcases zk.mp h1 with W |h1<;>rcases zk.mp hq with O |h2
   ·rw[O,<- W]
   ·exact absurd (by rw[<- W,J]) (p1 _ h2).2
   ·exact absurd (by rw[<- O,J]) (p1 _ h1).2
   ·exact ih p2 h1 q h2 J
 refine⟨by simp[I.len],λj c e=>?_,Reps.mono sub (λ_ _ _ e=>e) _ _ I.pend,I.nd.filter _,λp L=>I.fresh p (zt.mp L).1,I.st,I.gz,I.fr,I.z0⟩
 by_cases Y:j=i
 ·subst Y;rw[zW aa] at e;cases e;refine⟨.ref a,W,Rep.lst_mk ⟨λz=>?_,hH⟩ (Reps.mono sub (λ_ _ _ e=>e) _ _ rs)⟩
  rcases z with z |⟨p,L,e⟩
  ·exact(I.fresh _ hm).2.1 z
  ·obtain⟨m1,m2⟩:=zt.mp L;have:=key os I.nd hm p m1 e;simp[this] at m2
 ·rw [xb (Ne.symm Y)] at e;obtain⟨u,O,e3⟩:=I.slot j c e
  exact⟨u,O,SlotR.mono sub (λ_ _ _ e=>e) (λb ys m q=>⟨zt.mpr ⟨m,by simpa using Y⟩,q⟩) _ _ e3⟩
def xo3(i:Nat)(t:TSD):TSD:=λF rho n=>∃es,rho[i]?=some (some (.own es))/\t F (rho.set i (some (.lst es))) n
def Zo(i:Nat)(h:PSD A X st t):PSD A X st (xo3 i t):=by
 exists PS.imp h λE sg H q=>by
   obtain⟨rho,n,F,ds,vs,⟨os,I⟩,⟨es,hi,ht⟩,ok⟩:=q;exact⟨_,n,F,ds,vs,I.freeze hi,ht,ok⟩
end
section
variable {A:AC}{X:Cx}{e a b:Expr}{es:List Expr}{te ta tb:TD}{t1:TAD}{pos:Pos}
def Jy(i:Nat)(t:TAD):TSD:=λF rho n=>∃es,rho[i]?=some (some (.own es))/\es.length<sizeLine/\t rho n λds J=>∃d,ds=[d]/\F.nx (rho.set i (some (.own (es++[d])))) J
def kY{i:Nat}{x:Str}{px O L:Pos}(ha:PAD A X [e] t1)(hK:X.K=A.K)(hN:X.N[i]?=some x:=by rfl)(hv:Vis X.env.scope x:=by first |exact Or.inl rfl |exact Or.inr (Or.inl rfl) |exact Or.inr (Or.inr rfl))(hd:(x == ("__debug__" : Str))=false:=by decide)
  (af:(x == ("__classdict__" : Str))=false:=by decide) (aa:attributeBase (.Name x px) "append" X.env (eval (.Name x px) X.env)=eval (.Name x px) X.env:=by rfl)
  (ac : ((backTo L (starEach [e] X.env)).all (λx => !x.1) && (backToKw L (keywordEach [] X.env)).all (λx => x.1.isSome)
   && decide ([e].length+([]:List Keyword).length+(if ([]:List Keyword).isEmpty then 0 else 1)<30))=true:=by rfl)
  (Y:(O.endLine == L.line)=true:=by rfl) (hs:starEach [e] X.env=(false,eval e X.env)::starEach [] X.env:=by rfl) (W:(backTo L (starEach [] X.env)).any (·.1)=false:=by rfl)
  (ae:swapsWith (.Call (.Attribute (.Name x px) "append" O) [e] [] L) none pos.line X.env=pure false:=by rfl) :
  PSD A X (.Expr (.Call (.Attribute (.Name x px) "append" O) [e] [] L) pos) (Jy i t1):=by
 exists 
   (JC (xf5 PySem.F.plainAttrs_list PySem.F.slot_list_append PySem.F.type_list_append zo6 (qC hN hv hd af) ha aa ac Y hs W) ae).imp λE sg H h => by
    obtain⟨rho,n,F,ds,vs,⟨os,I⟩,⟨es,hi,hz,ht⟩,ok⟩:=h;obtain⟨a,xs,e1,hH,rs,_⟩:=I.own (es':=es) (xs':=[]) hi;refine⟨.ref a,e1,.inl ⟨rfl,xs,SqL.of hH⟩,rho,n,_,ds,vs,⟨os,I⟩,ht,λws H' n' fs ⟨os',J⟩ hl k=>?_⟩;obtain⟨d,rfl,k⟩:=k;obtain⟨J1,ad⟩:=J.split hl;obtain⟨v,rfl,r⟩:=kO ad;obtain⟨a',xs',e2,hH',rs',up⟩:=J1.own (es':=es) (xs':=[]) hi;rw[e1] at e2;cases e2
    exact⟨a,xs',v,rfl,rfl,hH',by rw[rs'.length];exact hz,ok.nx _ _ _ _ ⟨os',up _ _ (rs'.append (.cons r .nil))⟩ k⟩
def Zt(o:Option (Option D))(p:List D->Prop):Prop:=∃es,o=some (some (.own es))/\p es
def zL6(i:Nat)(tb:TD):TD:=λrho n P=>Zt rho[i]? λes=>tb rho n λd J=>∃j c,d=.int j/\atI es j=some c/\P c J
def zB8{i:Nat}{x:Str}{px:Pos}(hb:PD A X b tb)(L:Uv b)(hN:X.N[i]?=some x:=by rfl)(hv:Vis X.env.scope x:=by first |exact Or.inl rfl |exact Or.inr (Or.inl rfl) |exact Or.inr (Or.inr rfl))(hd:(x == ("__debug__" : Str))=false:=by decide)
  (O:(x == ("__classdict__" : Str))=false:=by decide):PD A X (.Subscript (.Name x px) b pos) (zL6 i tb):=by
 exists 
   (zP8 JO (qC hN hv hd O) hb L).imp λsg H Q h => by
    obtain⟨rho,n,P,ds,vs,⟨os,I⟩,⟨es,hi,ht⟩,hQ⟩:=h;obtain⟨a,xs,Y,hH,rs,_⟩:=I.own (es':=es) (xs':=[]) hi;refine⟨.ref a,Y,rho,n,_,ds,vs,⟨os,I⟩,ht,λv H' n' d ⟨os',J⟩ k=>?_⟩;obtain⟨j,c,rfl,hc,k⟩:=k;obtain⟨J1,r⟩:=J.pop;obtain⟨a',xs',W,hH',rs',_⟩:=J1.own (es':=es) (xs':=[]) hi;rw[Y] at W;cases W;obtain⟨w,e3,rw'⟩:=Uu rs' hc;exact⟨a,xs',j,w,rfl,r.int_inv,SqL.of hH',e3,hQ w H' n' c ⟨os',J1.push rw'⟩ k⟩
def zN5(i:Nat)(te tb:TD):TSD:=λF rho n=>Zt rho[i]? λes=>te rho n λd L=>tb rho L λd2 J=>∃j m,d2=.int j/\ixN es.length j=some m/\F.nx (rho.set i (some (.own (es.set m d)))) J
def xm4(i:Nat)(tb:TD):TD:=λrho n P=>rho[i]?=some (some .st)/\tb rho n λd J=>∃j:Int,d=.int j/\0<=j/\j<J/\∀z:Int,0<=z->(j=1->z<2147483647)->P (.int z) J
def zK8{n:Nat}{i:Int}(h0:0<=i)(h1:i<n):ixN n i=some i.toNat:=by unfold ixN;rw[if_pos h0,if_pos h1]
def jp{i:Nat}{x:Str}{px:Pos}(hb:PD A X b tb)(Y:Uv b)(hN:X.N[i]?=some x:=by rfl)(hv:Vis X.env.scope x:=by first |exact Or.inl rfl |exact Or.inr (Or.inl rfl) |exact Or.inr (Or.inr rfl))(hd:(x == ("__debug__" : Str))=false:=by decide)
  (aa:(x == ("__classdict__" : Str))=false:=by decide):PD A X (.Subscript (.Name x px) b pos) (xm4 i tb):=by
 exists 
   (zP8 JO (qC hN hv hd aa) hb Y).imp λsg H Q h => by
    obtain⟨rho,n,P,ds,vs,⟨os,I⟩,⟨hi,ht⟩,hQ⟩:=h;obtain⟨v,e1,e2⟩:=I.slot i _ hi
    obtain⟨a,ha,rfl⟩:∃a,A.G=some a/\v=.ref a:=by
     have e3:=SlotR.rep (d:=.st) rfl e2;unfold Rep at e3;exact e3
    refine⟨.ref a,e1,rho,n,_,ds,vs,⟨os,I⟩,ht,λw H' n' d ⟨os',J⟩ k=>?_⟩;obtain⟨j,rfl,h0,h3,k⟩:=k;obtain⟨J1,r⟩:=J.pop;obtain⟨W,_,_,hH,p1,p2,p3⟩:=J1.st a ha;obtain⟨L,rfl⟩:=xV h0
    have O:L<W.length:=w5
    have ej:W[L]?=some W[L]:=zd O
    refine⟨a,_,(L:Int),.int W[L],rfl,r.int_inv,SqL.of hH,?_,hQ _ H' n' _ ⟨os',J1.push (Rep.ofS (d:=.int W[L]) rfl)⟩ (k W[L] (p2 _ (wl O)) λe=>p3 _ (by rw[<- ej];congr 1;lia))⟩
    unfold atI
    rw[zK8 w5 (by rw[zg];lia)]
    simp[O]
def zE8(J:List Int)(j:Nat)(z:Int):(J.map V.int).set j (.int z)=(J.set j z).map V.int:=by rw[List.map_set]
def AmO.setSt{os:List (Nat × Addr)}{n:Nat}{rho:Rho}{sg:St}{H:Hp}{ds:List D}{vs:List V}{a:Addr}{J:List Int}(I:AmO A os n rho sg H ds vs)(ha:A.G=some a)(h:J.length=n/\(∀x∈J,0<=x)/\∀x,J[1]?=some x->x<2147483647) :
  AmO A os n rho sg (upd H a (.lst (J.map V.int))) ds vs:=by
 have Y:Zof A os a:=.inl (I.gz a ha)
 have W:∀b u,¬ Zof A os b->H b=some u->upd H a (.lst (J.map V.int)) b=some u:=λb u nz e=>by
  rw[xZ λw=>nz (by rw[w];exact Y)];exact e
 have L:∀p∈os,p.2≠a:=λp hp e=>(I.fresh p hp).2.1 (by rw[e];exact I.gz a ha)
 refine⟨I.len,λj c e=>?_,Reps.mono (λ_ _ w=>w) W _ _ I.pend,I.nd,λq O=>?_,λb e=>?_,I.gz,λb u h e=>?_,I.z0⟩
 ·obtain ⟨u, e1, e2⟩ := I.slot j c e
  exact⟨u,e1,SlotR.mono (λ_ _ w=>w) W (λb ys m q=>⟨m,by rw[xZ (L _ m)];exact q⟩) _ _ e2⟩
 ·obtain ⟨f1, f2, f3⟩ := I.fresh q O
  exact⟨f1,f2,by rw[xZ (L q O)];exact f3⟩
 ·rw[ha] at e;cases e;exact⟨J,0,0,wX,h⟩
 ·rw [xZ λw => h (by rw [w]; exact ha)]
  exact I.fr b u h e
def zI3(i:Nat)(te tb:TD):TSD:=λF rho n=>rho[i]?=some (some .st)/\te rho n λd L=>tb rho L λd2 J=>∃j z:Int,d=.int z/\d2=.int j/\0<=j/\j<J/\0<=z/\(j=1->z<2147483647)/\F.nx rho J
def XA{i:Nat}{x:Str}{L ps:Pos}(he:PD A X e te)(hb:PD A X b tb)(hN:X.N[i]?=some x:=by rfl)(hv:Vis X.env.scope x:=by first |exact Or.inl rfl |exact Or.inr (Or.inl rfl) |exact Or.inr (Or.inr rfl))(hd:(x == ("__debug__" : Str))=false:=by decide)
  (ac : (x == ("__classdict__" : Str)) = false := by decide) (ha : ∀ v, assign (.Subscript (.Name x L) b ps) X.env v = (do
   let O <- holding [v] (eval (.Name x L) X.env)
   let iv <- holding [v,O] (eval b X.env)
   standAt ps
   holding [v,O,iv] (setItem O iv v)
   release [v,O,iv] []):=by intro _;rfl) (hs:swapsWithSole [.Subscript (.Name x L) b ps] e pos.line X.env=pure false:=by rfl) (hw:swappedStores [.Subscript (.Name x L) b ps] e X.env=pure none:=by rfl)
  (h1:(assignEach [.Subscript (.Name x L) b ps] X.env).map (·.2)=[assign (.Subscript (.Name x L) b ps) X.env]:=by rfl) :
  PSD A X (.Assign [.Subscript (.Name x L) b ps] e pos) (zI3 i te tb):=by
 exists 
   (zl3 he (xf0 (qC hN hv hd ac) hb zy3 ha) hs hw h1).imp λE sg H h => by
    obtain⟨rho,n,F,ds,vs,⟨os,I⟩,⟨hi,ht⟩,ok⟩:=h;obtain⟨v,e1,e2⟩:=I.slot i _ hi
    obtain⟨a,hG,rfl⟩:∃a,A.G=some a/\v=.ref a:=by
     have e3:=SlotR.rep (d:=.st) rfl e2;unfold Rep at e3;exact e3
    refine⟨rho,n,_,ds,vs,⟨os,I⟩,ht,λv H' n' d J k=>⟨.ref a,e1,rho,n',_,d::ds,v::vs,J,k,λw H2 n2 d2 ⟨Y,J2⟩ k2=>?_⟩⟩;obtain⟨j,z,rfl,rfl,h0,h3,hz,h2,k2⟩:=k2;obtain⟨J3,r2⟩:=J2.pop;obtain⟨J4,r1⟩:=J3.pop;obtain⟨zs,_,_,hH,p1,p2,p3⟩:=J4.st a hG;rw[r1.int_inv,r2.int_inv];obtain⟨W,rfl⟩:=xV h0
    have aa:W<zs.length:=w5
    refine⟨a,_,(W:Int),W,rfl,rfl,hH,by rw[zK8 w5 (by rw[zg];lia)];simp,?_⟩
    rw[zE8]
    refine ok.nx _ _ _ _ ⟨Y,J4.setSt hG ⟨by rw[List.length_set];exact p1,λx hx=>?_,λx hx=>?_⟩⟩ k2
    ·rcases List.mem_or_eq_of_mem_set hx with hx | rfl
     ·exact p2 x hx
     ·exact hz
    ·by_cases e : W = 1
     ·subst e;rw[zW aa] at hx;cases hx;exact h2 rfl
     ·rw[xb e] at hx;exact p3 x hx
def Vp(es:List D)(lo hi:Option Int):List D:=(es.drop (HT.sIx es.length 0 lo)).take (HT.sIx es.length es.length hi-HT.sIx es.length 0 lo)
def VO{K:W.Frag}{G:QqE}{Z:QqA}{H:Hp}{fs:List D}{xs:List V}(h:Reps K G Z H fs xs)(lo hi:Option Int):Reps K G Z H (Vp fs lo hi) (zG5 xs lo hi):=by
 unfold Vp zG5;rw[h.length];exact(h.drop _).take _
def xV6(lo hi:Option Int)(ta:TD):TD:=λrho n P=>ta rho n λd J=>∃fs,(d=.lst fs\/d=.fz fs)/\P (.lst (Vp fs lo hi)) J
def xl7(es:List D):List D:=es.zipIdx.map λp=>.tup [.int (p.2:Nat),p.1]
def xl1(t:TAD):TID:=λrho n P=>t rho n λes J=>∃fs,es=[.lst fs]/\P (xl7 fs) J
end
abbrev TF:=List D->Nat->(D->Nat->Prop)->Prop
def spD(K:W.Frag)(k:Nat)(t:TF):Sp:=λvs H Q _=>∃(G:QqE) (Z:QqA) (n:Nat) (P:D->Nat->Prop) (ds:List D),ds.length=k/\Reps K G Z H ds vs/\zx1 G n H/\(∀a,G=some a->Z a)/\ZOk K G Z H/\t ds n P /\
 ∀v H' n' d,(∀a o,G≠some a->H a=some o->H' a=some o)->zx1 G n' H'->Rep K G Z H' d v->P d n'->Q v H'
def startD(N:List Str)(ds:List D):Rho:=ds.map some++replicate (N.length-ds.length) none
def jD{K:W.Frag}{G:QqE}{Z:QqA}{H:Hp}{N:List Str}{ds:List D}{vs:List V}{n:Nat}(L:Reps K G Z H ds vs)(st:zx1 G n H)(gz:∀a,G=some a->Z a)(z0:ZOk K G Z H) :
  AmO ⟨K,G,Z,H⟩ [] n (startD N ds) (start N vs) H [] []:=by
 have O:=L.length
 have Y:∀a,Zof ⟨K,G,Z,H⟩ [] a->Z a:=λa z=>by
  rcases z with z |⟨p,J,_⟩
  ·exact z
  ·simp at J
 have rs':Reps K G (Zof ⟨K,G,Z,H⟩ []) H ds vs:=Reps.mono (λa _ z=>Y a z) (λ_ _ _ e=>e) _ _ L
 refine⟨by simp[startD,start,O],λi d e=>?_,.nil,.nil,λp J=>by simp at J,st,gz,λa o _ e=>e,z0⟩
 unfold startD at e
 by_cases hi:i<ds.length
 ·rw [xB (by simpa using hi), zw] at e
  cases q:ds[i]? with
  |none=>rw[q] at e;cases e
  |some c=>
   rw[q] at e;cases e;obtain⟨v,e1,r⟩:=rs'.get q;refine⟨v,?_,SlotR.of r⟩;unfold start
   rw[xB (by rw[zg,O];exact hi),zw,e1]
   rfl
 ·rw [xk (by simpa using hi), xl] at e
  split at e<;>cases e
section
variable {P:Program}{w:World}{K:W.Frag}{mg:QqM}{base:Heap}
def Fun.okD{x J:Str}{st:Stmt}{f:Addr}{fd:FuncData}{N ps:List Str}{k:Nat}{t:TF}{tb:TSD}(F:Fun K x J st f fd)(S:FnScope N ps (xi st))
  (body : ∀ (L : Value) (W : Around) (outer : List Env) (s : Shared) (H : Hp) (E : XK) (G : Option Addr) (Z : Addr -> Prop), Room k (W.deeper (envOfC J (xi st) s.heap.objs.size f L)) ->
   zg1 ⟨K,G,Z,H⟩ (zx0 CX0 P w K mg base N J (xi st) f L W outer s H E).nox (vP st) tb)
  (O:∀ds n Q,ds.length=ps.length->t ds n Q->tb { nx:=λ_ n=>Q .non n,rt:=Q } (startD N ds) n):FnOk P w K mg base CX0 (k+1) f fd ps (spD K ps.length t):=by
 exists (by
   refine F.ok S (λvs H Q E h=>?_) (λL W outer s H vs Q E hr h=>?_)
   ·obtain⟨G,Z,n,R,ds,hl,Y,_⟩:=h;rw[Y.length];exact hl
   ·obtain ⟨G, Z, n, R, ds, hl, Y, aa, gz, z0, ht, hQ⟩ := h;refine⟨_,body L W outer s H E G Z hr,startD N ds,n,_,[],[],⟨[],jD Y aa gz z0⟩,O ds n R hl ht,?_⟩;have zz:∀ (os:List (Nat × Addr)) a,Z a->Zof ⟨K,G,Z,H⟩ os a:=λos a z=>.inl z;refine⟨λrho' n' sg' H' ⟨os,I⟩ q=>?_,λd n' v rho' sg' H' ⟨os,I⟩ q=>?_,λ_ _ _ _ _ q=>q.elim,λ_ _ _ _ _ q=>q.elim⟩
    ·exact hQ .non H' n' .non I.fr I.st (Rep.ofS rfl) q
    ·exact hQ v H' n' d I.fr I.st (Rep.mono (λa _ z=>zz os a z) (λ_ _ _ e=>e) _ _ I.pop.2) q)
end
section
variable {A:AC}{X:Cx}{e:Expr}{es:List Expr}{t1:TAD}{pos p:Pos}
def dFn(k:Nat)(t:TF)(t1:TAD):TD:=λrho n P=>t1 rho n λes J=>es.length=k/\t es J P
def AmO.called{os:List (Nat × Addr)}{n n':Nat}{rho:Rho}{sg:St}{H H':Hp}{ds:List D}{vs:List V}(I:AmO A os n rho sg H ds vs)(fr:∀a o,A.G≠some a->H a=some o->H' a=some o)(st:zx1 A.G n' H'):AmO A os n' rho sg H' ds vs:=by
 have O:∀b u,¬ Zof A os b->H b=some u->H' b=some u:=λb u W e=>fr b u (λz=>W (.inl (I.gz b z))) e;have J:∀p∈os,A.G≠some p.2:=λp Y e=>(I.fresh p Y).2.1 (I.gz _ e);refine⟨I.len,λj c e=>?_,Reps.mono (λ_ _ w=>w) O _ _ I.pend,I.nd,λq L=>?_,st,I.gz,λb u h e=>fr b u h (I.fr b u h e),I.z0⟩
 ·obtain⟨u,e1,e2⟩:=I.slot j c e;exact⟨u,e1,SlotR.mono (λ_ _ w=>w) O (λb ys m q=>⟨m,fr _ _ (J _ m) q⟩) _ _ e2⟩
 ·obtain⟨f1,f2,f3⟩:=I.fresh q L;exact⟨f1,f2,f3.of λu z=>fr _ _ (J q L) z⟩
def zQ8{x:Str}{f:Addr}{fd:FuncData}{ps:List Str}{t:TF}{kk k:Nat}(F:FnOk X.prog X.w X.K X.mg X.base CX0 kk f fd ps (spD X.K k t))(hr:Room kk X.A)(hm:X.mg x=some (.ref f))(hk:W.keepIn X.K (.ref f)=true)(hb:Binds X.K fd ps [])(hK:X.K=A.K)
  (ha:PAD A X (e::es) t1) (hg:Gl X x:=by rfl) (Y:(x == ("__debug__" : Str))=false:=by decide) (he:starEach (e::es) X.env=(false,eval e X.env)::starEach es X.env:=by rfl) (O:(backTo pos (starEach es X.env)).any (·.1)=false:=by rfl) :
  PD A X (.Call (.Name x p) (e::es) [] pos) (dFn k t t1):=by
 exists (VT F hr hg hm hk hb .nil zC0 ha Y he O).imp λsg H Q h=>by
   obtain⟨rho,n,R,ds,vs,I,ht,hQ⟩:=h;refine⟨rho,n,_,ds,vs,I,ht,λws H' n' es' ⟨os,J⟩ hl k=>?_⟩;obtain⟨L,rs⟩:=J.split hl;rw[ww,hK];refine⟨A.G,Zof A os,n',R,es',k.1,rs,L.st,λa z=>.inl (L.gz a z),L.zO,k.2,λv H2 n2 d fr st r q=>hQ v H2 n2 d ⟨os,(L.called fr st).push r⟩ q⟩
end
section
variable {A:AC}{X:Cx}{tg a:Expr}{ta:TD}{pos p:Pos}
def xF8(K:W.Frag)(L:TE):TI:=λsg H R=>L sg H λx J=>∃l,x=.ref l/\(((∃xs,SqL K J l xs)/\R (Itl K l) J)\/((∃xs,SqT K J l xs)/\R (Itt K l) J))
def zP5{l:Expr}{tl:TE}(hl:PE X l tl):PI X tg l (xF8 X.K tl):=by
 intro L s sg H R I h;refine thn (hl L s sg H _ I h) λv J ⟨x,H1,O,r1,Y⟩=>?_;obtain⟨c,e,Y⟩:=Y;subst e;cases r1
 have W:∀b∈[J.heap.objs.size],FpOk X L H1 b:=λb hb=>by
  obtain rfl:b=J.heap.objs.size:=by simpa using hb
  exact O.fpOk (zn _) (O.hok.fresh (zn _))
 rcases Y with ⟨⟨xs,hq⟩,q⟩ |⟨⟨xs,hq⟩,q⟩
 ·obtain⟨its,rv,pl,hz⟩:=O.list hq;exact wQ pl.isList ⟨J.heap.objs.size,[J.heap.objs.size],_,_,H1,rfl,O.kept (t':=J.toks) λb o e=>ze _ e,zh8 c _,⟨_,zr _ rfl,rfl,rfl⟩,W,q⟩
 ·obtain⟨its,rv,pl,hz⟩:=O.tuple hq;exact wpAny_pyIter_tuple (show J.heap.IsTuple c its.toArray from pl) ⟨J.heap.objs.size,[J.heap.objs.size],_,_,H1,rfl,O.kept (t':=J.toks) λb o e=>ze _ e,zb6 c _,⟨_,zr _ rfl,rfl,rfl⟩,W,q⟩
def xk8(ta:TD):TID:=λrho n P=>ta rho n λd J=>∃es,(d=.lst es\/d=.tup es)/\P es J
def vo(hK:X.K=A.K)(ha:PD A X a ta):PID A X tg a (xk8 ta):=by
 exists (zP5 ha).imp λsg H R h=>by
   obtain⟨rho,n,P,ds,vs,I,ht,hQ⟩:=h;refine⟨rho,n,_,ds,vs,I,ht,λv H' n' d ⟨os,J⟩ k=>?_⟩;obtain⟨es,hd,k⟩:=k;have r:=J.pop.2;rw[hK]
   rcases hd with rfl |rfl
   ·obtain ⟨l, xs, rfl, sq, rs⟩ := r.lst_inv;refine⟨l,rfl,.inl ⟨⟨xs,sq.sq⟩,hQ _ H' n' es [.lst es] [.ref l] ⟨os,J⟩ rfl (λn2 ac ad H2 aa W i ⟨Y,I2⟩=>?_) k⟩⟩;obtain⟨I3,r2⟩:=AmO.pop (d:=.lst es) (v:=.ref l) (ds:=aa) (vs:=W) I2;obtain⟨l',xs2,e,L,O⟩:=r2.lst_inv;cases e
    refine⟨λd e=>?_,λhi=>⟨xs2,L.sq,by rw[O.length];exact hi⟩⟩
    obtain⟨v,e1,rv⟩:=O.get e;refine⟨⟨xs2,v,L.sq,e1⟩,λx H3 y=>?_⟩;obtain⟨e3,y⟩:=y;subst e3;have e4:=y xs2 L.sq;rw[e1] at e4;cases e4;exact⟨Y,I2.push rv⟩
   ·obtain ⟨l, xs, rfl, sq, rs⟩ := r.tup_inv;refine⟨l,rfl,.inr ⟨⟨xs,sq.sq⟩,hQ _ H' n' es [.tup es] [.ref l] ⟨os,J⟩ rfl (λn2 ac ad H2 aa W i ⟨Y,I2⟩=>?_) k⟩⟩;obtain⟨I3,r2⟩:=AmO.pop (d:=.tup es) (v:=.ref l) (ds:=aa) (vs:=W) I2;obtain⟨l',xs2,e,L,O⟩:=r2.tup_inv;cases e
    refine⟨λd e=>?_,λhi=>⟨xs2,L.sq,by rw[O.length];exact hi⟩⟩
    obtain⟨v,e1,rv⟩:=O.get e;refine⟨⟨xs2,v,L.sq,e1⟩,λx H3 y=>?_⟩;obtain⟨e3,y⟩:=y;subst e3;have e4:=y xs2 L.sq;rw[e1] at e4;cases e4;exact⟨Y,I2.push rv⟩
end
structure Fn(P:Program)(w:World)(K:W.Frag)(mg:QqM)(base:Heap)(x:Str)(kk k:Nat)(t:TF):Prop where
 ex:∃(f:Addr) (fd:FuncData) (ps:List Str),FnOk P w K mg base CX0 kk f fd ps (spD K k t)/\mg x=some (.ref f)/\W.keepIn K (.ref f)=true/\Binds K fd ps []
def yf{A:AC}{X:Cx}{e:Expr}{es:List Expr}{O:TAD}{pos p:Pos}{x:Str}{t:TF}{W k:Nat}(F:Fn X.prog X.w X.K X.mg X.base x W k t)(Y:Room W X.A)(hK:X.K=A.K)
  (ha:PAD A X (e::es) O) (hg:Gl X x:=by rfl) (L:(x == ("__debug__" : Str))=false:=by decide) (he:starEach (e::es) X.env=(false,eval e X.env)::starEach es X.env:=by rfl) (J:(backTo pos (starEach es X.env)).any (·.1)=false:=by rfl) :
  PD A X (.Call (.Name x p) (e::es) [] pos) (dFn k t O):=by
 exists (by
   obtain⟨f,fd,ps,h1,h2,h3,h4⟩:=F.ex
   exact zQ8 h1 Y h2 h3 h4 hK ha hg L he J)
structure Blt(mg:QqM):Prop where
 len:mg "len" = none
 abs:mg "abs" = none
 all:mg "all" = none
 any:mg "any" = none
 isi:mg "isinstance" = none
 int:mg "int" = none
 bool:mg "bool" = none
 str:mg "str" = none
 tuple:mg "tuple" = none
 list:mg "list" = none
 range:mg "range" = none
 zip:mg "zip" = none
 enum:mg "enumerate" = none
 max:mg "max" = none
 min:mg "min" = none
 sorted:mg "sorted" = none
def ki:bootBuiltins "len" = some (.builtin "len"):=x3
def zM1:bootBuiltins "abs" = some (.builtin "abs"):=x3
def xn3:bootBuiltins "all" = some (.builtin "all"):=x3
def xn2:bootBuiltins "any" = some (.builtin "any"):=x3
def za8:bootBuiltins "int" = some (.type "int"):=x3
def kh:bootBuiltins "tuple" = some (.type "tuple"):=x3
def Ut:bootBuiltins "list" = some (.type "list"):=x3
def isB(d:D)(p:Bool->Prop):Prop:=∃c,d=.bl c/\p c
@[simp] theorem xS5{b:Bool}{p:Bool->Prop}:isB (.bl b) p↔p b:=⟨fun⟨_,e,h⟩=>by cases e;exact h,λh=>⟨_,rfl,h⟩⟩
@[simp] theorem xy6{F rho n}:xa5 F rho n=F.nx rho n:=rfl
@[simp] theorem xJ1{t u F rho n}:Ws t u F rho n=t { F with nx:=u F } rho n:=rfl
@[simp] theorem xJ2{J F rho n}:xv0 J F rho n=J rho n F.rt:=rfl
@[simp] theorem xR4{c t u F rho n}:sIf c t u F rho n=c rho n λb J=>if b=true then t F rho J else u F rho J:=rfl
@[simp] theorem xJ0{i J F rho n}:zc4 i J F rho n=(i<rho.length/\J rho n λd L=>F.nx (rho.set i (some d)) L):=rfl
@[simp] theorem xI9{J g F rho n}:xu8 J g F rho n=J rho n λd L=>g d rho λrho'=>F.nx rho' L:=rfl
@[simp] theorem xJ5{i t F rho n}:xv3 i t F rho n=(i<rho.length/\t rho n λes J=>es.length<=sizeLine/\F.nx (rho.set i (some (.own es))) J):=rfl
@[simp] theorem xy7{J F rho n}:xv4 J F rho n=J rho n λ_ L=>F.nx rho L:=rfl
@[simp] theorem xJ6{i t F rho n}:xo3 i t F rho n=∃es,rho[i]?=some (some (.own es))/\t F (rho.set i (some (.lst es))) n:=rfl
@[simp] theorem xd1{i t F rho n}:Jy i t F rho n=∃es,rho[i]?=some (some (.own es))/\es.length<sizeLine/\t rho n λds J=>∃d,ds=[d]/\F.nx (rho.set i (some (.own (es++[d])))) J:=rfl
@[simp] theorem xr9{i d rho P}:zK9 i d rho P=(i<rho.length/\P (rho.set i (some d))):=rfl
@[simp] theorem xK4{i rho n P}:xN7 i rho n P=atV rho[i]? λd=>P d n:=rfl
@[simp] theorem xT8{d k}:atV (some (some d)) k=atD d k:=rfl
@[simp] theorem xM8{k}:atD .non k=k .non:=rfl
@[simp] theorem xM7{k b}:atD (.bl b) k=k (.bl b):=rfl
@[simp] theorem xM6{k b}:atD (.int b) k=k (.int b):=rfl
@[simp] theorem xM5{k b}:atD (.str b) k=k (.str b):=rfl
@[simp] theorem xM4{k b}:atD (.tup b) k=k (.tup b):=rfl
@[simp] theorem xM3{k b}:atD (.lst b) k=k (.lst b):=rfl
@[simp] theorem xM2{k b}:atD (.fz b) k=k (.fz b):=rfl
@[simp] theorem xM1{k}:atD .st k=k .st:=rfl
@[simp] theorem xM0{k a b}:atD (.dct a b) k=k (.dct a b):=rfl
@[simp] theorem xT9{d k}(h:we d=true):atD d k=k d:=propext ⟨λz=>(zw2 z).2,zb0 h⟩
@[simp] theorem xW8{d rho n P}:dC d rho n P=P d n:=rfl
@[simp] theorem xT4{L J tb rho n P}:dOp L J tb rho n P=J rho n λd1 W=>tb rho W λd2 O=>L d1 d2 λd=>P d O:=rfl
@[simp] theorem xC8{t rho n P}:zt2 t rho n P=t rho n λd n'=>isB d λb=>P b n':=rfl
@[simp] theorem xz4{d1 d2 k}:xc1 d1 d2 k=(d2=.non/\k (.bl (ZA d1))):=rfl
@[simp] theorem xp5{d1 d2 k}:zI5 d1 d2 k=(d2=.non/\k (.bl (!ZA d1))):=rfl
@[simp] theorem xL9{t u rho n P}:xO4 t u rho n P=t rho n λc J=>if c=true then u rho J P else P false J:=rfl
@[simp] theorem xT7{t u rho n P}:bOr t u rho n P=t rho n λc J=>if c=true then P true J else u rho J P:=rfl
@[simp] theorem xL8{t rho n P}:xG8 t rho n P=t rho n λc J=>P (!c) J:=rfl
@[simp] theorem xL7{rho n P}:xn6 rho n P=P true n:=rfl
@[simp] theorem xL6{J tb rho n P}:xO3 J tb rho n P=J rho n λd L=>isB d λc=>if c=true then tb rho L P else P (.bl false) L:=rfl
@[simp] theorem xT3{J tb rho n P}:dOr J tb rho n P=J rho n λd L=>isB d λc=>if c=true then P (.bl true) L else tb rho L P:=rfl
@[simp] theorem xL0{J rho n P}:xO1 J rho n P=J rho n λd L=>isB d λc=>P (.bl (!c)) L:=rfl
@[simp] theorem xT5{t J tb rho n P}:dIf t J tb rho n P=t rho n λc L=>if c=true then J rho L P else tb rho L P:=rfl
@[simp] theorem xM9{rho n P}:xG9 rho n P=P [] n:=rfl
@[simp] theorem xD5{t r rho n P}:xn9 t r rho n P=t rho n λd L=>r rho L λds J=>P (d::ds) J:=rfl
@[simp] theorem xK5{t rho n P}:xN8 t rho n P=t rho n λds J=>ds.length<=sizeLine/\P (.tup ds) J:=rfl
@[simp] theorem xL1{t rho n P}:xG5 t rho n P=t rho n λds J=>ds.length<=sizeLine/\P (.lst ds) J:=rfl
@[simp] theorem xD3{J t rho n P}:zG3 J t rho n P=t rho n λes L=>J es λd=>P d L:=rfl
@[simp] theorem xT6{k t J rho n P}:dFn k t J rho n P=J rho n λes L=>es.length=k/\t es L P:=rfl
@[simp] theorem xC3{J rho n P}:xk8 J rho n P=J rho n λd L=>∃es,(d=.lst es\/d=.tup es)/\P es L:=rfl
@[simp] theorem xC4{t rho n P}:xk9 t rho n P=t rho n λes J=>∃j:Int,es=[.int j]/\-(2^62)<=j/\j<2^62/\P (zc5 0 j.toNat) J:=rfl
@[simp] theorem xr8{t rho n P}:xl1 t rho n P=t rho n λes J=>∃fs,es=[.lst fs]/\P (xl7 fs) J:=rfl
@[simp] theorem xK8{lo hi J rho n P}:xV6 lo hi J rho n P=J rho n λd L=>∃fs,(d=.lst fs\/d=.fz fs)/\P (.lst (Vp fs lo hi)) L:=rfl
@[simp] theorem xC6{rho P}:xl4 [] rho P↔P rho:=⟨λh=>h.2,λh=>⟨rfl,h⟩⟩
@[simp] theorem xs0{g J d r rho P}:zL0 g J (d::r) rho P↔g d rho λrho'=>J r rho' P:=⟨fun⟨_,_,e,h⟩=>by cases e;exact h,λh=>⟨_,_,rfl,h⟩⟩
@[simp] theorem xC5{k J es rho P}:xl3 k J (.tup es) rho P↔(es.length=k/\J es rho P):=⟨fun⟨_,e,h⟩=>by cases e;exact h,λh=>⟨_,rfl,h⟩⟩
@[simp] theorem xR5{C g i j k}:rdI C g (.int i) (.int j) k=(C i j/\k (g i j)):=rfl
@[simp] theorem xJ8{g i j k}:zz5 g (.int i) (.int j) k=k (g i j):=rfl
@[simp] theorem xR6{f c d k}:rdB f (.bl c) (.bl d) k=k (.bl (f c d)):=rfl
@[simp] theorem zO7{es i k}:WV (.lst es) (.int i) k↔∃d,atI es i=some d/\k d:=⟨fun⟨_,_,d,e,e',h⟩=>by cases e' ;rcases e with e |e |e<;>cases e;exact⟨d,h⟩,fun⟨d,h⟩=>⟨_,_,d,.inl rfl,rfl,h⟩⟩
@[simp] theorem zk4{es i k}:WV (.tup es) (.int i) k↔∃d,atI es i=some d/\k d:=⟨fun⟨_,_,d,e,e',h⟩=>by cases e' ;rcases e with e |e |e<;>cases e;exact⟨d,h⟩,fun⟨d,h⟩=>⟨_,_,d,.inr (.inl rfl),rfl,h⟩⟩
@[simp] theorem xz3{es i k}:WV (.fz es) (.int i) k↔∃d,atI es i=some d/\k d:=⟨fun⟨_,_,d,e,e',h⟩=>by cases e' ;rcases e with e |e |e<;>cases e;exact⟨d,h⟩,fun⟨d,h⟩=>⟨_,_,d,.inr (.inr rfl),rfl,h⟩⟩
@[simp] theorem xA1{es fs k}:xc7 (.lst es) (.lst fs) k↔(es.length+fs.length<=sizeLine/\k (.lst (es++fs))):=⟨fun⟨_,_,e,e',h⟩=>by cases e;cases e';exact h,λh=>⟨_,_,rfl,rfl,h⟩⟩
@[simp] theorem zz9{es i k}:zk3 (.tup es) (.int i) k↔(es≠[]/\1<=i/\es.length*i.toNat<=sizeLine/\k (.tup (replicate i.toNat es).flatten)):=⟨fun⟨_,_,e,e',h⟩=>by cases e;cases e';exact h,λh=>⟨_,_,rfl,rfl,h⟩⟩
def zd2(es:List D)(p:D->D->Prop):Prop:=∃d d',es=[d,d']/\p d d'
@[simp] theorem xA2{a b p}:zd2 [a,b] p↔p a b:=⟨fun⟨_,_,e,h⟩=>by cases e;exact h,λh=>⟨_,_,rfl,h⟩⟩
@[simp] theorem xJ4{i j t F rho n}:xv2 i j t F rho n=(i<rho.length/\j<rho.length/\t rho n λes J=>zd2 es λd d'=>F.nx ((rho.set i (some d)).set j (some d')) J):=rfl
@[simp] theorem xz6{i j:Int}{k}:zO4 (.int i) (.int j) k↔k (.bl (decide (i=j))):=by
 have e:decide (ofS (.int i)=ofS (.int j))=decide (i=j):=by simp[ofS]
 unfold zO4;rw[e];exact⟨λh=>h.2.2.2,λh=>⟨rfl,rfl,rfl,h⟩⟩
@[simp] theorem xz7{i j:Bool}{k}:zO4 (.bl i) (.bl j) k↔k (.bl (decide (i=j))):=by
 have e:decide (ofS (.bl i)=ofS (.bl j))=decide (i=j):=by simp[ofS]
 unfold zO4;rw[e];exact⟨λh=>h.2.2.2,λh=>⟨rfl,rfl,rfl,h⟩⟩
@[simp] theorem xz1{i j:Int}{k}:xo4 (.int i) (.int j) k↔k (.bl (!decide (i=j))):=by
 have e:decide (ofS (.int i)=ofS (.int j))=decide (i=j):=by simp[ofS]
 unfold xo4;rw[e];exact⟨λh=>h.2.2.2,λh=>⟨rfl,rfl,rfl,h⟩⟩
@[simp] theorem xz2{i j:Bool}{k}:xo4 (.bl i) (.bl j) k↔k (.bl (!decide (i=j))):=by
 have e:decide (ofS (.bl i)=ofS (.bl j))=decide (i=j):=by simp[ofS]
 unfold xo4;rw[e];exact⟨λh=>h.2.2.2,λh=>⟨rfl,rfl,rfl,h⟩⟩
@[simp] theorem xB5{fs k}:zU2 [.lst fs] k↔k (.int fs.length):=⟨fun⟨_,e,h⟩=>by rcases e with e |e |e<;>cases e;exact h,λh=>⟨_,.inl rfl,h⟩⟩
@[simp] theorem zk5{fs k}:zU2 [.tup fs] k↔k (.int fs.length):=⟨fun⟨_,e,h⟩=>by rcases e with e |e |e<;>cases e;exact h,λh=>⟨_,.inr (.inl rfl),h⟩⟩
@[simp] theorem xB6{fs k}:zU2 [.fz fs] k↔k (.int fs.length):=⟨fun⟨_,e,h⟩=>by rcases e with e |e |e<;>cases e;exact h,λh=>⟨_,.inr (.inr rfl),h⟩⟩
@[simp] theorem xK0{i k}:xN6 [.int i] k↔k (.int (if i<0 then -i else i)):=⟨fun⟨_,e,h⟩=>by cases e;exact h,λh=>⟨_,rfl,h⟩⟩
@[simp] theorem xB9{i k}:xk1 [.bl i] k↔k (.int (if i then 1 else 0)):=⟨fun⟨_,e,h⟩=>by cases e;exact h,λh=>⟨_,rfl,h⟩⟩
@[simp] theorem xd4{fs k}:zq3 [.lst fs] k↔k (.tup fs):=⟨fun⟨_,e,h⟩=>by rcases e with e |e<;>cases e;exact h,λh=>⟨_,.inl rfl,h⟩⟩
@[simp] theorem xd3{fs k}:zq3 [.tup fs] k↔k (.tup fs):=⟨fun⟨_,e,h⟩=>by rcases e with e |e<;>cases e;exact h,λh=>⟨_,.inr rfl,h⟩⟩
@[simp] theorem xr4{fs k}:zU1 [.lst fs] k↔k (.lst fs):=⟨fun⟨_,e,h⟩=>by rcases e with e |e<;>cases e;exact h,λh=>⟨_,.inl rfl,h⟩⟩
@[simp] theorem xr2{fs k}:zU1 [.tup fs] k↔k (.lst fs):=⟨fun⟨_,e,h⟩=>by rcases e with e |e<;>cases e;exact h,λh=>⟨_,.inr rfl,h⟩⟩
@[simp] theorem xC9{i tb rho n P}:xm4 i tb rho n P=(rho[i]?=some (some .st)/\tb rho n λd J=>∃j:Int,d=.int j/\0<=j/\j<J/\∀z:Int,0<=z->(j=1->z<2147483647)->P (.int z) J):=rfl
@[simp] theorem xo8{i J tb F rho n}:zI3 i J tb F rho n=(rho[i]?=some (some .st)/\J rho n λd O=>tb rho O λd2 L=>∃j z:Int,d=.int z/\d2=.int j/\0<=j/\j<L/\0<=z/\(j=1->z<2147483647)/\F.nx rho L):=rfl
@[simp] theorem xS4:we .non=true:=rfl
@[simp] theorem xS3{b}:we (.bl b)=true:=rfl
@[simp] theorem xS2{b}:we (.int b)=true:=rfl
@[simp] theorem xS1{b}:we (.str b)=true:=rfl
@[simp] theorem xS0{b}:we (.tup b)=true:=rfl
@[simp] theorem xR9{b}:we (.lst b)=true:=rfl
@[simp] theorem xR8:we .st=true:=rfl
@[simp] theorem xR7{b}:we (.fz b)=true:=rfl
@[simp] theorem xT1:ZA .non=true:=rfl
@[simp] theorem xT0{b}:ZA (.bl b)=false:=rfl
@[simp] theorem xS9{b}:ZA (.int b)=false:=rfl
@[simp] theorem xS8{b}:ZA (.str b)=false:=rfl
@[simp] theorem xS7{b}:ZA (.tup b)=false:=rfl
@[simp] theorem xS6{b}:ZA (.lst b)=false:=rfl
@[simp] theorem xR3{b}:Xu (.lst b)=some (true,b):=rfl
@[simp] theorem xR2{b}:Xu (.tup b)=some (false,b):=rfl
@[simp] theorem xx7:(0<=sizeLine)=True:=by simp
@[simp] theorem xx6:(1<=sizeLine)=True:=by simp[sizeLine]
@[simp] theorem xx5:(2<=sizeLine)=True:=by simp[sizeLine]
@[simp] theorem xx4:(3<=sizeLine)=True:=by simp[sizeLine]
@[simp] theorem xx3:(4<=sizeLine)=True:=by simp[sizeLine]
@[simp] theorem xx2:(5<=sizeLine)=True:=by simp[sizeLine]
@[simp] theorem xx1:(6<=sizeLine)=True:=by simp[sizeLine]
@[simp] theorem xx0:(7<=sizeLine)=True:=by simp[sizeLine]
def wU{k:Nat}(h:k<=1000:=by decide):k<=sizeLine:=zD h w6
def lt_size{k:Nat}(h:k<=1000:=by decide):k<sizeLine:=Nat.lt_of_le_of_lt h w6
def QZ(own:Nat)(g:TGD)(W:TBD)(Y:TD)(rho:Rho)(P:D->Nat->Prop)(items:List D)(n1:Nat):Prop:=items.length<=sizeLine/\∃J:Nat->List D->Nat->Prop,J 0 [] n1 /\
 (∀i d L n,items[i]?=some d->J i L n->g d (replicate own none++rho) λrho'=>rho'.drop own=rho/\W rho' n λc O=>if c=true then Y rho' O λe n3=>J (i+1) (L++[e]) n3 else J (i+1) L O) /\
 ∀L n,J items.length L n->P (.lst L) n
@[simp] theorem xD2{it own g J L rho n P}:zf6 it own g J L rho n P=it rho n (QZ own g J L rho P):=rfl
def xi5(g:TGD)(tb:TSD)(F:EndsD)(rho:Rho)(items:List D)(L:Nat):Prop:=∃J:Nat->Rho->Nat->Prop,J 0 rho L /\
 (∀i d rho n,items[i]?=some d->J i rho n->g d rho λrho'=>tb { F with nx:=J (i+1),ct:=J (i+1),bk:=F.nx } rho' n)/\∀rho n,J items.length rho n->F.nx rho n
@[simp] theorem xJ7{it g tb F rho n}:xH9 it g tb F rho n=it rho n (xi5 g tb F rho):=rfl
def zG7{it:TID}{own:Nat}{g:TGD}{L:TD}{rho:Rho}{n:Nat}{P:D->Nat->Prop}{α:Type}(enc:α->D)(f:α->D)(xs:List α)
  (hi:∀R,R (xs.map enc) n->it rho n R) (hz:xs.length<=sizeLine) (Y:∀x∈xs,∀Q,Q (f x) n->g (enc x) (replicate own none++rho) λrho'=>rho'.drop own=rho/\L rho' n Q) (hP:P (.lst (xs.map f)) n):zf6 it own g xn6 L rho n P:=by
 refine hi _ ⟨by simpa using hz,λi J n'=>n'=n/\J=(xs.take i).map f,⟨rfl,rfl⟩,?_,?_⟩
 ·rintro i d J n' e ⟨rfl, rfl⟩;rw[zw] at e
  cases q:xs[i]? with
  |none=>rw[q] at e;cases e
  |some x=>
   rw[q] at e;cases e;have W:x∈xs:=zQ q;refine Y x W (λe O=>O=n'/\(xs.take i).map f++[e]=(xs.take (i+1)).map f) ⟨rfl,?_⟩;rw[xq,q];simp
 ·rintro J n' ⟨rfl,rfl⟩;rw[zg,wj];exact hP
def zw1{α:Type}{xs:List α}{i:Int}(h0:0<=i)(h1:i<xs.length):∃d,atI xs i=some d/\d∈xs:=by
 obtain⟨k,rfl⟩:=xV h0
 have hk:k<xs.length:=w5
 exact⟨xs[k],qh (by simp[hk]),wl hk⟩
@[simp] theorem xU2{α:Type}{a:α}{l:List α}:atI (a::l) 0=some a:=qh (j:=0) rfl
@[simp] theorem xU1{α:Type}{a b:α}{l:List α}:atI (a::b::l) 1=some b:=qh (j:=1) rfl
@[simp] theorem xU0{α:Type}{a b c:α}{l:List α}:atI (a::b::c::l) 2=some c:=qh (j:=2) rfl
@[simp] theorem xA3{es p}:Zt (some (some (.own es))) p↔p es:=⟨fun⟨_,e,h⟩=>by cases e;exact h,λh=>⟨_,rfl,h⟩⟩
@[simp] theorem xs4{i tb rho n P}:zL6 i tb rho n P=Zt rho[i]? λes=>tb rho n λd J=>∃j c,d=.int j/\atI es j=some c/\P c J:=rfl
@[simp] theorem xc9{i J tb F rho n}:zN5 i J tb F rho n=Zt rho[i]? λes=>J rho n λd O=>tb rho O λd2 L=>∃j m,d2=.int j/\ixN es.length j=some m/\F.nx (rho.set i (some (.own (es.set m d)))) L:=rfl
@[simp] theorem xK3:ixN 3 0=some 0:=rfl
@[simp] theorem xK2:ixN 3 1=some 1:=rfl
@[simp] theorem xK1:ixN 3 2=some 2:=rfl
def zH6(H:Hp):Prop:=∀b,H b=none\/(∃o xs,H b=some (.frz o (.lst xs)))\/∃q,H b=some (.cot q)
def UH(K:W.Frag):Sp:=λvs H Q _=>∃(a:Addr) (ns:List Int),vs=[.ref a]/\zH6 H/\SqL K H a (ns.map V.int)/\ns.length<=63/\(∀P q,qj K P q->H P=some (.cot q))/\∀H',(∀P q,H P=some (.cot q)->H' P=some (.cot q))->Q (.bl true) H'
def wG(ns:List Int):D:=.fz (ns.map D.int)
def kf(ns:List Int)(N:Nat):Rho:=some (wG ns)::replicate (N-1) none
def Vd(ns:List Int)(i N:Nat):Rho:=(kf ns N).set i (some .st)
theorem ZL{K:W.Frag}{G:QqE}{Z:QqA}{H:Hp}:∀{ns:List Int},Reps K G Z H (ns.map D.int) (ns.map V.int)
 |[]=>.nil
 |n::ns=>.cons (Rep.ofS (d:=.int n) rfl) ZL
theorem qR{K:W.Frag}{G:QqE}{Z:QqA}{H:Hp}:∀{ns:List Int}{xs:List V},Reps K G Z H (ns.map D.int) xs->xs=ns.map V.int
 |[],xs,h=>by unfold Reps at h;exact h
 |n::ns,xs,h=>by
  obtain⟨v,r,rfl,h1,J⟩:=Reps.split h;rw[h1.int_inv,qR J];rfl
section
variable {P:Program}{w:World}{K:W.Frag}{mg:QqM}{base:Heap}
def Fun.okLaw{x J:Str}{st:Stmt}{f:Addr}{fd:FuncData}{N:List Str}{p:Str}{k:Nat}{t:TSD}(F:Fun K x J st f fd)(S:FnScope N [p] (xi st))(Y:Nat)
  (body : ∀ (L : Value) (O : Around) (outer : List Env) (s : Shared) (H : Hp) (E : XK), Room k (O.deeper (envOfC J (xi st) s.heap.objs.size f L)) ->
   zg1 ⟨K,none,λ_=>False,H⟩ (zx0 CX0 P w K mg base N J (xi st) f L O outer s H E).nox (vP st) t)
  (h1:∀(ns:List Int),ns.length<=63->t { nx:=λ_ _=>False,rt:=λd _=>d=.bl true } (startD N [wG ns]) Y):FnOk P w K mg base CX0 (k+1) f fd [p] (UH K):=by
 exists (by
   refine F.ok S (λvs H Q E h=>?_) (λL O outer s H vs Q E hr h=>?_)
   ·obtain⟨a,ns,rfl,_⟩:=h;rfl
   ·obtain ⟨a, ns, rfl, hO, hS, hl, hT, k⟩ := h;refine⟨_,body L O outer s H E hr,?_⟩
    have rs:Reps K none (λ_=>False) H [wG ns] [.ref a]:=by
     refine .cons ?_ .nil;unfold wG Rep;refine⟨a,ns.map V.int,rfl,?_,ZL⟩
     rcases hS with (q |⟨o,q⟩) |q
     ·rcases hO a with z | ⟨o, xs, z⟩ | ⟨o, z⟩
      ·rw[z] at q;cases q
      ·rw[z] at q;cases q
      ·rw[z] at q;cases q
     ·exact .inl ⟨λz=>z,o,q⟩
     ·exact .inr (.inr q)
    refine⟨startD N [wG ns],Y,_,[],[],⟨[],jD rs (λb e=>by cases e) (λb e=>by cases e) ⟨λb e=>e.elim,λP q t=>⟨hT P q t,by simp⟩⟩⟩,h1 ns hl,?_⟩
    refine⟨λ_ _ _ _ _ q=>q.elim,λd n v W aa H2 ⟨ac,I2⟩ q=>?_,λ_ _ _ _ _ q=>q.elim,λ_ _ _ _ _ q=>q.elim⟩;subst q;rw[I2.pop.2.bl_inv]
    exact k H2 λP q e=>I2.fr P _ (by simp) e)
end
def xH8(i:Nat)(t:TF)(O:TAD)(L:TSD):TSD:=λF rho n=>∃ns:List Int,i<rho.length/\i≠0/\rho[0]?=some (some (wG ns))/\O rho n λes W=>∃j:Int,es=[wG ns,.int j]/\W=n/\t es n λd Y=>∃J:List Int,d=.lst (J.map D.int)/\J.length=n/\(∀x∈J,0<=x)/\(∀x,J[1]?=some x->x<2147483647) /\
 L { nx:=λrho' n'=>n'=n/\rho'.length=rho.length/\rho'[0]?=some (some (wG ns))/\F.nx (kf ns rho.length) n,rt:=λd n'=>n'=n/\kJ d=true/\F.rt d n,bk:=λrho' n'=>n'=n/\rho'.length=rho.length/\rho'[0]?=some (some (wG ns))/\F.bk (kf ns rho.length) n,ct:=λrho' n'=>n'=n/\rho'.length=rho.length/\rho'[0]?=some (some (wG ns))/\F.ct (kf ns rho.length) n } (Vd ns i rho.length) n
@[simp] theorem zX6{ns:List Int}:we (wG ns)=true:=rfl
@[simp] theorem zO8{ns:List Int}{k:D->Prop}:zU2 [wG ns] k↔k (.int ns.length):=by unfold wG;simp
def zo2{i:Nat}{t:TF}{O:TAD}{Y:TSD}{F:EndsD}{rho:Rho}{n:Nat}(ns:List Int)(hi:i<rho.length)(h0:i≠0)(hr:rho[0]?=some (some (wG ns)))(j:Int)(ht:O rho n λes J=>es=[wG ns,.int j]/\J=n)
  (W:∀(P P':List D->Nat->Prop),(∀es J,P es J->P' es J)->O rho n P->O rho n P')
  (h : t [wG ns, .int j] n λd n2 => ∃ L : List Int, d = .lst (L.map D.int) /\ L.length = n /\ (∀ x ∈ L, 0 <= x) /\ (∀ x, L[1]? = some x -> x < 2147483647) /\
   Y { nx:=λrho' n'=>n'=n/\rho'.length=rho.length/\rho'[0]?=some (some (wG ns))/\F.nx (kf ns rho.length) n,rt:=λd n'=>n'=n/\kJ d=true/\F.rt d n,bk:=λrho' n'=>n'=n/\rho'.length=rho.length/\rho'[0]?=some (some (wG ns))/\F.bk (kf ns rho.length) n,ct:=λrho' n'=>n'=n/\rho'.length=rho.length/\rho'[0]?=some (some (wG ns))/\F.ct (kf ns rho.length) n } (Vd ns i rho.length) n):xH8 i t O Y F rho n:=
 ⟨ns,hi,h0,hr,W _ _ (λes J ⟨e1,e2⟩=>⟨j,e1,e2,by rw[e1];exact h⟩) ht⟩
section
variable {A:AC}{X:Cx}{e:Expr}{es:List Expr}{t1:TAD}{t2:TSD}{pos p:Pos}
def Yr{K:W.Frag}{G G':QqE}{Z Z':QqA}{H H':Hp}{ns:List Int}{v:V}(h:Rep K G Z H (wG ns) v)(hz:∀a o u,¬ Z a->H a=some (.frz o u)->¬ Z' a/\H' a=some (.frz o u)):Rep K G' Z' H' (wG ns) v:=by
 unfold wG Rep at h ⊢;obtain⟨a,xs,rfl,sq,J⟩:=h
 refine⟨a,xs,rfl,?_,by rw[qR J];exact ZL⟩
 rcases sq with ⟨L,o,e⟩ |sq
 ·obtain⟨z1,z2⟩:=hz a o _ L e;exact .inl ⟨z1,o,z2⟩
 ·exact .inr sq
def zA3{x g:Str}{i:Nat}{t:TF}{kk:Nat}{pos' aa:Pos}{rest:List Stmt}(hG:A.G=none)(hN:X.N.Nodup)(hi:X.N[i]?=some x)(hx:Loc X.env.scope x)(F:Fn X.prog X.w X.K X.mg X.base g kk 2 t)(hr:Room kk X.A)(hK:X.K=A.K)
  (ha:PAD A X (e::es) t1) (h2:∀(c:Addr) (Z:QqA) (H0:Hp),zg1 ⟨A.K,some c,Z,H0⟩ X rest t2) (hg:Gl X g:=by rfl) (aq:(g == ("__debug__" : Str))=false:=by decide) (he:starEach (e::es) X.env=(false,eval e X.env)::starEach es X.env:=by rfl) (ak:(backTo pos (starEach es X.env)).any (·.1)=false:=by rfl)
  (hs:swapsWith (.Call (.Name g p) (e::es) [] pos) (some (.Name x pos')) aa.line X.env=pure false:=by rfl) (hf:X.fn x=true\/X.env.scope.names.lookup x=some .local:=by first |exact .inl rfl |exact .inr rfl |assumption) :
  zg1 A X (.Assign [.Name x pos'] (.Call (.Name g p) (e::es) [] pos) aa::rest) (xH8 i t t1 t2):=by
 exists (by
   obtain⟨f,fd,ps,f1,f2,f3,f4⟩:=F.ex;have c1:=UQ (pos:=aa) hN hi hx (VT (p:=p) f1 hr hg f2 f3 f4 .nil zC0 ha aq he ak) hs hf
   have c2:PSs X rest (λE' sg' H'=>∃c Z H0,sOf ⟨A.K,some c,Z,H0⟩ t2 E' sg' H'):=λah s' sg' H' D I q=>by
    obtain⟨c,Z,H0,q⟩:=q;exact h2 c Z H0 ah s' sg' H' D I q
   refine(VR c1 c2).imp λE sg H h=>?_;obtain⟨rho,n,F,ds,vs,I,⟨ns,hi',h0,aj,ht⟩,ok⟩:=h;refine⟨rho,n,_,ds,vs,I,ht,λws H' n' es' ⟨os',J⟩ hl k=>?_⟩;obtain⟨j,rfl,rfl,k⟩:=k;obtain⟨J1,rs⟩:=J.split hl;obtain⟨v1,v2,rfl,r1,r2⟩:=VP rs;have r1':Rep A.K none (λa=>Hot (H' a)/\¬ ∃o u,H' a=some (.frz o u)) H' (wG ns) v1:=Yr r1 λa o u _ e=>⟨λz=>z.2 ⟨o,u,e⟩,e⟩
   have r2':Rep A.K none (λa=>Hot (H' a)/\¬ ∃o u,H' a=some (.frz o u)) H' (.int j) v2:=by rw[r2.int_inv];exact Rep.ofS (d:=.int j) rfl
   rw[ww,hK]
   refine⟨none,λa=>Hot (H' a)/\¬ ∃o u,H' a=some (.frz o u),n',_,_,rfl,.cons r1' (.cons r2' .nil),λb e=>(by cases e),λb e=>(by cases e),⟨λb z=>z.1,λP q t=>⟨(J1.zO.2 P q t).1,by simp⟩⟩,k,λv H2 n2 d fr st r q=>?_⟩
   obtain⟨zs,rfl,q1,q2,q3,q⟩:=q;obtain⟨c,xs,rfl,sq,rr⟩:=r.lst_inv;rw[qR rr] at sq
   have hc:H' c=none:=by
    cases z:H' c with
    |none=>rfl
    |some o=>
     have z2:=fr c o (by simp) z
     rw[sq.2] at z2;cases z2
     exact absurd ⟨by rw[z];exact Hot.lst,fun⟨o,u,z3⟩=>by rw[z] at z3;cases z3⟩ sq.1
   have ne:∀{a:Addr}{o:HO},H' a=some o->a≠c:=λ{a o} e h=>by rw[h,hc] at e;cases e
   have back:∀{os:List (Nat × Addr)}{rho' O:Rho}{sg':St}{W:Hp}{ae:List D}{Y:List V},AmO ⟨A.K,some c,λb=>Zof A os' b\/b=c,H2⟩ os n' rho' sg' W ae Y->O.length=sg'.length->(∀j d,O[j]?=some (some d)->∃v,sg'[j]?=some (some v)/\Rep A.K A.G (Zof A []) W d v)->AmO A [] n' O sg' W ds vs:=λ{os rho' O sg' W ae Y} L am ai=>by
    have keep:∀a o,H' a=some o->W a=some o:=λa o e=>L.fr a o (λz=>ne e (zP z).symm) (fr a o (by simp) e)
    refine⟨am,λj d e=>?_,?_,.nil,λp hp=>(by simp at hp),λb e=>(by rw[hG] at e;cases e),J1.gz,λa o z e=>keep a o (J1.fr a o z e),J1.z0⟩
    ·obtain⟨v,e1,e2⟩:=ai j d e;exact⟨v,e1,SlotR.of e2⟩
    ·refine Reps.mono (λa _ z => ?_) (λa o _ e => keep a o e) _ _ J1.pend
     rcases z with z |⟨p,hp,_⟩
     ·exact .inl z
     ·simp at hp
   have af:∀{os:List (Nat × Addr)}{rho':Rho}{sg':St}{W:Hp}{ae:List D}{Y:List V},AmO ⟨A.K,some c,λb=>Zof A os' b\/b=c,H2⟩ os n' rho' sg' W ae Y->rho'[0]?=some (some (wG ns))->rho.length=sg'.length->AmO A [] n' (kf ns rho.length) sg' W ds vs:=λ{os rho' sg' W ae Y} L e0 al=>by
    refine back L (by rw[<- al];simp[kf];lia) λj d e=>?_
    unfold kf at e
    cases j with
    |zero=>
     cases e;obtain⟨v,e1,e2⟩:=L.slot 0 _ e0;have e3:=SlotR.rep (d:=wG ns) rfl e2;refine⟨v,e1,Yr e3 λa o u nz e=>⟨λz=>nz ?_,e⟩⟩
     rcases z with z |⟨p,hp,_⟩
     ·exact .inl (.inl (.inl z))
     ·simp at hp
    |succ j=>
     rw[List.getElem?_cons_succ,xl] at e
     split at e<;>cases e
   have ao:rho.length=sg.length:=J1.len;refine⟨c,λb=>Zof A os' b\/b=c,H2,Vd ns i rho.length,n',_,[],[],⟨[],?_⟩,q,?_⟩
   ·refine ⟨by simp [Vd, kf, ao]; lia, λj d e => ?_, .nil, .nil, λp hp => by simp at hp, λb e => ?_, λb e => ?_, λb o _ e => e, ?_⟩
    ·unfold Vd at e
     by_cases hj:j=i
     ·subst hj
      rw[zW (by simp[kf];lia)] at e
      cases e
      exact⟨.ref c,zW w5,SlotR.of (by unfold Rep;exact⟨c,rfl,rfl⟩)⟩
     ·rw [xb (Ne.symm hj)] at e;unfold kf at e
      cases j with
      |zero=>
       cases e;obtain⟨v,e1,e2⟩:=J1.slot 0 _ aj;have e3:=SlotR.rep (d:=wG ns) rfl e2
       refine⟨v,by rw[xb h0];exact e1,SlotR.of (Yr e3 λa o u nz e=>⟨λz=>?_,fr a _ (by simp) e⟩)⟩
       rcases z with (z |z) |⟨p,hp,_⟩
       ·exact nz z
       ·exact ne e z
       ·simp at hp
      |succ j=>
       rw[List.getElem?_cons_succ,xl] at e
       split at e<;>cases e
    ·cases e;exact⟨zs,0,0,sq.2,q1,q2,q3⟩
    ·exact .inr (zP e).symm
    ·refine ⟨λb e => ?_, λP q t => ⟨fr P _ (by simp) (J1.zO.2 P q t).1, λz => ne (J1.zO.2 P q t).1 (zP z).symm⟩⟩
     rcases e with e |e
     ·exact(J1.zHot b e).of λo z=>fr b o (by simp) z
     ·show Hot (H2 b);rw[e,sq.2];exact Hot.lst
   ·refine ⟨λad n3 ac W ⟨ag, L⟩ q => ?_, λd n3 v ad ac W ⟨ag, L⟩ q => ?_, λad n3 ac W ⟨ag, L⟩ q => ?_, λad n3 ac W ⟨ag, L⟩ q => ?_⟩
    ·obtain ⟨rfl, l3, e3, q⟩ := q
     exact ok.nx _ _ _ _ ⟨[],af L e3 (by rw[<- l3];exact L.len)⟩ q
    ·obtain ⟨rfl, hd, q⟩ := q
     have I4:AmO A [] n3 (replicate ac.length none) ac W ds vs:=back L (by simp) λj d e=>by
      rw[xl] at e
      split at e<;>cases e
     refine ok.rt _ _ _ _ _ _ ⟨[],I4.push ?_⟩ q;rw[L.pop.2.toS hd];exact Rep.ofS hd
    ·obtain ⟨rfl, l3, e3, q⟩ := q
     exact ok.bk _ _ _ _ ⟨[],af L e3 (by rw[<- l3];exact L.len)⟩ q
    ·obtain ⟨rfl, l3, e3, q⟩ := q
     exact ok.ct _ _ _ _ ⟨[],af L e3 (by rw[<- l3];exact L.len)⟩ q)
end
end L2
namespace L2
open PySem PySem.Spec PyProof.Rows PySem.SeqAt
mutual
def eqD:D->D->Bool
 |.non,.non=>true
 |.bl a,.bl b=>a == b
 |.bl a,.int i=>(if a then 1 else 0) == i
 |.int i,.bl a=>i == (if a then 1 else 0)
 |.int i,.int j=>i == j
 |.str x,.str y=>x == y
 |.tup xs,.tup ys=>YF xs ys
 |.lst xs,.lst ys=>YF xs ys
 |_,_=>false
def YF:List D->List D->Bool
 |[],[]=>true
 |x::xs,y::ys=>eqD x y&&YF xs ys
 |_,_=>false
end
mutual
def okE:D->Nat->Bool
 |.non,_=>true
 |.bl _,_=>true
 |.int _,_=>true
 |.str _,_=>true
 |.tup ds,k=>match k with
  |0=>false
  |k+1=>Ka ds k
 |.lst ds,k=>match k with
  |0=>false
  |k+1=>Ka ds k
 |_,_=>false
def Ka:List D->Nat->Bool
 |[],_=>true
 |d::ds,k=>okE d k&&Ka ds k
end
theorem ZR:∀{ds:List D}{k i:Nat}{d:D},Ka ds k=true->ds[i]?=some d->okE d k=true
 |[],k,i,d,_,e=>by simp at e
 |c::ds,k,0,d,h,e=>by
  simp at e;subst e;unfold Ka at h;rw[zL] at h;exact h.1
 |c::ds,k,i+1,d,h,e=>by
  unfold Ka at h;rw[zL] at h
  exact ZR (i:=i) h.2 (by simpa using e)
def eAt(xs ys:List D)(j:Nat):Bool:=match xs[j]?,ys[j]? with
 |some x,some y=>eqD x y
 |_,_=>true
def Wu(n:Nat)(e:Nat->Bool):(List.range (n+1)).all e=(e 0&&(List.range n).all λj=>e (j+1)):=by
 rw[List.range_succ_eq_map,all_cons,List.all_map];rfl
theorem Xk:∀(xs ys:List D),((List.range (min xs.length ys.length)).all (eAt xs ys)&&xs.length == ys.length)=YF xs ys
 |[],[]=>by unfold YF;rfl
 |[],y::ys=>by unfold YF;simp
 |x::xs,[]=>by unfold YF;simp
 |x::xs,y::ys=>by
  have J:=Xk xs ys;unfold YF;rw[<- J]
  have O:min (x::xs).length (y::ys).length=min xs.length ys.length+1:=by simp only[zI];lia
  rw[O,Wu]
  have L:((x::xs).length == (y::ys).length)=(xs.length == ys.length):=by simp
  rw[L,Bool.and_assoc];rfl
def KC{xs ys:List D}(h:xs.length=ys.length):(List.range xs.length).all (eAt xs ys)=YF xs ys:=by
 rw[<- Xk,h];simp
def zF7{xs ys:List D}(h:xs.length≠ys.length):YF xs ys=false:=by
 rw[<- Xk];simp[h]
theorem zs3:∀{xs ys:List D},xs.length=ys.length->(∀(j:Nat) (x y:D),xs[j]?=some x->ys[j]?=some y->eqD x y=true)->YF xs ys=true
 |[],[],_,_=>by unfold YF;rfl
 |[],y::ys,h,_=>by simp at h
 |x::xs,[],h,_=>by simp at h
 |x::xs,y::ys,h,q=>by
  unfold YF
  rw[q 0 x y rfl rfl,zs3 (by simpa using h) λj a b ha J=>q (j+1) a b (by simpa using ha) (by simpa using J)]
  rfl
def Reps.get2{K:W.Frag}{G:QqE}{Z:QqA}{H:Hp}{ds:List D}{vs:List V}{i:Nat}{d:D}{v:V}(h:Reps K G Z H ds vs)(e:ds[i]?=some d)(e':vs[i]?=some v):Rep K G Z H d v:=by
 obtain⟨u,h1,J⟩:=h.get e;rw[h1] at e';cases e';exact J
section
variable {X:Cx}{pins:QqL}{σ:St}{H:Hp}{s:Shared}{G:QqE}{Z:QqA}
def Qx(I:Inv X pins σ H s):∀(k:Nat) (d1 d2:D) (v:V),okE d1 k=true->okE d2 k=true->Rep X.K G Z H d1 v->Rep X.K G Z H d2 v->eqD d1 d2=true:=by
 intro k
 induction k with
 | zero =>
  intro d1 d2 v h1 W O L
  cases d1<;>cases d2<;>first
   |(simp[okE] at h1;done) |(simp[okE] at W;done)
   |(have Y:=O.toS rfl;have J:=L.toS rfl;rw[Y] at J;simp[ofS] at J;done)
   |(have Y:=O.toS rfl;have J:=L.toS rfl;rw[Y] at J;simp[ofS] at J;simp[eqD,J])
 | succ k ih =>
  have seq:∀{ds es:List D}{xs:List V},Ka ds k=true->Ka es k=true->Reps X.K G Z H ds xs->Reps X.K G Z H es xs->YF ds es=true:=λ{ds es xs} h1 W O L=>by
   refine zs3 (O.length.symm.trans L.length) λj x y hx hy=>?_;obtain⟨u,hu,ru⟩:=O.get hx;exact ih x y u (ZR h1 hx) (ZR W hy) ru (L.get2 hy hu)
  intro d1 d2 v h1 W O L
  cases d1<;>cases d2<;>try (first
   |(simp[okE] at h1;done) |(simp[okE] at W;done)
   |(have Y:=O.toS rfl;have J:=L.toS rfl;rw[Y] at J;simp[ofS] at J;done)
   |(have Y:=O.toS rfl;have J:=L.toS rfl;rw[Y] at J;simp[ofS] at J;simp[eqD,J];done)
   |(obtain⟨a,xs,e,_⟩:=O.tup_inv;have J:=L.toS rfl;rw[e] at J;simp[ofS] at J;done)
   |(obtain⟨a,xs,e,_⟩:=O.lst_inv;have J:=L.toS rfl;rw[e] at J;simp[ofS] at J;done)
   |(obtain⟨a,xs,e,_⟩:=L.tup_inv;have J:=O.toS rfl;rw[e] at J;simp[ofS] at J;done)
   |(obtain⟨a,xs,e,_⟩:=L.lst_inv;have J:=O.toS rfl;rw[e] at J;simp[ofS] at J;done))
  ·rename_i ds es;obtain⟨a,xs,e,sq,rs⟩:=O.tup_inv;obtain⟨b,ys,e',sq',rs'⟩:=L.tup_inv;rw[e] at e';cases e';have:=I.tuple_inj sq.sq sq'.sq;subst this;unfold eqD
   exact seq (by simpa [okE] using h1) (by simpa [okE] using W) rs rs'
  ·rename_i ds es;obtain⟨a,xs,e,sq,rs⟩:=O.tup_inv;obtain⟨b,ys,e',sq',rs'⟩:=L.lst_inv;rw[e] at e';cases e';obtain⟨its,rv,pl,hz⟩:=I.tuple sq.sq;obtain⟨its',rv',pl',hz'⟩:=I.list sq'.sq;exact absurd rfl (ne_of_list_tuple pl'.isList (show s.heap.IsTuple a its.toArray from pl))
  ·rename_i ds es;obtain⟨a,xs,e,sq,rs⟩:=O.lst_inv;obtain⟨b,ys,e',sq',rs'⟩:=L.tup_inv;rw[e] at e';cases e';obtain⟨its,rv,pl,hz⟩:=I.list sq.sq;obtain⟨its',rv',pl',hz'⟩:=I.tuple sq'.sq;exact absurd rfl (ne_of_list_tuple pl.isList (show s.heap.IsTuple a its'.toArray from pl'))
  ·rename_i ds es;obtain⟨a,xs,e,sq,rs⟩:=O.lst_inv;obtain⟨b,ys,e',sq',rs'⟩:=L.lst_inv;rw[e] at e';cases e';have:=I.list_inj sq.sq sq'.sq;subst this;unfold eqD
   exact seq (by simpa [okE] using h1) (by simpa [okE] using W) rs rs'
def rcC{A:Around}{s:Shared}{y x:Value}{b c:Bool}(h:RcAt A s y x b)(e:b=c):RcAt A s y x c:=e ▸ h
def rnC{A:Around}{s:Shared}{y x:Value}{b c:Bool}(h:RcNeAt A s y x b)(e:b=c):RcNeAt A s y x c:=e ▸ h
def eqC{A:Around}{s:Shared}{y x:Value}{b c:Bool}(h:EqAt A s y x b)(e:b=c):EqAt A s y x c:=e ▸ h
def E3(A:Around)(s:Shared)(L J:Value)(b:Bool):Prop:=EqAt A s L J b/\RcAt A s L J b/\RcNeAt A s L J (!b)
def E3.cast{A:Around}{s:Shared}{y x:Value}{b c:Bool}(h:E3 A s y x b)(e:b=c):E3 A s y x c:=e ▸ h
def zv5:D->D->Bool
 |.tup _,.tup _=>true
 |.lst _,.lst _=>true
 |_,_=>false
def ShE(s:Shared):D->Value->Prop
 |.non,u=>u=.none
 |.bl x,u=>u=.bool x
 |.int x,u=>∃t,u=.int x t
 |.str x,u=>∃t,u=.str x t
 |.tup _,u=>∃a its,u=.ref a/\s.heap.IsTuple a its
 |.lst _,u=>∃a its,u=.ref a/\s.heap.IsList a its
 |_,_=>False
def shE(I:Inv X pins σ H s){k:Nat}{d:D}{v:V}{u:Value}(h:okE d k=true)(r:Rep X.K G Z H d v)(q:RelV v u):ShE s d u:=by
 cases d with
 |non=>have:=r.toS rfl;subst this;exact q
 |bl x=>have:=r.toS rfl;subst this;exact q
 |int x=>have:=r.toS rfl;subst this;exact q
 |str x=>have:=r.toS rfl;subst this;exact q
 |tup x=>
  obtain⟨a,xs,w,sq,_⟩:=r.tup_inv;subst w;obtain⟨its,_,pl,_⟩:=I.tuple sq.sq;exact⟨a,its.toArray,q,pl⟩
 |lst x=>
  obtain⟨a,xs,w,sq,_⟩:=r.lst_inv;subst w;obtain⟨its,_,pl,_⟩:=I.list sq.sq;exact⟨a,its.toArray,q,pl.isList⟩
 |_=>simp[okE] at h
section
local macro_rules
 | `(tactic|nomatch $n:ident,$t,*)=>do
  let f:=fun(p:Lean.Name)=>Lean.mkIdent (p++n.getId)
  let t:=t.getElems
  `(tactic|exact E3.cast ⟨$(f `EqAt) $t*,$(f `RcAt) $t*,$(f `RcNeAt) $t*⟩ (by unfold eqD;rfl))
def zL2(I:Inv X pins σ H s){k:Nat}{d1 d2:D}{v1 v2:V}{u1 u2:Value}{A:Around}(h1:okE d1 k=true)(h2:okE d2 k=true)(r1:Rep X.K G Z H d1 v1)(r2:Rep X.K G Z H d2 v2)(q1:RelV v1 u1)(q2:RelV v2 u2)
  (hu:A.units<cLine) (hb:zv5 d1 d2=false):E3 A s u1 u2 (eqD d1 d2):=by
 have W:=shE I h1 r1 q1;have J:=shE I h2 r2 q2;clear h1 h2 r1 r2 q1 q2
 cases d1 with
 |non=>
  cases W
  cases d2 with
  |non=>cases J;exact E3.cast ⟨EqAt.same _,RcAt.none_none,RcNeAt.none_none⟩ (by unfold eqD;rfl)
  |bl=>cases J;nomatch none_bool,_
  |int=>obtain⟨_,rfl⟩:=J;nomatch none_int,_,_
  |str=>obtain⟨_,rfl⟩:=J;nomatch none_str,_,_
  |tup=>obtain⟨_,_,rfl,L⟩:=J;nomatch none_tuple,L,hu
  |lst=>obtain⟨_,_,rfl,L⟩:=J;nomatch none_list,L,hu
  |_=>exact J.elim
 |bl Y=>
  cases W
  cases d2 with
  |non=>cases J;nomatch bool_none,_
  |bl=>cases J;nomatch bool_bool,_,_
  |int=>obtain⟨_,rfl⟩:=J;nomatch bool_int,_,_,_
  |str=>obtain⟨_,rfl⟩:=J;nomatch bool_str,_,_,_
  |tup=>obtain⟨_,_,rfl,L⟩:=J;nomatch bool_tuple,_,L,hu
  |lst=>obtain⟨_,_,rfl,L⟩:=J;nomatch bool_list,_,L,hu
  |_=>exact J.elim
 |int Y=>
  obtain⟨t1,rfl⟩:=W
  cases d2 with
  |non=>cases J;nomatch int_none,_,_
  |bl=>cases J;nomatch int_bool,_,_,_
  |int=>obtain⟨_,rfl⟩:=J;nomatch int_int,_,_,_,_
  |str=>obtain⟨_,rfl⟩:=J;nomatch int_str,_,_,_,_
  |tup=>obtain⟨_,_,rfl,L⟩:=J;nomatch int_tuple,_,_,L,hu
  |lst=>obtain⟨_,_,rfl,L⟩:=J;nomatch int_list,_,_,L,hu
  |_=>exact J.elim
 |str Y=>
  obtain⟨t1,rfl⟩:=W
  cases d2 with
  |non=>cases J;nomatch str_none,_,_
  |bl=>cases J;nomatch str_bool,_,_,_
  |int=>obtain⟨_,rfl⟩:=J;nomatch str_int,_,_,_,_
  |str=>obtain⟨_,rfl⟩:=J;nomatch str_str,_,_,_,_
  |tup=>obtain⟨_,_,rfl,L⟩:=J;nomatch str_tuple,_,_,L,hu
  |lst=>obtain⟨_,_,rfl,L⟩:=J;nomatch str_list,_,_,L,hu
  |_=>exact J.elim
 |tup Y=>
  obtain⟨a1,i1,rfl,O⟩:=W
  cases d2 with
  |non=>cases J;nomatch tuple_none,O,hu
  |bl=>cases J;nomatch tuple_bool,_,O,hu
  |int=>obtain⟨_,rfl⟩:=J;nomatch tuple_int,_,_,O,hu
  |str=>obtain⟨_,rfl⟩:=J;nomatch tuple_str,_,_,O,hu
  |tup=>cases hb
  |lst=>obtain⟨_,_,rfl,L⟩:=J;nomatch tuple_list,O,L,hu
  |_=>exact J.elim
 |lst Y=>
  obtain⟨a1,i1,rfl,O⟩:=W
  cases d2 with
  |non=>cases J;nomatch list_none,O,hu
  |bl=>cases J;nomatch list_bool,_,O,hu
  |int=>obtain⟨_,rfl⟩:=J;nomatch list_int,_,_,O,hu
  |str=>obtain⟨_,rfl⟩:=J;nomatch list_str,_,_,O,hu
  |tup=>obtain⟨_,_,rfl,L⟩:=J;nomatch list_tuple,O,L,hu
  |lst=>cases hb
  |_=>exact J.elim
 |_=>exact W.elim
end
def Kz(I:Inv X pins σ H s):∀(k:Nat) (d1 d2:D) (v1 v2:V) (u1 u2:Value) (A:Around),okE d1 k=true->okE d2 k=true->Rep X.K G Z H d1 v1->Rep X.K G Z H d2 v2->RelV v1 u1->RelV v2 u2 ->
  A.units+k<cLine->E3 A s u1 u2 (eqD d1 d2):=by
 intro k
 induction k with
 |zero=>
  intro d1 d2 v1 v2 u1 u2 A h1 W O L q1 q2 hu
  refine zL2 I h1 W O L q1 q2 w5 ?_
  cases d1<;>first |rfl |(simp[okE] at h1;done)
 | succ k ih =>
  intro d1 d2 v1 v2 u1 u2 A h1 W O L q1 q2 hu
  by_cases hb:zv5 d1 d2=false
  ·exact zL2 I h1 W O L q1 q2 w5 hb
  have items:∀{ds es:List D}{xs ys:List V}{its its':QqW},Ka ds k=true->Ka es k=true->Reps X.K G Z H ds xs->Reps X.K G Z H es ys->Vals xs its->Vals ys its' ->
    ∀(j:Nat) (l1:j<its.toArray.size) (l2:j<its'.toArray.size),EqAt A.in1 s its.toArray[j] its'.toArray[j] (eAt ds es j):=λ{ds es xs ys its its'} h1 W O L rv rv' j l1 l2=>by
   have l1':j<its.length:=by simpa using l1
   have l2':j<its'.length:=by simpa using l2
   have a1:j<ds.length:=by rw[<- O.length,rv.length];exact l1'
   have a2:j<es.length:=by rw[<- L.length,rv'.length];exact l2'
   have g1:ds[j]?=some ds[j]:=zd a1;have g2:es[j]?=some es[j]:=zd a2;obtain⟨w1,e1,p1⟩:=O.get g1;obtain⟨w2,e2,p2⟩:=L.get g2;obtain⟨z1,f1,t1⟩:=rv.get e1;obtain⟨z2,f2,t2⟩:=rv'.get e2
   have m1:its.toArray[j]=z1:=by
    have:its[j]?=some its[j]:=zd l1';rw[f1] at this
    simpa using (zP this).symm
   have m2:its'.toArray[j]=z2:=by
    have:its'[j]?=some its'[j]:=zd l2';rw[f2] at this
    simpa using (zP this).symm
   have e3:eAt ds es j=eqD ds[j] es[j]:=by unfold eAt;rw[g1,g2]
   rw[m1,m2,e3]
   exact(ih _ _ _ _ _ _ A.in1 (ZR h1 g1) (ZR W g2) p1 p2 t1 t2 (by show A.units+1+k<cLine;lia)).1
  cases d1 with
  | tup ds =>
   cases d2 with
   | tup es =>
    have s1:=O;have s2:=L;obtain⟨a,xs,e,sq,rs⟩:=O.tup_inv;obtain⟨b,ys,e',sq',rs'⟩:=L.tup_inv;subst e e';have c1:u1=.ref a:=q1;have c2:u2=.ref b:=q2;subst c1 c2;obtain⟨its,rv,pl,hz⟩:=I.tuple sq.sq;obtain⟨its',rv',pl',hz'⟩:=I.tuple sq'.sq
    have it:=items (by simpa [okE] using h1) (by simpa [okE] using W) rs rs' rv rv'
    have n1:its.toArray.size=ds.length:=by rw[<- rs.length,rv.length];simp
    have n2:its'.toArray.size=es.length:=by rw[<- rs'.length,rv'.length];simp
    have Y:((List.range (min its.toArray.size its'.toArray.size)).all (eAt ds es)&&its.toArray.size == its'.toArray.size)=eqD (.tup ds) (.tup es):=by
     rw[n1,n2,Xk];unfold eqD;rfl
    have R:=rcC (RcAt.tuples (A:=A) (show s.heap.IsTuple a its.toArray from pl) (show s.heap.IsTuple b its'.toArray from pl') w5 it) Y
    have N:=rnC (RcNeAt.tuples (A:=A) (show s.heap.IsTuple a its.toArray from pl) (show s.heap.IsTuple b its'.toArray from pl') w5 it) (congrArg (!·) Y)
    refine⟨?_,R,N⟩
    by_cases J:a=b
    ·subst J;exact eqC (EqAt.same _) (Qx I (k+1) _ _ _ h1 W s1 s2).symm
    ·exact .of_refs J R
   |_=>exact absurd rfl hb
  | lst ds =>
   cases d2 with
   | lst es =>
    have s1:=O;have s2:=L;obtain⟨a,xs,e,sq,rs⟩:=O.lst_inv;obtain⟨b,ys,e',sq',rs'⟩:=L.lst_inv;subst e e';have c1:u1=.ref a:=q1;have c2:u2=.ref b:=q2;subst c1 c2;obtain⟨its,rv,pl,hz⟩:=I.list sq.sq;obtain⟨its',rv',pl',hz'⟩:=I.list sq'.sq
    have it:=items (by simpa [okE] using h1) (by simpa [okE] using W) rs rs' rv rv'
    have n1:its.toArray.size=ds.length:=by rw[<- rs.length,rv.length];simp
    have n2:its'.toArray.size=es.length:=by rw[<- rs'.length,rv'.length];simp
    have R:RcAt A s (.ref a) (.ref b) (eqD (.lst ds) (.lst es))/\RcNeAt A s (.ref a) (.ref b) (!eqD (.lst ds) (.lst es)):=by
     by_cases hl:ds.length=es.length
     ·have Y : (List.range its.toArray.size).all (eAt ds es) = eqD (.lst ds) (.lst es) := by rw [n1, KC hl]; unfold eqD; rfl
      exact⟨rcC (RcAt.lists (A:=A) pl.isList pl'.isList (by rw[n1,n2,hl]) w5 it) Y,rnC (RcNeAt.lists (A:=A) pl.isList pl'.isList (by rw[n1,n2,hl]) w5 it) (congrArg (!·) Y)⟩
     ·have Y : false = eqD (.lst ds) (.lst es) := by unfold eqD; exact (zF7 hl).symm
      have hs:(its.toArray.size != its'.toArray.size)=true:=by rw[n1,n2];simpa using hl
      exact⟨rcC (RcAt.lists_lengths (A:=A) pl.isList pl'.isList hs w5) Y,rnC (RcNeAt.lists_lengths (A:=A) pl.isList pl'.isList hs w5) (congrArg (!·) Y)⟩
    refine⟨?_,R⟩
    by_cases J:a=b
    ·subst J;exact eqC (EqAt.same _) (Qx I (k+1) _ _ _ h1 W s1 s2).symm
    ·exact .of_refs J R.1
   |_=>exact absurd rfl hb
  |_=>exact absurd rfl hb
def EqV(X:Cx)(H:Hp)(x y:V)(b:Bool):Prop:=∀pins s σ v u,Inv X pins σ H s->RelV x v->RelV y u->∀A:Around,A.units+60<cLine->E3 A s v u b
def xI7(X:Cx):R2:=λx y H Q=>∃b,EqV X H x y b/\Q (.bl b) H
def xo6(X:Cx):R2:=λx y H Q=>∃b,EqV X H x y b/\Q (.bl (!b)) H
def xg8{n:Nat}(O:Room n X.A):OpR X (compareOp .Eq) (xI7 X):=by
 intro pins s σ H x y v u Q I L J h;obtain⟨b,e,q⟩:=h
 exact(e pins s σ v u I L J X.A (by have:=O.units;lia)).2.1 X.prog X.w X.xe _ ⟨.bl b,H,I,rfl,q⟩
def Vb{n:Nat}(O:Room n X.A):OpR X (compareOp .NotEq) (xo6 X):=by
 intro pins s σ H x y v u Q I L J h;obtain⟨b,e,q⟩:=h
 exact(e pins s σ v u I L J X.A (by have:=O.units;lia)).2.2 X.prog X.w X.xe _ ⟨.bl (!b),H,I,rfl,q⟩
def xc5:RD2:=λd1 d2 k=>okE d1 20=true/\okE d2 20=true/\k (.bl (eqD d1 d2))
def xc3:RD2:=λd1 d2 k=>okE d1 20=true/\okE d2 20=true/\k (.bl (!eqD d1 d2))
def xb5{A:AC}(hK:X.K=A.K):ky A (xI7 X) xc5:=by
 rintro os n rho sg H ds vs d1 d2 v1 W k Q I ⟨h1,h2,q⟩ hQ;obtain⟨I1,L⟩:=I.pop;obtain⟨I2,O⟩:=I1.pop;rw[<- hK] at O L
 exact⟨eqD d1 d2,λpins s σ v u J rx Y B hu=>Kz J 20 d1 d2 v1 W v u B h1 h2 O L rx Y w5,hQ _ H _ ⟨os,I2.push (Rep.ofS rfl)⟩ q⟩
def Qy{A:AC}(hK:X.K=A.K):ky A (xo6 X) xc3:=by
 rintro os n rho sg H ds vs d1 d2 v1 W k Q I ⟨h1,h2,q⟩ hQ;obtain⟨I1,L⟩:=I.pop;obtain⟨I2,O⟩:=I1.pop;rw[<- hK] at O L
 exact⟨eqD d1 d2,λpins s σ v u J rx Y B hu=>Kz J 20 d1 d2 v1 W v u B h1 h2 O L rx Y w5,hQ _ H _ ⟨os,I2.push (Rep.ofS rfl)⟩ q⟩
@[simp] theorem xA0{d1 d2 k}:xc5 d1 d2 k=(okE d1 20=true/\okE d2 20=true/\k (.bl (eqD d1 d2))):=rfl
@[simp] theorem xz9{d1 d2 k}:xc3 d1 d2 k=(okE d1 20=true/\okE d2 20=true/\k (.bl (!eqD d1 d2))):=rfl
end
end L2
namespace L2
section
variable {A:AC}{X:Cx}{e a b:Expr}{es:List Expr}{te ta tb:TD}{t1:TAD}{pos p:Pos}
def JK(d:D)(p:List D->Prop):Prop:=∃fs,d=.lst fs/\p fs
@[simp] theorem xA7{fs p}:JK (.lst fs) p↔p fs:=⟨fun⟨_,e,h⟩=>by cases e;exact h,λh=>⟨_,rfl,h⟩⟩
def xu9(i:Nat)(te:TD):TSD:=λF rho n=>i<rho.length/\te rho n λd J=>JK d λfs=>F.nx (rho.set i (some (.own fs))) J
@[simp] theorem xy2{i te F rho n}:xu9 i te F rho n=(i<rho.length/\te rho n λd J=>JK d λfs=>F.nx (rho.set i (some (.own fs))) J):=rfl
def zt4(i:Nat):TD:=λrho n P=>Zt rho[i]? λes=>P (.int es.length) n
@[simp] theorem xd7{i rho n P}:zt4 i rho n P=Zt rho[i]? λes=>P (.int es.length) n:=rfl
def US{i:Nat}{x:Str}{J:Pos}(hm:X.mg "len" = none)(hK:X.K=A.K)(hN:X.N[i]?=some x:=by rfl)(hv:Vis X.env.scope x:=by first |exact Or.inl rfl |exact Or.inr (Or.inl rfl) |exact Or.inr (Or.inr rfl))(hd:(x == ("__debug__" : Str))=false:=by decide)
  (O:(x == ("__classdict__" : Str))=false:=by decide) (hg:Gl X "len" := by rfl)
  (W:starEach [.Name x J] X.env=(false,eval (.Name x J) X.env)::starEach [] X.env:=by rfl) (L:(backTo pos (starEach [] X.env)).any (·.1)=false:=by rfl):PD A X (.Call (.Name "len" p) [.Name x J] [] pos) (zt4 i):=by
 exists 
   (Xg wL hg hm ki (jr (qC hN hv hd O) YS W) w6 w6 W L).imp λsg H Q h => by
    obtain⟨rho,n,P,ds,vs,⟨os,I⟩,⟨es,hi,k⟩,hQ⟩:=h;obtain⟨a,xs,e1,hH,Y,_⟩:=I.own (es':=es) (xs':=[]) hi
    exact⟨.ref a,e1,a,xs,rfl,.inl (SqL.of hH),by rw[Y.length];exact hQ _ H n _ ⟨os,I.push (Rep.ofS (d:=.int es.length) rfl)⟩ k⟩
def xo2(K:W.Frag)(mg:QqM)(x:Str)(d:D):Prop:=∃v u,mg x=some u/\RelV v u/\∀G Z H,Rep K G Z H d v
def zQ5{x:Str}{d:D}(h:xo2 X.K X.mg x d)(Y:X.K=A.K)(O:Gl X x:=by rfl)(hd:(x == ("__debug__" : Str))=false:=by decide):PD A X (.Name x pos) (dC d):=by
 exists (by
   obtain⟨v,u,L,r,J⟩:=h;refine(zP9 O L r hd).imp λsg H Q q=>?_;obtain⟨rho,n,P,ds,vs,⟨os,I⟩,q,W⟩:=q
   exact W v H n d ⟨os,I.push (by rw[<- Y];exact J _ _ _)⟩ q)
def zF3{K:W.Frag}{mg:QqM}{x:Str}{a:Addr}{o:Obj}{its:Array Value}{n:Nat}{ds:List D}{xs:List V}(L:mg x=some (.ref a))(hk:K.lookup a=some o)(O:o.cls=.type "tuple")(hd:o.data=.seq its n)(hz:its.size<=sizeLine)(J:Vals xs its.toList)
  (hs:∀G Z H,Reps K G Z H ds xs):xo2 K mg x (.tup ds):=⟨.ref a,.ref a,L,rfl,λG Z H=>.tup_mk (.inr (.inr ⟨o,its,n,hk,O,hd,hz,J⟩)) (hs G Z H)⟩
def FnOk.botK{P:Program}{w:World}{K:W.Frag}{mg:QqM}{base:Heap}{f:Addr}{fd:FuncData}{ps:List Str}{k L:Nat}{t:TF}(ht:∀ds n Q,¬ t ds n Q):FnOk P w K mg base CX0 L f fd ps (spD K k t):=by
 refine⟨λvs H Q E h=>?_,λA outer s H args us vs Q E _ _ _ _ h=>?_⟩
 ·obtain⟨G,Z,n,R,ds,Y,O,J,gz,z0,h,_⟩:=h;exact(ht _ _ _ h).elim
 ·obtain⟨G,Z,n,R,ds,Y,O,J,gz,z0,h,_⟩:=h;exact(ht _ _ _ h).elim
end
def ye{own:Nat}{g:TGD}{J:TD}{rho:Rho}{n:Nat}{P:D->Nat->Prop}{α:Type}(enc:α->D)(f:α->D)(xs:List α)
  (hz:xs.length<=sizeLine) (L:∀x∈xs,∀Q,Q (f x) n->g (enc x) (replicate own none++rho) λrho'=>rho'.drop own=rho/\J rho' n Q) (O:P (.lst (xs.map f)) n):QZ own g xn6 J rho P (xs.map enc) n:=
 zG7 (it:=λ_ n R=>R (xs.map enc) n) (rho:=rho) enc f xs (λR h=>h) hz L O
def zk6{d:D}{T:String}{k:D->Prop}(J:T = "bool" \/ T = "int" \/ T = "str" \/ T = "tuple" \/ T = "list"):zY0 [d,.ty T] k↔(Uk d=true/\k (.bl (zU5 T d))):=
 ⟨fun⟨d',T',e,_,h1,L⟩=>by cases e;exact⟨h1,L⟩,λh=>⟨d,T,rfl,J,h.1,h.2⟩⟩
@[simp] theorem xd6{d:D}{k:D->Prop}:zY0 [d,.ty "bool"] k↔(Uk d=true/\k (.bl (zU5 "bool" d))):=zk6 w6
@[simp] theorem xr6{d:D}{k:D->Prop}:zY0 [d,.ty "int"] k↔(Uk d=true/\k (.bl (zU5 "int" d))):=zk6 w6
@[simp] theorem xr5{d:D}{k:D->Prop}:zY0 [d,.ty "str"] k↔(Uk d=true/\k (.bl (zU5 "str" d))):=zk6 w6
@[simp] theorem zX7{d:D}{k:D->Prop}:zY0 [d,.ty "tuple"] k↔(Uk d=true/\k (.bl (zU5 "tuple" d))):=zk6 w6
@[simp] theorem xd5{d:D}{k:D->Prop}:zY0 [d,.ty "list"] k↔(Uk d=true/\k (.bl (zU5 "list" d))):=zk6 w6
@[simp] theorem xz5{i j:Str}{k}:zO4 (.str i) (.str j) k↔k (.bl (decide (i=j))):=by
 have e:decide (ofS (.str i)=ofS (.str j))=decide (i=j):=by simp[ofS]
 unfold zO4;rw[e];exact⟨λh=>h.2.2.2,λh=>⟨rfl,rfl,rfl,h⟩⟩
theorem VX:∀{ds:List D}{k:Nat},Ka ds k=true↔∀d∈ds,okE d k=true
 |[],k=>by unfold Ka;simp
 |c::ds,k=>by
  unfold Ka;rw[zL,VX];simp
def qS{ds:List D}{k:Nat}:okE (.tup ds) (k+1)=true↔∀d∈ds,okE d k=true:=by
 have e:okE (.tup ds) (k+1)=Ka ds k:=by rw[okE]
 rw[e,VX]
mutual
theorem Uo:∀{d:D}{k:Nat},okE d k=true->eqD d d=true
 |.non,k,_=>by simp[eqD]
 |.bl b,k,_=>by simp[eqD]
 |.int b,k,_=>by simp[eqD]
 |.str b,k,_=>by simp[eqD]
 |.tup ds,0,h=>by simp[okE] at h
 |.tup ds,k+1,h=>by unfold eqD;unfold okE at h;exact We h
 |.lst ds,0,h=>by simp[okE] at h
 |.lst ds,k+1,h=>by unfold eqD;unfold okE at h;exact We h
 |.ty _,k,h=>by simp[okE] at h
 |.fz _,k,h=>by simp[okE] at h
 |.st,k,h=>by simp[okE] at h
 |.own _,k,h=>by simp[okE] at h
 |.owT _ _,k,h=>by simp[okE] at h
 |.prT _,k,h=>by simp[okE] at h
theorem We:∀{ds:List D}{k:Nat},Ka ds k=true->YF ds ds=true
 |[],k,_=>by simp[YF]
 |d::ds,k,h=>by
  unfold Ka at h;rw[zL] at h;unfold YF;rw[Uo h.1,We h.2];rfl
end
def zK6(es:List D)(k:List D->Prop):Prop:=∃d1 d2 L xs J ys,es=[d1,d2]/\Xu d1=some (L,xs)/\Xu d2=some (J,ys)/\k (WN xs ys)
@[simp] theorem xC2{t:TAD}{rho n P}:xk7 t rho n P↔t rho n λes J=>zK6 es λl=>P l J:=Iff.rfl
def jU{d1 d2:D}{Y W xs ys}{k:List D->Prop}(h1:Xu d1=some (Y,xs))(J:Xu d2=some (W,ys)):zK6 [d1,d2] k↔k (WN xs ys):=by
 constructor
 ·rintro⟨_,_,_,_,_,_,e,O,L,h⟩;cases e;rw[h1] at O;rw[J] at L;cases O;cases L;exact h
 ·intro h;exact⟨_,_,_,_,_,_,rfl,h1,J,h⟩
@[simp] theorem xq6{xs ys}{k:List D->Prop}:zK6 [.tup xs,.tup ys] k↔k (WN xs ys):=jU rfl rfl
@[simp] theorem xq7{xs ys}{k:List D->Prop}:zK6 [.tup xs,.lst ys] k↔k (WN xs ys):=jU rfl rfl
@[simp] theorem xq8{xs ys}{k:List D->Prop}:zK6 [.lst xs,.tup ys] k↔k (WN xs ys):=jU rfl rfl
@[simp] theorem xq9{xs ys}{k:List D->Prop}:zK6 [.lst xs,.lst ys] k↔k (WN xs ys):=jU rfl rfl
def zr7{K:W.Frag}{mg:QqM}{x:Str}{a:Addr}{L:QqE}{n:Nat}{i j:Int}{t u:Tok}{J}(O:mg x=some (.ref a))(hk:K.lookup a=some ⟨.type "tuple",L,.seq #[.int i t,.int j u] n,J⟩):xo2 K mg x (.tup [.int i,.int j]):=
 zF3 (xs:=[.int i,.int j]) O hk rfl rfl (by simp[sizeLine]) (.cons ⟨_,rfl⟩ (.cons ⟨_,rfl⟩ .nil)) λG Z H=>by
  exact .cons (.ofS (d:=.int i) rfl) (.cons (.ofS (d:=.int j) rfl) .nil)
theorem Wk(f:Nat->Int)(bt:Nat->Nat->Bool)(h:∀i j,bt i j=true↔f j<f i):∀k,argBest bt k<=k/\∀i,i<=k->f i<=f (argBest bt k)
 |0=>⟨zn _,λi hi=>by cases Nat.le_zero.mp hi;exact yz _⟩
 | k + 1 => by
  obtain⟨h1,L⟩:=Wk f bt h k;rw[argBest.eq_2]
  by_cases J:bt (k+1) (argBest bt k)=true
  ·rw [if_pos J];have hb':=(h _ _).mp J;refine⟨zn _,λi hi=>?_⟩
   by_cases e:i=k+1
   ·subst e;exact yz _
   ·have:=L i w5;lia
  ·rw [if_neg J];have hb':¬ f (argBest bt k)<f (k+1):=λz=>J ((h _ _).mpr z)
   refine⟨w5,λi hi=>?_⟩
   by_cases e:i=k+1
   ·subst e;lia
   ·exact L i w5
def Vals.ints_at{ns:List Int}{us:QqW}(h:Vals (ns.map V.int) us){i:Nat}{v:Value}(e:us[i]?=some v):i<ns.length/\∃t,v=.int (ns[i]?.getD 0) t:=by
 have J:us.length=ns.length:=by have:=h.length;simpa using this.symm
 have hi:i<ns.length:=by rw[<- J];exact(zu.mp e).1
 refine⟨hi,?_⟩
 have L:(ns.map V.int)[i]?=some (.int ns[i]):=by rw[zw,zd hi];rfl
 obtain⟨u,hu,r⟩:=h.get L;rw[e] at hu;cases hu;obtain⟨t,rfl⟩:=r
 exact⟨t,by rw[zd hi];rfl⟩
section
variable {X:Cx}
def KP(hc:X.calm=true):kW X (.builtin "max") (λxs H Q=>∃(p:Addr) (ns:List Int),xs=[.ref p]/\SqL X.K H p (ns.map V.int)/\0<ns.length/\∀M,M∈ns->(∀a∈ns,a<=M)->Q (.int M) H):=by
 intro Y s σ H xs us Q I r h;obtain⟨p,ns,rfl,hq,hn,q⟩:=h
 cases r with
 | cons r rr =>
  cases rr;cases r;obtain⟨its,rv,pl,_⟩:=I.list hq;have O:=pl.isList
  have L:p<s.heap.objs.size:=by obtain⟨_,e,_⟩:=O;exact zo e
  have hsz:its.length=ns.length:=by have:=rv.length;simpa using this.symm
  refine call_max_walk (wQ O ⟨s.heap.objs.size,[s.heap.objs.size,p],[s.heap.objs.size],its.toArray.size,_,_,λi j=>decide (ns[j]?.getD 0<ns[i]?.getD 0),rfl,
   Walks.list (A:=X.A.in1) (I.ok.hd hc) _ p (zx L) _,⟨⟨_,zr _ rfl,rfl,rfl⟩,O.push _⟩,λb hb=>?_,?_,λi j vi vj s' Q' E' hi hj hQ=>?_,λv h' tk hP hk=>?_⟩)
  ·simp only [zk, xg, or_false] at hb
   rcases hb with rfl |rfl
   ·simp[Heap.push]
   ·exact yH L (by simp[Heap.push])
  ·rw[zq,hsz];exact hn
  ·have hi' : its[i]? = some vi := by simpa using hi
   have hj':its[j]?=some vj:=by simpa using hj
   obtain⟨_,ti,rfl⟩:=rv.ints_at hi';obtain⟨_,tj,rfl⟩:=rv.ints_at hj';exact(PyProof.Rows.gt_int hQ:wpAny (model X.prog X.w) X.A.in1 (compareOp .Gt _ _) Q' E' s')
  ·have hP' : its[argBest (λi j => decide (ns[j]?.getD 0 < ns[i]?.getD 0)) (its.toArray.size - 1)]? = some v := by simpa using hP
   obtain⟨J,t,rfl⟩:=rv.ints_at hP'
   obtain⟨aa,W⟩:=Wk (λi=>ns[i]?.getD 0) (λi j=>decide (ns[j]?.getD 0<ns[i]?.getD 0)) (λi j=>by simp) (its.toArray.size-1)
   generalize argBest (λi j=>decide (ns[j]?.getD 0<ns[i]?.getD 0)) (its.toArray.size-1)=m at *;refine⟨.int (ns[m]?.getD 0),H,I.kept (UV hk),⟨_,rfl⟩,q _ ?_ λa ha=>?_⟩
   ·rw[zd J];exact wl J
   ·obtain ⟨i, hi, rfl⟩ := yJ.mp ha
    have:=W i (by rw[zq,hsz];lia)
    rw[zd hi] at this;exact this
def KM(hc:X.calm=true):kW X (.builtin "min") (λxs H Q=>∃(p:Addr) (ns:List Int),xs=[.ref p]/\SqL X.K H p (ns.map V.int)/\0<ns.length/\∀M,M∈ns->(∀a∈ns,M<=a)->Q (.int M) H):=by
 intro Y s σ H xs us Q I r h;obtain⟨p,ns,rfl,hq,hn,q⟩:=h
 cases r with
 | cons r rr =>
  cases rr;cases r;obtain⟨its,rv,pl,_⟩:=I.list hq;have O:=pl.isList
  have L:p<s.heap.objs.size:=by obtain⟨_,e,_⟩:=O;exact zo e
  have hsz:its.length=ns.length:=by have:=rv.length;simpa using this.symm
  refine call_min_walk (wQ O ⟨s.heap.objs.size,[s.heap.objs.size,p],[s.heap.objs.size],its.toArray.size,_,_,λi j=>decide (ns[i]?.getD 0<ns[j]?.getD 0),rfl,
   Walks.list (A:=X.A.in1) (I.ok.hd hc) _ p (zx L) _,⟨⟨_,zr _ rfl,rfl,rfl⟩,O.push _⟩,λb hb=>?_,?_,λi j vi vj s' Q' E' hi hj hQ=>?_,λv h' tk hP hk=>?_⟩)
  ·simp only [zk, xg, or_false] at hb
   rcases hb with rfl |rfl
   ·simp[Heap.push]
   ·exact yH L (by simp[Heap.push])
  ·rw[zq,hsz];exact hn
  ·have hi' : its[i]? = some vi := by simpa using hi
   have hj':its[j]?=some vj:=by simpa using hj
   obtain⟨_,ti,rfl⟩:=rv.ints_at hi';obtain⟨_,tj,rfl⟩:=rv.ints_at hj';exact(PyProof.Rows.lt_int hQ:wpAny (model X.prog X.w) X.A.in1 (compareOp .Lt _ _) Q' E' s')
  ·have hP' : its[argBest (λi j => decide (ns[i]?.getD 0 < ns[j]?.getD 0)) (its.toArray.size - 1)]? = some v := by simpa using hP
   obtain⟨J,t,rfl⟩:=rv.ints_at hP'
   obtain⟨aa,W⟩:=Wk (λi=>- ns[i]?.getD 0) (λi j=>decide (ns[i]?.getD 0<ns[j]?.getD 0)) (λi j=>by simp) (its.toArray.size-1)
   generalize argBest (λi j=>decide (ns[i]?.getD 0<ns[j]?.getD 0)) (its.toArray.size-1)=m at *;refine⟨.int (ns[m]?.getD 0),H,I.kept (UV hk),⟨_,rfl⟩,q _ ?_ λa ha=>?_⟩
   ·rw[zd J];exact wl J
   ·obtain ⟨i, hi, rfl⟩ := yJ.mp ha
    have:=W i (by rw[zq,hsz];lia)
    rw[zd hi] at this;have e:(some ns[i]).getD 0=ns[i]:=rfl;rw[e] at this;lia
end
section
variable {A:AC}
theorem kq{K:W.Frag}{G:QqE}{Z:QqA}{H:Hp}:∀{bs:List Int}{ws:List V},Reps K G Z H (bs.map D.int) ws->ws=bs.map V.int
 |[],ws,h=>h.nil_inv
 |b::bs,ws,h=>by
  obtain⟨v,r,rfl,q,t⟩:=h.split;rw[q.int_inv,kq t];rfl
def xj8:List D->(D->Prop)->Prop:=λes k=>∃i j,es=[.int i,.int j]/\k (.int (if j > i then j else i))
def xj5:List D->(D->Prop)->Prop:=λes k=>∃i j,es=[.int i,.int j]/\k (.int (if j<i then j else i))
def xj9:List D->(D->Prop)->Prop:=λes k=>∃ns:List Int,es=[.lst (ns.map D.int)]/\0<ns.length/\∀M,M∈ns->(∀a∈ns,a<=M)->k (.int M)
def xj6:List D->(D->Prop)->Prop:=λes k=>∃ns:List Int,es=[.lst (ns.map D.int)]/\0<ns.length/\∀M,M∈ns->(∀a∈ns,M<=a)->k (.int M)
@[simp] theorem xB4{i j k}:xj8 [.int i,.int j] k↔k (.int (if j > i then j else i)):=⟨fun⟨_,_,e,h⟩=>by cases e;exact h,λh=>⟨_,_,rfl,h⟩⟩
@[simp] theorem xB2{i j k}:xj5 [.int i,.int j] k↔k (.int (if j<i then j else i)):=⟨fun⟨_,_,e,h⟩=>by cases e;exact h,λh=>⟨_,_,rfl,h⟩⟩
def zu2:vA A (λxs H Q=>∃i j,xs=[.int i,.int j]/\Q (.int (if j > i then j else i)) H) xj8:=by
 rintro os n rho sg H ds vs es ws k Q I J ⟨i,j,rfl,q⟩ L;obtain⟨v,v',rfl,r,r'⟩:=VP J
 exact⟨i,j,by rw[r.int_inv,r'.int_inv],L _ H _ ⟨os,I.push (Rep.ofS rfl)⟩ q⟩
def JW:vA A (λxs H Q=>∃i j,xs=[.int i,.int j]/\Q (.int (if j<i then j else i)) H) xj5:=by
 rintro os n rho sg H ds vs es ws k Q I J ⟨i,j,rfl,q⟩ L;obtain⟨v,v',rfl,r,r'⟩:=VP J
 exact⟨i,j,by rw[r.int_inv,r'.int_inv],L _ H _ ⟨os,I.push (Rep.ofS rfl)⟩ q⟩
def zu3:vA A (λxs H Q=>∃(p:Addr) (ns:List Int),xs=[.ref p]/\SqL A.K H p (ns.map V.int)/\0<ns.length/\∀M,M∈ns->(∀a∈ns,a<=M)->Q (.int M) H) xj9:=by
 rintro os n rho sg H ds vs es ws k Q I J ⟨ns,rfl,O,q⟩ W;obtain⟨v,rfl,r⟩:=kO J;obtain⟨a,xs,rfl,sq,L⟩:=r.lst_inv;have e:=kq L;subst e;exact⟨a,ns,rfl,sq.sq,O,λM h1 Y=>W _ H _ ⟨os,I.push (Rep.ofS rfl)⟩ (q M h1 Y)⟩
def zu0:vA A (λxs H Q=>∃(p:Addr) (ns:List Int),xs=[.ref p]/\SqL A.K H p (ns.map V.int)/\0<ns.length/\∀M,M∈ns->(∀a∈ns,M<=a)->Q (.int M) H) xj6:=by
 rintro os n rho sg H ds vs es ws k Q I J ⟨ns,rfl,O,q⟩ W;obtain⟨v,rfl,r⟩:=kO J;obtain⟨a,xs,rfl,sq,L⟩:=r.lst_inv;have e:=kq L;subst e;exact⟨a,ns,rfl,sq.sq,O,λM h1 Y=>W _ H _ ⟨os,I.push (Rep.ofS rfl)⟩ (q M h1 Y)⟩
def Vt:bootBuiltins "max" = some (.builtin "max"):=x3
def Vs:bootBuiltins "min" = some (.builtin "min"):=x3
end
def JX{own:Nat}{g:TGD}{O:TBD}{W:TD}{rho:Rho}{n:Nat}{P:D->Nat->Prop}{α:Type}(enc:α->D)(keep:α->Bool)(f:α->D)(xs:List α)(hz:xs.length<=sizeLine)
  (he:∀x∈xs,∀(R:D->Nat->Prop) (S:Nat->Prop),(keep x=true->R (f x) n)->(keep x=false->S n)->g (enc x) (replicate own none++rho) λrho'=>rho'.drop own=rho/\O rho' n λc Y=>if c=true then W rho' Y R else S Y)
  (hP:P (.lst ((xs.filter keep).map f)) n):QZ own g O W rho P (xs.map enc) n:=by
 refine⟨by simpa using hz,λi J n'=>n'=n/\J=((xs.take i).filter keep).map f,⟨rfl,rfl⟩,?_,?_⟩
 ·rintro i d J n' e ⟨rfl, rfl⟩;rw[zw] at e
  cases q:xs[i]? with
  |none=>rw[q] at e;cases e
  |some x=>
   rw[q] at e;cases e;have hm:x∈xs:=zQ q
   have et:xs.take (i+1)=xs.take i++[x]:=by rw[xq,q];rfl
   refine he x hm (λe L=>L=n'/\((xs.take i).filter keep).map f++[e]=((xs.take (i+1)).filter keep).map f) (λL=>L=n'/\((xs.take i).filter keep).map f=((xs.take (i+1)).filter keep).map f) (λhk=>⟨rfl,?_⟩) (λhk=>⟨rfl,?_⟩)
   ·rw[et,yq];simp[hk]
   ·rw[et,yq];simp[hk]
 ·rintro J n' ⟨rfl,rfl⟩;rw[zg,wj];exact hP
def zS2{ds:List D}{k:Nat}:okE (.lst ds) (k+1)=true↔∀d∈ds,okE d k=true:=by
 have e:okE (.lst ds) (k+1)=Ka ds k:=by rw[okE]
 rw[e,VX]
def qu{i:Int}{k:Nat}:okE (.int i) k=true:=by simp[okE]
def zJ0(K:W.Frag):R2:=λx y H Q=>∃a b xs ys,x=.ref a/\y=.ref b/\SqT K H a xs/\SqT K H b ys/\xs.length+ys.length<=sizeLine /\
 (xs=[]->Q (.ref b) H)/\(xs≠[]->ys=[]->Q (.ref a) H)/\(xs≠[]->ys≠[]->∀p,H p=none->Q (.ref p) (upd H p (.tup (xs++ys))))
section
variable {X:Cx}
def QI:OpR X (binaryOp .Add) (zJ0 X.K):=by
 intro J s σ H x y v u Q I rx ry h;obtain⟨a,b,xs,ys,rfl,rfl,ha,hb,hz,q0,q1,q2⟩:=h
 by_cases hx:xs=[]
 ·cases rx;cases ry;obtain⟨its,r1,p1,_⟩:=I.tuple ha;obtain⟨L,r2,p2,_⟩:=I.tuple hb;have hi:its=[]:=r1.nil_iff.mpr hx;obtain⟨⟨cls,dd,data,sl⟩,ho,hc,n,hd⟩:=id p1;obtain⟨⟨ad,aa,ac,Y⟩,O,hc2,n2,W⟩:=id p2;simp only at hc hd hc2 W;subst hc hd hc2 W
  exact PySem.concat_meets ⟨_,ho,rfl⟩ ⟨_,O,rfl⟩ PySem.noFill_tuple_add PySem.seq_tuple_add PySem.F.slot_tuple_add PySem.F.entry_tuple_add (PySem.F.args_tuple_add_2 _ _)
   (tuple_addW0 a b its.toArray L.toArray n n2 dd aa sl Y (by simp[hi])) ⟨ho,O,⟨.ref b,H,I,rfl,q0 hx⟩⟩
 ·exact zR2 J s σ H _ _ v u Q I rx ry ⟨a,b,xs,ys,rfl,rfl,ha,hb,hx,hz,q1 hx,q2 hx⟩
end
section
variable {A:AC}
def zI7:RD2:=λd1 d2 k=>∃es fs,d1=.tup es/\d2=.tup fs/\es.length+fs.length<=sizeLine/\k (.tup (es++fs))
@[simp] theorem xq0{es fs k}:zI7 (.tup es) (.tup fs) k↔(es.length+fs.length<=sizeLine/\k (.tup (es++fs))):=⟨fun⟨_,_,e,e',h⟩=>by cases e;cases e';exact h,λh=>⟨_,_,rfl,rfl,h⟩⟩
def zk2:ky A (zJ0 A.K) zI7:=by
 rintro os n rho sg H ds vs d1 d2 v1 v2 k Q I ⟨es,fs,rfl,rfl,hz,q⟩ O;obtain⟨I1,Y⟩:=I.pop;obtain⟨W,r1⟩:=I1.pop;have r1':=r1;have r2':=Y;obtain⟨a,xs,e,sq,J⟩:=r1.tup_inv;obtain⟨b,ys,e',sq',rs'⟩:=Y.tup_inv;subst e e'
 refine⟨a,b,xs,ys,rfl,rfl,sq.sq,sq'.sq,by rw[J.length,rs'.length];exact hz,λhx=>?_,λhx hy=>?_,λhx hy p hp=>?_⟩
 ·have L : es = [] := by have := J.length; rw [hx] at this; exact List.eq_nil_of_length_eq_zero this.symm
  subst L;exact O _ H _ ⟨os,W.push r2'⟩ q
 ·have L : fs = [] := by have := rs'.length; rw [hy] at this; exact List.eq_nil_of_length_eq_zero this.symm
  subst L;rw[ww] at q;exact O _ H _ ⟨os,W.push r1'⟩ q
 ·exact O _ _ _ ⟨os,W.newTup (J.append rs') hp⟩ q
end
section
variable {A:AC}{X:Cx}{a b c e:Expr}{es:List Expr}{te ta tb tc:TD}{t1:TAD}{pos p:Pos}
def YC(d:D)(k:Int->Prop):Prop:=∃i,d=.int i/\k i
@[simp] theorem xC1{i:Int}{k}:YC (.int i) k↔k i:=⟨fun⟨_,e,h⟩=>by cases e;exact h,λh=>⟨_,rfl,h⟩⟩
def xm7(f g:Int->Int->Bool)(ta tb tc:TD):TD:=λrho n P=>ta rho n λd1 O=>tb rho O λd2 J=>YC d1 λi=>YC d2 λj=>if f i j=true then tc rho J λd3 L=>YC d3 λk=>P (.bl (g j k)) L else P (.bl false) J
@[simp] theorem xs8{f g ta tb tc rho n P}:xm7 f g ta tb tc rho n P=ta rho n λd1 O=>tb rho O λd2 J=>YC d1 λi=>YC d2 λj=>if f i j=true then tc rho J λd3 L=>YC d3 λk=>P (.bl (g j k)) L else P (.bl false) J:=rfl
def xl0(t:TAD):TID:=λrho n P=>t rho n λes J=>zd2 es λd1 d2=>YC d1 λi=>YC d2 λj=>(-(2^62)<=i/\i<2^62/\-(2^62)<=j/\j<2^62)/\P (zc5 i (j-i).toNat) J
@[simp] theorem xr7{t rho n P}:xl0 t rho n P=t rho n λes J=>zd2 es λd1 d2=>YC d1 λi=>YC d2 λj=>(-(2^62)<=i/\i<2^62/\-(2^62)<=j/\j<2^62)/\P (zc5 i (j-i).toNat) J:=rfl
def zj6(i:Nat)(t:TAD):TSD:=λF rho n=>Zt rho[i]? λes=>t rho n λds J=>∃fs,ds=[.lst fs]/\es.length+fs.length<=sizeLine/\F.nx (rho.set i (some (.own (es++fs)))) J
@[simp] theorem xd0{i t F rho n}:zj6 i t F rho n=Zt rho[i]? λes=>t rho n λds J=>∃fs,ds=[.lst fs]/\es.length+fs.length<=sizeLine/\F.nx (rho.set i (some (.own (es++fs)))) J:=rfl
def zc7{i:Nat}{x:Str}{px O L:Pos}(ha:PAD A X [e] t1)(hK:X.K=A.K)(hN:X.N[i]?=some x:=by rfl)(hv:Vis X.env.scope x:=by first |exact Or.inl rfl |exact Or.inr (Or.inl rfl) |exact Or.inr (Or.inr rfl))(hd:(x == ("__debug__" : Str))=false:=by decide)
  (af:(x == ("__classdict__" : Str))=false:=by decide) (aa:attributeBase (.Name x px) "extend" X.env (eval (.Name x px) X.env)=eval (.Name x px) X.env:=by rfl)
  (ac : ((backTo L (starEach [e] X.env)).all (λx => !x.1) && (backToKw L (keywordEach [] X.env)).all (λx => x.1.isSome)
   && decide ([e].length+([]:List Keyword).length+(if ([]:List Keyword).isEmpty then 0 else 1)<30))=true:=by rfl)
  (Y:(O.endLine == L.line)=true:=by rfl) (hs:starEach [e] X.env=(false,eval e X.env)::starEach [] X.env:=by rfl) (W:(backTo L (starEach [] X.env)).any (·.1)=false:=by rfl)
  (ae:swapsWith (.Call (.Attribute (.Name x px) "extend" O) [e] [] L) none pos.line X.env=pure false:=by rfl) :
  PSD A X (.Expr (.Call (.Attribute (.Name x px) "extend" O) [e] [] L) pos) (zj6 i t1):=by
 exists 
   (JC (xf5 PySem.F.plainAttrs_list PySem.F.slot_list_extend PySem.F.type_list_extend zo5 (qC hN hv hd af) ha aa ac Y hs W) ae).imp λE sg H h => by
    obtain⟨rho,n,F,ds,vs,⟨os,I⟩,⟨es,hi,ht⟩,ok⟩:=h;obtain⟨a,xs,e1,hH,rs,_⟩:=I.own (es':=es) (xs':=[]) hi;refine⟨.ref a,e1,.inl ⟨rfl,xs,SqL.of hH⟩,rho,n,_,ds,vs,⟨os,I⟩,ht,λws H' n' fs ⟨os',J⟩ hl k=>?_⟩;obtain⟨gs,rfl,hz,k⟩:=k;obtain⟨J1,ad⟩:=J.split hl;obtain⟨v,rfl,r⟩:=kO ad;obtain⟨b,ys,rfl,sq,rr⟩:=r.lst_inv;obtain⟨a',xs',e2,hH',rs',up⟩:=J1.own (es':=es) (xs':=[]) hi;rw[e1] at e2;cases e2
    exact⟨a,b,xs',ys,rfl,rfl,hH',sq.2,by rw[rs'.length,rr.length];exact hz,ok.nx _ _ _ _ ⟨os',up _ _ (rs'.append rr)⟩ k⟩
end
theorem YJ:∀{us:QqW}{ns:List Int},IntsAre us ns->Vals (ns.map V.int) us
 |_,_,.nil=>.nil
 |_,_,.cons n t h=>.cons ⟨t,rfl⟩ (YJ h)
section
variable {X:Cx}{A:AC}
def JZ:kW X (.builtin "sorted") (λxs H Q=>∃(p:Addr) (ns:List Int),xs=[.ref p]/\SqL X.K H p (ns.map V.int)/\ns.length<64/\∀ms:List Int,ms.Perm ns->ms.Pairwise (·<=·)->∀l,H l=none->Q (.ref l) (upd H l (.lst (ms.map V.int)))):=by
  intro L s σ H xs us Q I r h;obtain⟨p,ns,rfl,Y,hn,q⟩:=h
  cases r with
  | cons r W =>
    cases W;cases r;obtain⟨its,rv,pl,_⟩:=I.list Y;have hl:=pl.isList
    have hsz:its.length=ns.length:=by have:=rv.length;simpa using this.symm
    refine sorted_ints hl (vy rv) w5 λJ ms hi O hs=>?_
    obtain⟨e,he⟩:=sortedAll_at s.heap its J;have aa:ms.length=ns.length:=O.length_eq;have hf:H (s.heap.objs.size+1)=none:=I.hok.fresh (xv _);refine⟨.ref (s.heap.objs.size+1),_,I.laid (t':=s.toks) (o:=.lst (ms.map V.int)) (λb u e=>sortedAll_old e) (xv _) ?_,rfl,q ms O hs _ hf⟩
    exact⟨by rw[zg];exact zD w5 (wU (k:=64) w5),J.toList,e,YJ hi,he⟩
def zU0:List D->(D->Prop)->Prop:=λes k=>∃ns:List Int,es=[.lst (ns.map D.int)]/\ns.length<64/\∀ms:List Int,ms.Perm ns->ms.Pairwise (·<=·)->k (.lst (ms.map D.int))
def zt9:vA A (λxs H Q=>∃(p:Addr) (ns:List Int),xs=[.ref p]/\SqL A.K H p (ns.map V.int)/\ns.length<64/\∀ms:List Int,ms.Perm ns->ms.Pairwise (·<=·)->∀l,H l=none->Q (.ref l) (upd H l (.lst (ms.map V.int)))) zU0:=by
  rintro os n rho sg H ds vs es ws k Q I J ⟨ns,rfl,O,q⟩ Y;obtain⟨v,rfl,r⟩:=kO J;obtain⟨a,xs,rfl,sq,L⟩:=r.lst_inv;have e:=kq L;subst e;exact⟨a,ns,rfl,sq.sq,O,λms h1 h2 l W=>Y _ _ _ ⟨os,I.newLst ZL W⟩ (q ms h1 h2)⟩
def Yb:bootBuiltins "sorted" = some (.builtin "sorted"):=x3
end
def Qs{x y:Str}{J py pt:Pos}{kt k2 L}{a b:Expr}{env:Env}(hk:env.blockKind=.function)(hx:env.kindOf x=some .local)(hy:env.kindOf y=some .local)(hl:py.line=J.line)(O:x≠y)
  (Y:qp a=false) (W:qp b=false) (hf:[a,b].all (foldedForSure 8)=false) (hc:[a,b].all (constantsAlone 8)=false) :
  swappedStores [.Tuple [.Name x J,.Name y py] kt pt] (.Tuple [a,b] k2 L) env=pure (some [x,y]):=by
 have e2:(y == x)=false:=beq_false_of_ne (Ne.symm O);have e:(Expr.Name x J).pos.line=J.line:=rfl;unfold swappedStores;simp[hk,hx,hy,hl,hf,hc,e,List.eraseDups,List.eraseDupsBy,List.eraseDupsBy.loop,e2];intro h
 exfalso
 rcases h with h |h
 ·cases a<;>first |(simp at h;done) |(simp[qp] at Y;done)
 ·cases b<;>first |(simp at h;done) |(simp[qp] at W;done)
section
variable {A:AC}{X:Cx}{a b:Expr}{pos:Pos}
def VS{i j:Nat}{x y:Str}{ta:TAD}{px py pt:Pos}{kt k2 J}(hc:X.calm=true)(hN:X.N.Nodup)(hi:X.N[i]?=some x)(hj:X.N[j]?=some y)(Y:i≠j)
  (hx:X.env.scope.names.lookup x=some .local) (hy:X.env.scope.names.lookup y=some .local) (ha:PAD A X [a,b] ta)
  (hk:X.env.blockKind=.function:=by rfl) (hl:py.line=px.line:=by rfl) (L:x≠y:=by decide) (W:qp a=false:=by rfl) (O:qp b=false:=by rfl) (hf:[a,b].all (foldedForSure 8)=false:=by decide +kernel) (aa:[a,b].all (constantsAlone 8)=false:=by decide +kernel) :
  PSD A X (.Assign [.Tuple [.Name x px,.Name y py] kt pt] (.Tuple [a,b] k2 J) pos) (xv2 i j ta):=by
 exists 
   zP3 hc hN hi hj Y hx hy ha (Qs hk hx hy hl L W O hf aa) rfl
end
def QA{A:AC}{X:Cx}{e:Expr}{t:TBD}(h:PTD A X e t):PTs X [e] (zb8 A t):=by exists zP0 h
end L2
namespace L2
open PySem PySem.Spec PyProof.Rows HT
section
variable {prog:Program}{w:World}{A:Around}{E:QqV}{s:Shared}
def ZC{t L:Addr}{items:Array Value}{vl vu:Value}{lo hi:Option Int}{Q:QqV}(ht:IsTup s.heap t items)(hs:s.heap.IsSliceOf L vl vu .none)(pl:IsPart vl lo)(pu:IsPart vu hi)
  (h1:sIx items.size 0 lo=0) (h2:sIx items.size items.size hi=items.size) (h:Q (.ref t) s):wpAny (model prog w) A (getItem (.ref t) (.ref L)) Q E s:=by
 obtain⟨os,O,W,aa⟩:=id hs;have Y:s.TypeIs (.ref L) "slice" := ⟨os,O,W⟩;unfold getItem
 try with_reducible refine xp ?_
 first |refine zb (zf ?_) |skip
 refine zb (wpAny_sequenceKey ht.typeIs w6 ?_)
 refine zb (xO (name:=Str.ofString "__getitem__") ht.typeIs PyProof.Rows.slot_tuple_getitem
  (wz PyProof.Rows.slot_tuple_getitem ht.typeIs entry_tuple_getitem ?_ (args_tuple_getitem _ _)))
 show wpAny _ _ (Builtin.Tuple.tupleItemsOf (.ref t) >>= _) _ _ s;refine zb (tupleItemsOf_ ht ?_);refine zb (wpAny_typeOf Y ?_)
 rw[if_pos w6]
 refine zb (jb hs pl pu ?_)
 have J:((((sIx items.size 0 lo:Nat):Int) == 0&&(1:Int) == 1&&(sIx items.size items.size hi-sIx items.size 0 lo) == items.size)=true):=by
  rw[h1,h2];simp
 show wpAny _ _ (if (((sIx items.size 0 lo:Nat):Int) == 0&&(1:Int) == 1&&(sIx items.size items.size hi-sIx items.size 0 lo) == items.size)=true then _ else _) _ _ s
 rw[if_pos J];obtain⟨⟨cls,dd,data,sl'⟩,ho,hc,n,hd⟩:=id ht;simp only at hc hd;subst hc hd;unfold Builtin.Tuple.tupleIsExact;obtain⟨hp,g,d,tk,os'⟩:=s
 wp_walk
 exact⟨_,rfl,zf h⟩
end
section
variable {X:Cx}
def xw3(K:W.Frag):V->Option Int->Option Int->Hp->VK->Prop:=λx lo hi H Q=>∃a xs,x=.ref a/\SqT K H a xs /\
 ((HT.sIx xs.length 0 lo=0/\HT.sIx xs.length xs.length hi=xs.length)->Q (.ref a) H)/\(¬ (HT.sIx xs.length 0 lo=0/\HT.sIx xs.length xs.length hi=xs.length)->∀p,H p=none->Q (.ref p) (upd H p (.tup (zG5 xs lo hi))))
def zN1:SlR X (xw3 X.K):=by
 intro L s σ H x v vl vu lo hi sl Q I W hs pl Y h;obtain⟨a,xs,rfl,hx,q1,q2⟩:=h
 by_cases O:HT.sIx xs.length 0 lo=0/\HT.sIx xs.length xs.length hi=xs.length
 ·cases W;obtain⟨its,r,ht,hz⟩:=I.tuple hx
  have J:its.toArray.size=xs.length:=by rw[zq];exact r.length.symm
  refine⟨"tuple",_,PyProof.Rows.slot_tuple_getitem.lookup,ht.typeIs,?_⟩
  exact ZC ht hs pl Y (by rw[J];exact O.1) (by rw[J];exact O.2) ⟨.ref a,H,I,rfl,q1 O⟩
 ·exact zZ6 L s σ H (.ref a) v vl vu lo hi sl Q I W hs pl Y ⟨a,xs,rfl,hx,O,q2 O⟩
end
abbrev TOD:=Rho->Nat->(Option Int->Nat->Prop)->Prop
def oOf(A:AC)(t:TOD):TO:=λsg H Q=>∃rho n P ds vs,Am A n rho sg H ds vs/\t rho n P/\∀o H' n',Am A n' rho sg H' ds vs->P o n'->Q o H'
@[irreducible] def POD(A:AC)(X:Cx)(e:Option Expr)(t:TOD):Prop:=PO X e (oOf A t)
def PO.imp{X:Cx}{e:Option Expr}{t t':TO}(h:PO X e t)(hi:∀sg H Q,t' sg H Q->t sg H Q):PO X e t':=λJ s sg H Q I q=>h J s sg H Q I (hi _ _ _ q)
section
variable {A:AC}{X:Cx}{a b c e:Expr}{es:List Expr}{te ta tb tc:TD}{t1:TAD}{pos p:Pos}
def xh8:TOD:=λ_ n P=>P none n
def xh7(t:TD):TOD:=λrho n P=>t rho n λd J=>YC d λi=>P (some i) J
@[simp] theorem xA5{rho n P}:xh8 rho n P=P none n:=rfl
@[simp] theorem xA4{t rho n P}:xh7 t rho n P=t rho n λd J=>YC d λi=>P (some i) J:=rfl
def ZN:POD A X none xh8:=by
 exists zP4.imp λsg H Q h=>by
   obtain⟨rho,n,P,ds,vs,I,h,J⟩:=h;exact J none H n I h
def ZM(h:PD A X e te):POD A X (some e) (xh7 te):=by
 exists (zl5 h).imp λsg H Q h=>by
   obtain⟨rho,n,P,ds,vs,I,h,L⟩:=h;refine⟨rho,n,_,ds,vs,I,h,λv H' n' d ⟨os,J⟩ k=>?_⟩;obtain⟨i,rfl,k⟩:=k;obtain⟨O,r⟩:=J.pop;exact⟨i,r.int_inv,L _ H' n' ⟨os,O⟩ k⟩
def Jm(d:D)(k:List D->Prop):Prop:=∃fs,d=.tup fs/\k fs
@[simp] theorem xw9{fs:List D}{k}:Jm (.tup fs) k↔k fs:=⟨fun⟨_,e,h⟩=>by cases e;exact h,λh=>⟨_,rfl,h⟩⟩
def xO0(ta:TD)(J L:TOD):TD:=λrho n P=>ta rho n λd Y=>J rho Y λlo W=>L rho W λhi O=>Jm d λfs=>P (.tup (Vp fs lo hi)) O
@[simp] theorem xK7{ta J L rho n P}:xO0 ta J L rho n P=ta rho n λd Y=>J rho Y λlo W=>L rho W λhi O=>Jm d λfs=>P (.tup (Vp fs lo hi)) O:=rfl
def zt7{fs:List D}{lo hi:Option Int}(h:HT.sIx fs.length 0 lo=0/\HT.sIx fs.length fs.length hi=fs.length):Vp fs lo hi=fs:=by
 unfold Vp;rw[h.1,h.2,List.drop_zero,Nat.sub_zero,wj]
def zJ6{le he:Option Expr}{O W:TOD}{p2:Pos}(hK:X.K=A.K)(ha:PD A X a ta)(hl:POD A X le O)(hh:POD A X he W):PD A X (.Subscript a (.Slice le he none p2) pos) (xO0 ta O W):=by
 exists (QE zN1 ha hl hh).imp λsg H Q h=>by
   obtain⟨rho,n,P,ds,vs,I,ht,hQ⟩:=h;refine⟨rho,n,_,ds,vs,I,ht,λv H1 n1 d J1 h1=>⟨rho,n1,_,_,_,J1,h1,λlo H2 n2 J2 h2=>⟨rho,n2,_,_,_,J2,h2,λhi H3 n3 ⟨os,J3⟩ h3=>?_⟩⟩⟩;obtain⟨fs,rfl,k⟩:=h3;obtain⟨J4,r⟩:=J3.pop;have r':=r;obtain⟨l,xs,rfl,sq,Y⟩:=r.tup_inv;rw[hK];have J:xs.length=fs.length:=Y.length;refine⟨l,xs,rfl,sq.sq,λL=>?_,λL p hp=>hQ _ _ n3 _ ⟨os,J4.newTup (VO Y lo hi) hp⟩ k⟩;rw[J] at L;rw[zt7 L] at k;exact hQ _ H3 n3 _ ⟨os,J4.push r'⟩ k
def Wd:D->Bool
 |.non=>true |.bl _=>true |.int _=>true |.str _=>true |_=>false
def inD(x:D)(es:List D):Bool:=es.any λy=>eqD y x
def zs1{K:W.Frag}{G:QqE}{Z:QqA}{H:Hp}{d:D}{v:V}(h:Wd d=true)(r:Rep K G Z H d v):v=ofS d/\WJ v=true:=by
 cases d<;>first |(have e:=r.toS rfl;subst e;exact⟨rfl,rfl⟩) |(simp[Wd] at h;done)
def xG2{x y:D}(hx:Wd x=true)(J:Wd y=true):eqV (ofS y) (ofS x)=eqD y x:=by
 cases x<;>cases y<;>first |(simp[Wd] at hx;done) |(simp[Wd] at J;done) |(simp[eqV,eqD,ofS];done) |(simp[eqV,eqD,ofS];rfl)
theorem zU6{K:W.Frag}{G:QqE}{Z:QqA}{H:Hp}{x:D}(hx:Wd x=true):∀{es:List D}{vs:List V},es.all Wd=true->Reps K G Z H es vs->inV (ofS x) vs=inD x es/\vs.all WJ=true
 |[],vs,_,r=>by rw[r.nil_inv];exact⟨rfl,rfl⟩
 |d::es,vs,h,r=>by
  rw[all_cons,zL] at h;obtain⟨v,w,rfl,q,t⟩:=r.split;obtain⟨e,f⟩:=zs1 h.1 q;obtain⟨J,L⟩:=zU6 hx h.2 t;subst e
  constructor
  ·unfold inV inD at J ⊢;rw[yR,yR,J,xG2 hx h.1]
  ·rw[all_cons,f,L];rfl
def xQ7(neg:Bool):RD2:=λd1 d2 k=>Wd d1=true/\∃es,(d2=.tup es\/d2=.lst es)/\es.all Wd=true/\k (.bl (if neg then !inD d1 es else inD d1 es))
def xv7{neg:Bool}:ky A (rIn A.K neg) (xQ7 neg):=by
 rintro os n rho sg H ds vs d1 d2 v1 v2 k Q I ⟨h1,es,hd,O,q⟩ W;obtain⟨I1,L⟩:=I.pop;obtain⟨I2,r1⟩:=I1.pop;obtain⟨e1,Y⟩:=zs1 h1 r1;subst e1
 rcases hd with rfl |rfl
 ·obtain ⟨a, xs, e, sq, J⟩ := L.tup_inv;obtain⟨z1,z2⟩:=zU6 h1 O J
  exact⟨a,xs,e,.inr sq.sq,Y,z2,by rw[z1];exact W _ H _ ⟨os,I2.push (Rep.ofS rfl)⟩ q⟩
 ·obtain ⟨a, xs, e, sq, J⟩ := L.lst_inv;obtain⟨z1,z2⟩:=zU6 h1 O J
  exact⟨a,xs,e,.inl sq.sq,Y,z2,by rw[z1];exact W _ H _ ⟨os,I2.push (Rep.ofS rfl)⟩ q⟩
end
end L2
namespace L2
section
variable {A:AC}{X:Cx}{a b c e:Expr}{es:List Expr}{te ta tb tc:TD}{t1:TAD}{pos p:Pos}
def xn4{J:QqL}{σ:St}{H:Hp}{s:Shared}(I:Inv X J σ H s):sysModules<s.heap.objs.size:=yH w6 (I.mod.glob.keeps I.bk).lt
def xm2{P:Program}{w:World}{H:Hp}(h:Heap)(J:sysModules<h.objs.size):ObjOk P w H (h.push { cls:=.type "dict",data:=.dict #[] }) h.objs.size (.dK []):=
 ⟨wo _,beq_eq_false_iff_ne.mpr (Ne.symm (zx J)),[],.nil,Heap.DictOf.new h⟩
end
section
variable {A:AC}{X:Cx}
end
section
variable {A:AC}{X:Cx}{pos p:Pos}
def xW3(t:TF):TD:=λ_ n P=>t [] n P
@[simp] theorem xL5{t rho n P}:xW3 t rho n P=t [] n P:=rfl
end
section
variable {A:AC}{X:Cx}{a b e:Expr}{ta tb:TD}{pos p:Pos}
def zy7(i:Nat)(ta tb:TD):TSD:=λF rho n=>i<rho.length/\ta rho n λd1 L=>tb rho L λd2 J=>JK d1 λes=>JK d2 λfs=>es.length+fs.length<=sizeLine/\F.nx (rho.set i (some (.own (es++fs)))) J
@[simp] theorem zX4{i ta tb F rho n}:zy7 i ta tb F rho n=(i<rho.length/\ta rho n λd1 L=>tb rho L λd2 J=>JK d1 λes=>JK d2 λfs=>es.length+fs.length<=sizeLine/\F.nx (rho.set i (some (.own (es++fs)))) J):=rfl
def xU6:List D->(D->Prop)->Prop:=λes k=>∃i:Int,es=[.int i]/\i.natAbs.log2<1920/\k (.str (toString i))
@[simp] theorem xJ9{i:Int}{k}:xU6 [.int i] k↔(i.natAbs.log2<1920/\k (.str (toString i))):=⟨fun⟨_,e,h⟩=>by cases e;exact h,λh=>⟨_,rfl,h⟩⟩
end
end L2
namespace L2
open PySem PySem.Spec PyProof.Rows HT
section
variable {prog:Program}{w:World}{A:Around}{E:QqV}{s:Shared}
end
section
variable {X:Cx}{e:Expr}{te:TE}{pos p2:Pos}
end
section
variable {A:AC}{X:Cx}{a:Expr}{ta:TD}{pos p2 p3 p4:Pos}
def xV7(ta:TD):TD:=λrho n P=>ta rho n λd J=>Jm d λfs=>P (.tup fs.reverse) J
@[simp] theorem xK9{ta rho n P}:xV7 ta rho n P=ta rho n λd J=>Jm d λfs=>P (.tup fs.reverse) J:=rfl
end
end L2
namespace L2
open PySem PySem.Spec PyProof.Rows PySem.W PySem.Calls PySem.NumText
section
variable {A:AC}{X:Cx}{e:Expr}{te:TD}{pos:Pos}
def zj4(O:TBD)(tb:TSD):TSD:=λF rho n=>∃J:Nat->Rho->Nat->Prop,(∃m,J m rho n)/\∀m rho n,J m rho n->O rho n λb L=>if b=true then tb { F with nx:=λrho' n'=>∃m',m'<m/\J m' rho' n',ct:=λrho' n'=>∃m',m'<m/\J m' rho' n',bk:=F.nx } rho L else F.nx rho L
def zl1{c:Expr}{body:List Stmt}{tc:TBD}{tb:TSD}(hp:PassesOwn (model X.prog X.w) X.A X.env X.xe)(hc:PTD A X c tc)(hb:zg1 A X body tb):PSD A X (.While c body [] pos) (zj4 tc tb):=by
 exists (zA9 hp hc hb).imp λE sg H h=>by
   obtain⟨rho,n,F,ds,vs,I,⟨J,⟨m0,j0⟩,turn⟩,ok⟩:=h;refine⟨λm sg H=>∃rho n,Am A n rho sg H ds vs/\J m rho n,⟨m0,rho,n,I,j0⟩,?_⟩;rintro m aa H1 ⟨O,n1,I1,j1⟩;refine⟨O,n1,_,ds,vs,I1,turn m O n1 j1,λb H2 n2 I2 k=>?_⟩
   cases b with
   |true=>
    rw[if_pos rfl] at k ⊢;refine⟨λsg' H'=>∃m',m'<m/\∃rho n,Am A n rho sg' H' ds vs/\J m' rho n,λsg' H' ⟨m',hm,q⟩=>⟨m',hm,q⟩,O,n2,_,ds,vs,I2,k,?_⟩;exact⟨λL n6 W H6 I6 ⟨m',hm,Y⟩=>⟨m',hm,L,n6,I6,Y⟩,λd n6 v L W H6 I6 Y=>ok.rt _ _ _ _ _ _ I6 Y,λL n6 W H6 I6 Y=>ok.nx _ _ _ _ I6 Y,λL n6 W H6 I6 ⟨m',hm,Y⟩=>⟨m',hm,L,n6,I6,Y⟩⟩
   |false=>
    rw[if_neg zJ] at k ⊢;exact ok.nx _ _ _ _ I2 k
@[simp] theorem xo7{L tb F rho n}:zj4 L tb F rho n=∃J:Nat->Rho->Nat->Prop,(∃m,J m rho n)/\∀m rho n,J m rho n->L rho n λb O=>if b=true then tb { F with nx:=λrho' n'=>∃m',m'<m/\J m' rho' n',ct:=λrho' n'=>∃m',m'<m/\J m' rho' n',bk:=F.nx } rho O else F.nx rho O:=rfl
def xa8(f:Int->Int->Int)(i:Nat)(te:TD):TSD:=λF rho n=>i<rho.length/\∃a:Int,rho[i]?=some (some (.int a))/\te rho n λd J=>∃b:Int,d=.int b/\F.nx (rho.set i (some (.int (f a b)))) J
def zA8{i:Nat}{x:Str}{op:Operator}{f:Int->Int->Int}{pos':Pos}(L:PIp X op (ipI f))(hN:X.N.Nodup)(hi:X.N[i]?=some x)(hx:Loc X.env.scope x)(Y:PD A X e te)(W:X.fn x=true\/X.env.scope.names.lookup x=some .local:=by first |exact .inl rfl |exact .inr rfl |assumption) :
  PSD A X (.AugAssign (.Name x pos') op e pos) (xa8 f i te):=by
 exists (xe6 hN hi hx Y L W).imp λE sg H h=>by
   obtain⟨rho,n,F,ds,vs,⟨os,I⟩,⟨O,a,ha,ht⟩,ok⟩:=h;obtain⟨v,e1,e2⟩:=I.slot i _ ha;have e3:=SlotR.rep (d:=.int a) rfl e2;refine⟨v,e1,rho,n,_,ds,vs,⟨os,I⟩,ht,λw H' n' d ⟨os',J⟩ k=>?_⟩;obtain⟨b,rfl,k⟩:=k;obtain⟨J1,r⟩:=J.pop;refine⟨a,b,e3.int_inv,r.int_inv,ok.nx _ _ _ _ ⟨_,AmO.set (d:=.int (f a b)) (J1.push (Rep.ofS rfl)) O⟩ k⟩
@[simp] theorem xy9{f i te F rho n}:xa8 f i te F rho n=(i<rho.length/\∃a:Int,rho[i]?=some (some (.int a))/\te rho n λd J=>∃b:Int,d=.int b/\F.nx (rho.set i (some (.int (f a b)))) J):=rfl
def xc6:RD2:=λd1 d2 k=>∃x y,d1=.str x/\d2=.str y/\x.length+y.length<=sizeLine/\k (.str (x++y))
@[simp] theorem xq1{x y k}:xc6 (.str x) (.str y) k↔(x.length+y.length<=sizeLine/\k (.str (x++y))):=⟨fun⟨_,_,e,e',h⟩=>by cases e;cases e';exact h,λh=>⟨_,_,rfl,rfl,h⟩⟩
def xc0:RD2:=λd1 d2 k=>∃x i,d1=.str x/\d2=.int i/\MulOk x i/\k (.str (Txt.mul x i))
@[simp] theorem xp6{x i k}:xc0 (.str x) (.int i) k↔(MulOk x i/\k (.str (Txt.mul x i))):=⟨fun⟨_,_,e,e',h⟩=>by cases e;cases e';exact h,λh=>⟨_,_,rfl,rfl,h⟩⟩
end
section
variable {A:AC}{X:Cx}
end
end L2
namespace L2
end L2
namespace L2
open PySem PySem.Spec PyProof.Rows PySem.W PySem.Calls
section
variable {X:Cx}{pos:Pos}
end
section
variable {A:AC}{X:Cx}{a b c:Expr}{pos:Pos}
def xv1(i j k:Nat)(t:TAD):TSD:=λF rho n=>i<rho.length/\j<rho.length/\k<rho.length/\t rho n λes J=>∃d d' d2,es=[d,d',d2]/\F.nx (((rho.set k (some d2)).set j (some d')).set i (some d)) J
@[simp] theorem xy5{i j k t F rho n}:xv1 i j k t F rho n=(i<rho.length/\j<rho.length/\k<rho.length/\t rho n λes J=>∃d d' d2,es=[d,d',d2]/\F.nx (((rho.set k (some d2)).set j (some d')).set i (some d)) J):=rfl
end
end L2
namespace L2.Srt
open PySem PyProof.Rows
def lab(ls:Array Nat)(i:Nat):Nat:=ls.getD i 0
structure Rule(prog:Program)(w:World)(A:Around)(s:Shared)(n:Nat)(item:Nat->Keyed)(kd:SortKind)(r:Nat->Nat->Bool):Prop where
 tot:∀a b,a<n->b<n->a≠b->r a b=!r b a
 tr:∀a b c,a<n->b<n->c<n->r a b=true->r b c=true->r a c=true
 cmp:∀a b,a<n->b<n->a≠b->∀(E:QqV) (Q:Bool->Shared->Prop),Q (r a b) s->wpAny (model prog w) A (keyLt' kd (item a).1 (item b).1) Q E s
structure Now(n:Nat)(item:Nat->Keyed)(kd:SortKind)(ls:Array Nat)(t:SortSt):Prop where
 arr:arrOf t=ls.map item
 kd:kindOf t=kd
 ok:failedOf t=none
 pend:pendingOf t=#[]
 perm:ls.Perm (Array.range n)
def Up(r:Nat->Nat->Bool)(ls:Array Nat)(k:Nat):Prop:=∀i j,i<j->j<k->r (lab ls i) (lab ls j)=true
def xt5(r:Nat->Nat->Bool)(ls:Array Nat)(k:Nat):Prop:=∀i j,i<j->j<k->r (lab ls j) (lab ls i)=true
section
variable {n:Nat}{item:Nat->Keyed}{kd:SortKind}{r:Nat->Nat->Bool}{ls:Array Nat}{t:SortSt}
def Now.size(N:Now n item kd ls t):ls.size=n:=by rw[N.perm.size_eq,yZ]
def Now.nodup(N:Now n item kd ls t):ls.toList.Nodup:=(Array.perm_iff_toList_perm.mp N.perm).nodup_iff.mpr (by rw[Array.toList_range];exact List.nodup_range)
def qw{i:Nat}(h:i<ls.size):ls[i]?=some (lab ls i):=by
 unfold lab;rw[Array.getD_eq_getD_getElem?,xC h];rfl
def Now.lt(N:Now n item kd ls t){i:Nat}(h:i<n):lab ls i<n:=by
 have e:=qw (ls:=ls) (i:=i) (by rw[N.size];exact h)
 have m:lab ls i∈ls:=Array.mem_of_getElem? e;have J:lab ls i∈Array.range n:=(N.perm.mem_iff).mp m
 rwa [Array.mem_range] at J
def Now.ne(N:Now n item kd ls t){i j:Nat}(hi:i<n)(O:j<n)(h:i≠j):lab ls i≠lab ls j:=λe=>by
 have hi':i<ls.toList.length:=by rw[xU,N.size];exact hi
 have hj':j<ls.toList.length:=by rw[xU,N.size];exact O
 have L:=qw (ls:=ls) (i:=i) (by rw[N.size];exact hi)
 have J:=qw (ls:=ls) (i:=j) (by rw[N.size];exact O)
 rw[<- yu,zd hi'] at L;rw[<- yu,zd hj'] at J;have f:=xY.mp N.nodup
 rcases Nat.lt_or_gt_of_ne h with g |g
 ·exact f i j hi' hj' g (by rw[zP L,zP J,e])
 ·exact f j i hj' hi' g (by rw[zP L,zP J,e])
def jL{J:Array Nat}{k v:Nat}(h:J[k]?=some v):lab J k=v:=by
 unfold lab;rw[Array.getD_eq_getD_getElem?,h];rfl
def zv4{J d:Nat}(hs:J<ls.size)(hd:d<=J){k:Nat}(hk:k<ls.size):lab (bubble ls J d) k=if k=J-d then lab ls J else if J-d<k/\k<=J then lab ls (k-1) else lab ls k:=by
 refine jL ?_;rw[getElem?_bubble hs d hd k]
 split
 ·exact qw hs
 ·split
  ·exact qw w5
  ·exact qw hk
def zW3{J d:Nat}(hs:J<ls.size)(hd:d<=J):bubble (ls.map item) J d=(bubble ls J d).map item:=by
 refine Array.ext_getElem? λk=>?_
 rw[getElem?_bubble (by simpa using hs) d hd k]
 simp only[yv];rw[getElem?_bubble hs d hd k]
 split
 ·rfl
 ·split<;>rfl
def zo7{i j:Nat}(J:j<=ls.size){k:Nat}(hk:k<ls.size):lab (mirror ls i j ((j-i)/2)) k=if i<=k/\k<j then lab ls (i+j-1-k) else lab ls k:=by
 refine jL ?_;rw[getElem?_mirror_all J k]
 split
 ·exact qw w5
 ·exact qw hk
def zS9{i j:Nat}(J:j<=ls.size):mirror (ls.map item) i j ((j-i)/2)=(mirror ls i j ((j-i)/2)).map item:=by
 refine Array.ext_getElem? λk=>?_
 rw[getElem?_mirror_all (by simpa using J) k]
 simp only[yv];rw[getElem?_mirror_all J k]
 split<;>rfl
def Now.bub(N:Now n item kd ls t){J d:Nat}(hs:J<n)(hd:d<=J):Now n item kd (bubble ls J d) (setArr t (bubble (arrOf t) J d)):=
 ⟨by show bubble (arrOf t) J d=_;rw[N.arr];exact zW3 (by rw[N.size];exact hs) hd,N.kd,N.ok,N.pend,(bubble_perm _ _ _).trans N.perm⟩
def Now.mir(N:Now n item kd ls t){i j:Nat}(J:j<=n):Now n item kd (mirror ls i j ((j-i)/2)) (setArr t (mirror (arrOf t) i j ((j-i)/2))):=
 ⟨by show mirror (arrOf t) i j _=_;rw[N.arr];exact zS9 (by rw[N.size];exact J),N.kd,N.ok,N.pend,(mirror_perm _ _ _ _).trans N.perm⟩
end
section
variable {prog:Program}{w:World}{A:Around}{E:QqV}{s:Shared}{n:Nat}{item:Nat->Keyed}{kd:SortKind}{r:Nat->Nat->Bool}{ls:Array Nat}{t:SortSt}
def zv8(R:Rule prog w A s n item kd r)(N:Now n item kd ls t){i j:Nat}(hi:i<n)(J:j<n)(L:i≠j){Q:Option Bool->SortSt->Prop}(q:Q (some (r (lab ls i) (lab ls j))) t):wpS (model prog w) A E s (ltAt' i j) Q t:=by
 have W:(arrOf t)[i]?=some (item (lab ls i)):=by rw[N.arr,yv,qw (by rw[N.size];exact hi)];rfl
 have O:(arrOf t)[j]?=some (item (lab ls j)):=by rw[N.arr,yv,qw (by rw[N.size];exact J)];rfl
 rw[ltAt'_eq];refine xE (wpS_get ?_);show wpS (model prog w) A E s (elem' (arrOf t) i >>= λx=>elem' (arrOf t) j >>= λy=>lt' x y) Q t;rw[elem'_eq,elem'_eq,W,O];refine xE (wH (xE (wH ?_)));rw[lt'_eq];refine xE (wpS_get (xE (wpS_lift (wpAny_attempt ?_))));rw[N.kd];exact R.cmp _ _ (N.lt hi) (N.lt J) (N.ne hi J L) _ _ ⟨rfl,wH q⟩
def asc(R:Rule prog w A s n item kd r)(N:Now n item kd ls t){a:Nat}(h1:1<=a)(ha:a<=n)(U:Up r ls a){Q:AscSt->SortSt->Prop}(q:∀m,a<=m->m<=n->Up r ls m->(m<n->r (lab ls m) (lab ls (m-1))=true)->Q (none,m) t):wpS (model prog w) A E s (ascLoop a n) Q t:=by
 unfold ascLoop;refine wpS_forRange (λx c t'=>t'=t/\c=(none,x)/\Up r ls x) ?_ ?_ ⟨rfl,rfl,U⟩
 ·rintro x c t' hx J ⟨e, e', V⟩;subst e e'
  refine xE (zv8 R N J (by show x-1<n;lia) (by show x≠x-1;lia) ?_)
  cases z:r (lab ls x) (lab ls (x-1))
  ·refine wH ⟨rfl, rfl, λi j O W => ?_⟩
   by_cases L:j<x
   ·exact V i j O L
   ·obtain rfl : j = x := by lia
    have up:r (lab ls (j-1)) (lab ls j)=true:=by rw[R.tot _ _ (N.lt w5) (N.lt J) (N.ne w5 J w5),z];rfl
    by_cases hi:i=j-1
    ·rw[hi];exact up
    ·exact R.tr _ _ _ (N.lt w5) (N.lt w5) (N.lt J) (V i (j-1) w5 w5) up
  ·exact wH (q x hx w5 V λ_=>z)
 ·rintro c t' ⟨e, e', V⟩;subst e e'
  have:max a n=n:=w5
  rw[this] at V ⊢;exact q n ha (zn n) V λh=>absurd h (xj n)
def turned(R:Rule prog w A s n item kd r)(N:Now n item kd ls t){a:Nat}(h1:1<=a)(ha:a<=n)(V:xt5 r ls a){Q:Option Nat->SortSt->Prop}(q:∀m ls' t',1<=m->m<=n->Now n item kd ls' t'->Up r ls' m->Q (some m) t'):wpS (model prog w) A E s (tail3 a n) Q t:=by
 unfold tail3;refine xE (wpS_reverse ?_);have N':=N.mir (i:=0) ha;have hsz:=N.size
 refine xE (asc R N' h1 ha (λi j J O=>?_) λm W L U _=>wH (q m _ _ w5 L N' U))
 rw[zo7 w5 w5,zo7 w5 w5,if_pos w5,if_pos w5]
 exact V _ _ w5 w5
def zV3(R:Rule prog w A s n item kd r)(N:Now n item kd ls t){a:Nat}(h1:1<=a)(ha:a<=n)(V:xt5 r ls a){Q:DescSt->SortSt->Prop}(q:∀m,a<=m->m<=n->xt5 r ls m->Q (none,m,0) t):wpS (model prog w) A E s (descLoop a n) Q t:=by
 unfold descLoop;refine wpS_forRange (λx c t'=>t'=t/\c=(none,x,0)/\xt5 r ls x) ?_ ?_ ⟨rfl,rfl,V⟩
 ·rintro x c t' hx J ⟨e, e', W⟩;subst e e'
  refine xE (zv8 R N J (by show x-1<n;lia) (by show x≠x-1;lia) ?_)
  cases z:r (lab ls x) (lab ls (x-1))
  ·have up : r (lab ls (x - 1)) (lab ls x) = true := by rw [R.tot _ _ (N.lt w5) (N.lt J) (N.ne w5 J w5), z]; rfl
   refine xE (zv8 R N (by show x-1<n;lia) J (by show x-1≠x;lia) ?_)
   rw[up]
   exact wH (q x hx w5 W)
  ·refine wH ⟨rfl, rfl, λi j O Y => ?_⟩
   by_cases L:j<x
   ·exact W i j O L
   ·obtain rfl : j = x := by lia
    by_cases hi:i=j-1
    ·rw[hi];exact z
    ·exact R.tr _ _ _ (N.lt J) (N.lt w5) (N.lt w5) z (W i (j-1) w5 w5)
 ·rintro c t' ⟨e, e', W⟩;subst e e'
  have:max a n=n:=w5
  rw[this] at W ⊢;exact q n ha (zn n) W
def run(R:Rule prog w A s n item kd r)(N:Now n item kd ls t)(h1:1<=n){Q:Option Nat->SortSt->Prop}(q:∀m ls' t',1<=m->m<=n->Now n item kd ls' t'->Up r ls' m->Q (some m) t'):wpS (model prog w) A E s (countRun' 0 n) Q t:=by
 rw[countRun0_eq]
 refine xE (asc R N (zn 1) h1 (λi j J hj=>by lia) λm O L U Y=>?_)
 show wpS (model prog w) A E s (if (m == n)=true then _ else if m > 1 then _ else _) Q t
 by_cases e:m=n
 ·rw [if_pos (by simpa using e)]
  exact wH (q m _ _ O L N U)
 ·rw [if_neg (by simpa using e)]
  by_cases g:m > 1
  ·rw [if_pos g]
   refine xE (zv8 R N w5 w5 w5 ?_)
   rw[U 0 (m-1) w5 w5]
   exact wH (q m _ _ O L N U)
  ·rw [if_neg g]
   obtain rfl:m=1:=w5
   unfold descPart;refine xE (wpS_lift (yD ⟨rfl,?_⟩))
   refine xE (zV3 R N w5 w5 (λi j J hj=>?_) λk h4 h5 W=>?_)
   ·obtain ⟨rfl, rfl⟩ : i = 0 /\ j = 1 := by lia
    exact Y w5
   ·show wpS (model prog w) A E s (if 0 > 0 then _ else tail3 k n) Q t
    rw[if_neg (xj 0)]
    exact turned R N w5 h5 W q
def xD7(R:Rule prog w A s n item kd r)(N:Now n item kd ls t){m:Nat}(hm:m<=n)(U:Up r ls m){Q:Bool->SortSt->Prop}(q:∀ls' t',Now n item kd ls' t'->Up r ls' n->Q true t'):wpS (model prog w) A E s (binarySort' 0 n m) Q t:=by
 rw[binarySort'_eq];simp only[Nat.zero_add]
 refine xE (wpS_mono (wpS_forRange (λk c t'=>c=(none,())/\∃ls',Now n item kd ls' t'/\Up r ls' (min k n)) (Q:=λc t'=>c=(none,())/\∃ls',Now n item kd ls' t'/\Up r ls' n) ?_ ?_ ⟨rfl,ls,N,λi j O hj=>U i j O w5⟩) ?_)
 ·rintro k c t' hk L ⟨rfl, ls', N', U'⟩
  have ek:min k n=k:=w5
  rw[ek] at U';have hsz:=N'.size
  refine xE (wpS_mono (wpS_forRange (λx c J=>J=t'/\∃l h,c=(none,l,h)/\l<=h/\h<=k/\h-l<=k-x/\(∀i,i<l->r (lab ls' i) (lab ls' k)=true)/\∀i,h<=i->i<k->r (lab ls' k) (lab ls' i)=true)
   (Q:=λc J=>J=t'/\∃l h,c=(none,l,h)/\l<=k/\(∀i,i<l->r (lab ls' i) (lab ls' k)=true)/\∀i,l<=i->i<k->r (lab ls' k) (lab ls' i)=true) ?_ ?_ ⟨rfl,0,k,rfl,w5,w5,w5,λi hi=>by lia,λi h1 h2=>by lia⟩) ?_)
  ·rintro x c J _ hx ⟨rfl, l, h, rfl, g1, g2, g3, Y, W⟩;dsimp only
   by_cases hd:l>=h
   ·rw [if_pos hd]
    exact wH ⟨rfl,l,h,rfl,w5,Y,λi i1 i2=>W i w5 i2⟩
   ·rw [if_neg hd]
    refine xE (zv8 R N' L w5 w5 ?_)
    cases z:r (lab ls' k) (lab ls' ((l+h)/2))
    ·have up : r (lab ls' ((l + h) / 2)) (lab ls' k) = true := by rw [R.tot _ _ (N'.lt w5) (N'.lt L) (N'.ne w5 L w5), z]; rfl
     refine wH ⟨rfl,(l+h)/2+1,h,rfl,w5,w5,w5,λi hi=>?_,W⟩
     by_cases e:i=(l+h)/2
     ·rw[e];exact up
     ·exact R.tr _ _ _ (N'.lt w5) (N'.lt w5) (N'.lt L) (U' i _ w5 w5) up
    ·refine wH ⟨rfl, l, (l + h) / 2, rfl, by lia, by lia, by lia, Y, λi i1 i2 => ?_⟩
     by_cases e:i=(l+h)/2
     ·rw[e];exact z
     ·exact R.tr _ _ _ (N'.lt L) (N'.lt w5) (N'.lt w5) z (U' _ i w5 w5)
  ·rintro c J ⟨rfl, l, h, rfl, g1, g2, g3, Y, W⟩
   exact⟨rfl,l,h,rfl,w5,Y,λi i1 i2=>W i w5 i2⟩
  ·rintro c J ⟨rfl, l, h, rfl, g1, g2, g3⟩;show wpS (model prog w) A E s (moveDown' k l >>= λ_=>pure (ForInStep.yield (none,()))) _ J;rw[moveDown'_eq]
   refine xE (wpS_modify (wH ⟨rfl,_,N'.bub L (d:=k-l) w5,?_⟩))
   have e2:min (k+1) n=k+1:=w5
   rw[e2];intro i j O hj
   have el:k-(k-l)=l:=w5
   rw[zv4 w5 w5 w5,zv4 w5 w5 w5,el]
   by_cases c1:i=l
   ·rw [if_pos c1, if_neg w5, if_pos w5]
    exact g3 _ w5 w5
   ·rw [if_neg c1]
    by_cases c2:j=l
    ·rw [if_pos c2, if_neg w5]
     exact g2 _ w5
    ·rw [if_neg c2]
     split
     ·split
      ·exact U' _ _ w5 w5
      ·exfalso;lia
     ·split
      ·exact U' _ _ w5 w5
      ·exact U' _ _ w5 w5
 ·rintro c t' ⟨rfl, ls', N', U'⟩
  have:min (max (max m 1) n) n=n:=w5
  rw[this] at U';exact⟨rfl,ls',N',U'⟩
 ·rintro c t' ⟨rfl,ls',N',U'⟩;exact wH (q ls' t' N' U')
def all(R:Rule prog w A s n item kd r)(N:Now n item kd ls t)(h2:2<=n)(aa:n<64){Q:Unit->SortSt->Prop}(q:∀ls' t',arrOf t'=ls'.map item->failedOf t'=none->ls'.Perm (Array.range n)->Up r ls' n->Q () t'):wpS (model prog w) A E s sortRuns' Q t:=by
 rw[sortRuns'_eq];refine xE (wpS_get ?_)
 have ac:(arrOf t).size=n:=by rw[N.arr,Array.size_map,N.size]
 have W:minRun' n n 0=n:=by
  cases n with
  |zero=>lia
  |succ f=>rw[minRun'_succ,if_pos aa]
 dsimp only;simp only[ac,W]
 let Fin:SortSt->Prop:=λt'=>∃ls',arrOf t'=ls'.map item/\failedOf t'=none/\pendingOf t'=#[(0,n,0)]/\ls'.Perm (Array.range n)/\Up r ls' n
 have J:∀{ls':Array Nat}{t':SortSt},Now n item kd ls' t'->Up r ls' n->Fin (setPending t' ((pendingOf t').push (0,n,0))):=λ{ls' t'} N' U'=>⟨ls',N'.arr,N'.ok,by show(pendingOf t').push _=_;rw[N'.pend];rfl,N'.perm,U'⟩
 refine xE (wpS_mono (wpS_forRange (λx c t'=>(x=0/\c=(none,0)/\t'=t)\/(0<x/\c=(none,n)/\Fin t')) (Q:=λc t'=>c=(none,n)/\Fin t') ?_ ?_ (.inl ⟨rfl,rfl,rfl⟩)) ?_)
 ·rintro x c t' _ hx (⟨rfl, rfl, rfl⟩ | ⟨h0, rfl, F⟩)
  ·dsimp only
   rw[if_neg w5]
   simp only[Nat.sub_zero,Nat.min_self,Nat.zero_add]
   refine xE (run R N w5 λm ad O h1 hm N2 U2=>?_)
   dsimp only
   have rest:∀{L:Array Nat}{t3:SortSt},Now n item kd L t3->Up r L n->(pendingOf t3).back?=none:=λY _=>by rw[Y.pend];rfl
   by_cases c:m<n
   ·rw [if_pos c];refine xE (wpS_lift (yD ⟨rfl,?_⟩));refine xE (xD7 R N2 hm U2 λL t3 Y U3=>?_);simp only[Bool.not_true,zZ,if_false];refine xE (wpS_get ?_);rw[rest Y U3]
    exact xE (wpS_modify (wH (.inr ⟨w5,rfl,J Y U3⟩)))
   ·rw [if_neg c]
    obtain rfl:m=n:=w5
    refine xE (wpS_get ?_);rw[rest N2 U2]
    exact xE (wpS_modify (wH (.inr ⟨w5,rfl,J N2 U2⟩)))
  ·dsimp only;rw[if_pos (zn _)];exact wH ⟨rfl,F⟩
 ·rintro c t' (⟨h, _⟩ | ⟨_, h1, F⟩)
  ·lia
  ·exact⟨h1,F⟩
 ·rintro c t' ⟨rfl, ls', e1, e2, e3, e4, e5⟩;refine xE (wpS_mono (wpS_forRange (λ_ c O=>O=t'/\c=(none,())) (Q:=λc O=>O=t'/\c=(none,())) ?_ (λ_ _ h=>h) ⟨rfl,rfl⟩) ?_)
  ·rintro x c O _ _ ⟨rfl, rfl⟩;refine xE (wpS_get ?_)
   rw[if_pos (by rw[e3];exact zn 1)]
   exact wH ⟨rfl,rfl⟩
  ·rintro c O ⟨rfl,rfl⟩;exact wH (q ls' _ e1 e2 e4 e5)
end
abbrev XG(vs:QqW):Nat->Keyed:=λi=>(vs.getD i .none,vs.getD i .none)
def Xz(vs:QqW):vs.toArray.zip vs.toArray=(Array.range vs.length).map (XG vs):=by
 refine Array.ext_getElem? λk=>?_;rw[yv]
 by_cases h:k<vs.length
 ·have L : (Array.range vs.length)[k]? = some k := by rw [Array.getElem?_range, if_pos h]
  rw[L]
  have J:(vs.toArray.zip vs.toArray)[k]?=some (vs[k],vs[k]):=by
   rw[xC (by simpa using h)]
   simp
  rw[J];simp[XG,zM,h]
 ·rw [wB (by simp; lia), wB (by simp; lia)]
  rfl
section
variable {prog:Program}{w:World}{A:Around}{E:QqV}{s:Shared}{r:Nat->Nat->Bool}{kd:SortKind}
abbrev Wf(h:Heap)(a:Addr)(vs:QqW):Heap:=((h.update a (Obj.mapSeq λ_=>#[])).push (seqObj "tuple" vs.toArray 0)).push (seqObj "list" #[] 0)
def zU7{a:Addr}{vs:QqW}{k:Nat}(J:s.heap.get? a=some (seqObj "list" vs.toArray k))(Y:vs.length<64)
  (hk:2<=vs.length->∀(E:QqV) (Q:SortKind->Shared->Prop),Q kd { s with heap:=Wf s.heap a vs }->wpAny (model prog w) A (keyKind' vs.toArray) Q E { s with heap:=Wf s.heap a vs })
  (hR:2<=vs.length->Rule prog w A { s with heap:=Wf s.heap a vs } vs.length (XG vs) kd r) {Q:Fin->Shared->Prop}
  (q:∀ls:Array Nat,ls.Perm (Array.range vs.length)->Up r ls vs.length->Q (.done (.ret .none)) { s with heap:=sortedHeap s.heap a vs (ls.map λi=>vs.getD i .none) }) :
  wpAny (model prog w) A (Builtin.«list.sort» ⟨[.ref a],[]⟩) Q E s:=by
 have la:=zo J;obtain⟨W,at1⟩:∃W,(s.heap.update a (Obj.mapSeq λ_=>#[])).get? a=some (seqObj "list" #[] W):=⟨_,get?_update_seq J _⟩
 have O:(Wf s.heap a vs).get? a=some (seqObj "list" #[] W):=by
  have n1:a≠((s.heap.update a (Obj.mapSeq λ_=>#[])).push (seqObj "tuple" vs.toArray 0)).objs.size:=by rw[size_push',Heap.size_update];exact zx (xX la)
  have n2:a≠(s.heap.update a (Obj.mapSeq λ_=>#[])).objs.size:=by rw[Heap.size_update];exact zx la
  exact(Heap.get?_push_ne _ _ _ n1).trans ((Heap.get?_push_ne _ _ _ n2).trans at1)
 rw[list_sort_plain];refine zb (listItems_at J rfl ?_);refine zb (listUpdate_at J rfl (zb (seqEpoch_at at1 rfl ?_)));refine zb (wpAny_newTuple (zb (wpAny_newList (xp ?_))));show wpAny (model prog w) A _ Q E { s with heap:=Wf s.heap a vs };dsimp only
 have fin:∀(t:SortSt) (ls:Array Nat),arrOf t=ls.map (XG vs)->failedOf t=none->ls.Perm (Array.range vs.length)->Up r ls vs.length ->
   wpAny (model prog w) A (do
    let touched:=(<- seqEpoch a) != W
    Builtin.List.listUpdate (.ref a) λ_=>(arrOf t).map (·.2)
    if let some e:=failedOf t then rule "list.sort.comparison-raised";throw e
    if touched then rule "list.sort.modified";raiseError "ValueError" "list modified during sort"
    ret .none) Q E { s with heap:=Wf s.heap a vs }:=λt ls h1 L h3 h4=>by
  have ea:(arrOf t).map (·.2)=ls.map λi=>vs.getD i .none:=by rw[h1,Array.map_map];rfl
  have es:((arrOf t).map (·.2)).size<=64:=by rw[ea,Array.size_map,h3.size_eq,yZ];lia
  refine zb (seqEpoch_at O rfl ?_)
  refine zb (listUpdate_at O rfl ?_ (hsz2:=by rw[sizeLine_eq];exact zD es w6))
  rw[L,ea];simp only[bne_self_eq_false,zZ,if_false];exact zf (q ls h3 h4)
 by_cases c:vs.toArray.size<2
 ·rw [if_pos c, if_pos c];refine zb (zf ?_);rw[StateT.run_pure];refine zb (zf (fin _ (Array.range vs.length) (Xz vs) rfl (Array.Perm.refl _) λi j aa hj=>?_))
  have:vs.length<2:=by simpa using c
  lia
 ·rw [if_neg c, if_neg c]
  have L:2<=vs.length:=by simpa using c
  refine zb (hk L _ _ ?_);have N0:Now vs.length (XG vs) kd (Array.range vs.length) (SortSt.mk' kd (vs.toArray.zip vs.toArray) #[] 7 none):=⟨Xz vs,rfl,rfl,rfl,Array.Perm.refl _⟩;refine zb (wM (all (hR L) N0 L Y (Q:=λ_ t=>∃ls:Array Nat,arrOf t=ls.map (XG vs)/\failedOf t=none/\ls.Perm (Array.range vs.length)/\Up r ls vs.length) λls t a1 a2 a3 a4=>⟨ls,a1,a2,a3,a4⟩) ?_ λ_ _ e=>e);rintro⟨_,t⟩ s' ⟨rfl,ls,a1,a2,a3,a4⟩;exact fin t ls a1 a2 a3 a4
def zj0{l:Addr}{vs:QqW}(hl:s.heap.IsList l vs.toArray)(Y:vs.length<64)
    (hk:2<=vs.length->∀(h':Heap),(∀b o,s.heap.get? b=some o->h'.get? b=some o)->∀(B:Around),B.units<=A.units+3->∀(E:QqV) (Q:SortKind->Shared->Prop),Q kd { s with heap:=h' }->wpAny (model prog w) B (keyKind' vs.toArray) Q E { s with heap:=h' })
    (hR:2<=vs.length->∀(h':Heap),(∀b o,s.heap.get? b=some o->h'.get? b=some o)->∀(B:Around),B.units<=A.units+3->Rule prog w B { s with heap:=h' } vs.length (XG vs) kd r) {Q:QqV}
    (q:∀ls:Array Nat,ls.Perm (Array.range vs.length)->Up r ls vs.length->Q (.ref (s.heap.objs.size+1)) { s with heap:=sortedAll s.heap vs (ls.map λi=>vs.getD i .none) }) :
    wpAny (model prog w) A (call (.builtin "sorted") [.ref l]) Q E s:=by
  refine Calls.call_function_entry kind_sorted plain_sorted entry_sorted (args_sorted1 _) ?_;unfold Builtin.«sorted»;refine zb (m:=checkCount "sorted" 1 1 _) (zf (zb (collect_list hl (zb (wpAny_newList ?_)))))
  have z1:((s.heap.push (seqObj "list" #[] 0)).update s.heap.objs.size (Obj.mapSeq (·++vs.toArray))).objs.size=s.heap.objs.size+1:=by rw[Heap.size_update,size_push']
  let h1:Heap:=((s.heap.push (seqObj "list" #[] 0)).update s.heap.objs.size (Obj.mapSeq (·++vs.toArray))).push (seqObj "list" vs.toArray 0)
  have at1:h1.get? (s.heap.objs.size+1)=some (seqObj "list" vs.toArray 0):=by rw[<- z1];exact zr _ rfl
  have O:∀b o,s.heap.get? b=some o->h1.get? b=some o:=λb o e=>by
    have W:=zo e;refine ze _ ?_;rw[Heap.get?_update_ne _ _ _ _ (zx W)];exact ze _ e
  have J:∀b o,s.heap.get? b=some o->(Wf h1 (s.heap.objs.size+1) vs).get? b=some o:=λb o e=>by
    have W:=zo e;refine ze _ (ze _ ?_);rw[Heap.get?_update_ne _ _ _ _ (zx (xX W))];exact O b o e
  have eH:∀L:Array Value,sortedHeap h1 (s.heap.objs.size+1) vs L=sortedAll s.heap vs L:=λ_=>rfl
  have body:∀B:Around,B.units<=A.units+3->∀(E:QqV) (P:Fin->Shared->Prop),(∀ls:Array Nat,ls.Perm (Array.range vs.length)->Up r ls vs.length->P (.done (.ret .none)) { s with heap:=sortedAll s.heap vs (ls.map λi=>vs.getD i .none) }) ->
      wpAny (model prog w) B (Builtin.«list.sort» ⟨[.ref (s.heap.objs.size+1)],[]⟩) P E { s with heap:=h1 }:=λB hB E P p=>
    zU7 (s:={ s with heap:=h1 }) at1 Y (λh2 E Q q=>hk h2 _ J B hB E Q q) (λh2=>hR h2 _ J B hB) λls a1 a2=>by
      show P _ { s with heap:=sortedHeap h1 (s.heap.objs.size+1) vs _ };rw[eH];exact p ls a1 a2
  show wpAny _ _ _ _ _ { s with heap:=h1 };rw[z1]
  clear_value h1
  refine zb (xp (wz slot_list_sort ⟨_,at1,rfl⟩ entry_list_sort (body _ ?_ _ _ λls a1 a2=>⟨_,rfl,zf ⟨_,rfl,q ls a1 a2⟩⟩) (args_list_sort _)));show A.units+1+1<=A.units+3;lia
end
end L2.Srt
namespace L2.Srt
open PySem PyProof.Rows PySem.SeqAt
section
variable {prog:Program}{w:World}{M:Model}{A:Around}{E:QqV}{s:Shared}
theorem zg8{α β:Type}{f:α->Sem β}{g:α->β}:∀{l:List α}{Q:List β->Shared->Prop},(∀a∈l,∀Q:β->Shared->Prop,Q (g a) s->wpAny M A (f a) Q E s)->Q (l.map g) s->wpAny M A (l.mapM f) Q E s
 |[],Q,_,q=>by rw[List.mapM_nil];exact zf q
 |a::l,Q,h,q=>by
  rw[List.mapM_cons];refine zb (h a (xo ..) _ (zb (zg8 (λb J=>h b (zj _ J)) (zf q))))
def zg9{α β:Type}{f:α->Sem β}{g:α->β}{l:List α}{Q:Array β->Shared->Prop}(h:∀a∈l,∀Q:β->Shared->Prop,Q (g a) s->wpAny M A (f a) Q E s)(q:Q (l.map g).toArray s):wpAny M A (l.toArray.mapM f) Q E s:=by
 rw[List.mapM_toArray];show wpAny M A (List.toArray <$> l.mapM f) Q E s;rw[map_eq_pure_bind];exact zb (zg8 h (zf q))
def YZ(v:Value):firstOfTuple' v=(do
  if (<- typeOf v) != .type "tuple" then return none
  return (<- Builtin.List.listItems v)[0]?):=rfl
def Tup(h:Heap)(v:Value)(p:Value)(rest:QqW):Prop:=∃a,v=.ref a/\IsTup h a (p::rest).toArray
def Tup.type{v p:Value}{rest:QqW}(t:Tup s.heap v p rest):s.TypeIs v "tuple" := by
 obtain⟨a,rfl,o,J,L,_⟩:=t;exact⟨o,J,L⟩
def Tup.items{v p:Value}{rest:QqW}(t:Tup s.heap v p rest){Q:Array Value->Shared->Prop}(q:Q (p::rest).toArray s):wpAny M A (Builtin.List.listItems v) Q E s:=by
 obtain⟨a,rfl,o,J,L,n,hd⟩:=t;exact listItems_at J hd q
def XW{vs:QqW}{fst:Value->Value}{T:String}(O:2<=vs.length)(ht:∀v∈vs,∃rest,Tup s.heap v (fst v) rest)(L:∀v∈vs,s.TypeIs (fst v) T){Q:SortKind->Shared->Prop}(q:Q (tuples' (Value.type T != Value.type "tuple")) s):wpAny M A (keyKind' vs.toArray) Q E s:=by
  rw[keyKind'_eq];refine zb (zg9 (g:=λv=>some (fst v)) (λv J Q q=>?_) ?_)
  · obtain ⟨rest, t⟩ := ht v J
    rw[YZ];refine zb (wpAny_typeOf t.type ?_)
    have e:(Value.type "tuple" != Value.type "tuple")=false:=by rfl
    rw[e];exact zb (t.items (zf q))
  · have e : (vs.map λv => some (fst v)).toArray.all (·.isSome) = true := by simp
    rw[if_pos e];refine zb (yD ?_)
    have e2:((vs.map λv=>some (fst v)).toArray.filterMap id)=(vs.map fst).toArray:=by
      simp[yt]
    rw[e2,oneTypeOnly'_eq];refine zb (zb (zg9 (g:=λ_=>Value.type T) (λv J Q q=>?_) ?_))
    · obtain ⟨u, hu, rfl⟩ := zi.mp J
      exact wpAny_typeOf (L u hu) q
    · have Y : ((vs.map fst).map λ_ => Value.type T).toArray[0]? = some (Value.type T) := by
        cases vs with
        |nil=>simp at O
        |cons v vs=>simp
      have W:(((vs.map fst).map λ_=>Value.type T).toArray.all (· == Value.type T))=true:=by
        simp only[List.all_toArray,List.all_map,wm];intro _ _;show(Value.type T == Value.type T)=true;simp
      rw[Y];dsimp only;rw[W];exact zf (zf q)
def Ui(f:Bool)(x y:Value):keyLt' (tuples' f) x y=(do
  let xs <- Builtin.List.listItems x
  let ys <- Builtin.List.listItems y
  for ((p,q),i) in (xs.toList.zip ys.toList).zipIdx do
   if !(<- eqBool p q) then return <- oneLt' (f&&i == 0) p q
  return xs.size<ys.size):=rfl
inductive Lex(A:Around)(s:Shared)(f:Bool)(b:Bool):Nat->List Value->List Value->Prop
 |alike {i:Nat}{p q:Value}{ps qs:QqW}:EqAt A s p q true->Lex A s f b (i+1) ps qs->Lex A s f b i (p::ps) (q::qs)
 |here {i:Nat}{p q:Value}{ps qs:QqW}:EqAt A s p q false->(∀(prog:Program) (w:World) (E:QqV) (Q:Bool->Shared->Prop),Q b s->wpAny (model prog w) A (oneLt' (f&&i == 0) p q) Q E s)->Lex A s f b i (p::ps) (q::qs)
def Kt{f b:Bool}{x y p q:Value}{ps qs:QqW}(tx:Tup s.heap x p ps)(ty:Tup s.heap y q qs)(L:Lex A s f b 0 (p::ps) (q::qs)){Q:Bool->Shared->Prop}(h:Q b s):wpAny (model prog w) A (keyLt' (tuples' f) x y) Q E s:=by
 rw[Ui];refine zb (tx.items (zb (ty.items ?_)))
 refine zb (wpAny_forIn_list _ (λrest c s'=>s'=s/\c.1=none/\∃i xs ys,rest=(xs.zip ys).zipIdx i/\Lex A s f b i xs ys) (λc s'=>s'=s/\c.1=some b) ?turn ?fin _ _ ⟨rfl,rfl,0,p::ps,q::qs,by simp,L⟩ |> λz=>wM z ?post λ_ _ e=>e)
 case turn=>
  rintro⟨⟨u,v⟩,k⟩ rest c s' ⟨rfl,W,i,xs,ys,e,L⟩
  cases L with
  |alike O L=>
   rw[wa,zipIdx_cons] at e;injection e with J e2;injection J with J e3;injection J with e4 Y;subst e3 e4 Y;refine zb (O prog w _ _ ?_);simp only[Bool.not_true,zZ,if_false];exact zf ⟨rfl,rfl,_,_,_,e2,L⟩
  |here O ho=>
   rw[wa,zipIdx_cons] at e;injection e with J e2;injection J with J e3;injection J with e4 Y;subst e3 e4 Y;refine zb (O prog w _ _ ?_);simp only[Bool.not_false,if_true];exact zb (ho prog w _ _ (zf ⟨rfl,rfl⟩))
 case fin=>
  rintro c s' ⟨_,_,i,xs,ys,e,L⟩
  cases L<;>(rw[wa,zipIdx_cons] at e;cases e)
 case post=>
  rintro c s' ⟨rfl,W⟩;obtain⟨c1,c2⟩:=c;simp only at W;subst W;exact zf h
def XJ{i j:Int}{t u:Tok}{Q:Bool->Shared->Prop}(h:Q (decide (i<j)) s):wpAny (model prog w) A (oneLt' false (.int i t) (.int j u)) Q E s:=by
 rw[oneLt'_eq];simp only[zZ,if_false];exact zb (show wpAny (model prog w) A (compareOp .Lt (.int i t) (.int j u)) _ _ _ from PyProof.Rows.lt_int (wE h))
def XI{a b:Addr}{xs ys:Array Value}{ns ms:List Int}(ha:IsTup s.heap a xs)(L:IsTup s.heap b ys)(hi:IntsAre xs.toList ns)(J:IntsAre ys.toList ms)(hu:A.units<cLine){Q:Bool->Shared->Prop}(h:Q (HT.ku ns ms) s):wpAny (model prog w) A (oneLt' false (.ref a) (.ref b)) Q E s:=by
 rw[oneLt'_eq];simp only[zZ,if_false];exact zb (show wpAny (model prog w) A (compareOp .Lt (.ref a) (.ref b)) _ _ _ from HT.Yz ha L hi J hu (wE h))
def ZQ(f:Bool){i j:Int}{t u:Tok}{Q:Bool->Shared->Prop}(h:Q (decide (i<j)) s):wpAny (model prog w) A (oneLt' f (.int i t) (.int j u)) Q E s:=by
 cases f with
 |true=>exact oneLt_int h
 |false=>exact XJ h
end
end L2.Srt
namespace L2
open PySem PySem.Spec PyProof.Rows PySem.SeqAt
def xO5(X:Cx)(H:Hp)(f:Bool)(y:V):Prop:=∀J s σ v,Inv X J σ H s->RelV y v->∃p rest,Srt.Tup s.heap v p rest/\s.TypeIs p (if f then "int" else "tuple")
def xO8(X:Cx)(H:Hp)(f:Bool)(y z:V)(b:Bool):Prop:=∀J s σ u v,Inv X J σ H s->RelV y u->RelV z v->∀A:Around,A.units+60<cLine->∃p ps q qs,Srt.Tup s.heap u p ps/\Srt.Tup s.heap v q qs/\Srt.Lex A s f b 0 (p::ps) (q::qs)
def zI8(X:Cx):List V->Hp->VK->Prop:=λxs H Q=>∃(p:Addr) (ys:List V) (f:Bool) (r:Nat->Nat->Bool),xs=[.ref p]/\SqL X.K H p ys/\ys.length<64 /\
 (∀a b,a<ys.length->b<ys.length->a≠b->r a b=!r b a)/\(∀a b c,a<ys.length->b<ys.length->c<ys.length->r a b=true->r b c=true->r a c=true) /\
 (∀a,a<ys.length->xO5 X H f (ys.getD a .non))/\(∀a b,a<ys.length->b<ys.length->a≠b->xO8 X H f (ys.getD a .non) (ys.getD b .non) (r a b)) /\
 ∀ls:Array Nat,ls.Perm (Array.range ys.length)->Srt.Up r ls ys.length->∀l,H l=none->Q (.ref l) (upd H l (.lst (ls.toList.map λi=>ys.getD i .non)))
def Vals.getD{xs:List V}{us:QqW}(h:Vals xs us){i:Nat}(hi:i<xs.length):RelV (xs.getD i .non) (us.getD i .none):=by
 obtain⟨u,e,r⟩:=h.get (zd hi);rw[zM,zM,e,zd hi];exact r
theorem Xn{xs:List V}{us:QqW}(h:Vals xs us):∀{ls:List Nat},(∀i∈ls,i<xs.length)->Vals (ls.map λi=>xs.getD i .non) (ls.map λi=>us.getD i .none)
 |[],_=>.nil
 |i::ls,J=>.cons (h.getD (J i (xo ..))) (Xn h λj L=>J j (zj _ L))
section
variable {X:Cx}
def Vr{n:Nat}(hr:Room n X.A):kW X (.builtin "sorted") (zI8 X):=by
 classical
 intro J s σ H xs us Q I r h;obtain⟨p,ys,f,rr,rfl,hq,hn,tot,tr,Y,cmp,q⟩:=h;obtain⟨u,rfl,hu⟩:=Ye r;have hu':u=.ref p:=hu;subst hu';obtain⟨its,rv,pl,_⟩:=I.list hq;have len:=rv.length;have un:=hr.un
 have aa:∀v∈its,∃i,i<ys.length/\v=its.getD i .none:=λv O=>by
  obtain⟨i,hi,e⟩:=getElem_of_mem O
  exact⟨i,w5,by rw[zM,zd hi,e];rfl⟩
 refine Srt.zj0 (r:=rr) (kd:=tuples' f) pl.isList w5 (λh2 h' keep B hB E Q q=>?_) (λh2 h' keep B hB=>?_) (λls W hU=>?_)
 ·have I' : Inv X J σ H { s with heap := h' } := I.kept (t' := s.toks) keep
  have each:∀v∈its,∃p rest,Srt.Tup h' v p rest/\Shared.TypeIs { s with heap:=h' } p (if f then "int" else "tuple"):=λv O=>by
   obtain⟨i,hi,rfl⟩:=aa v O;exact Y i hi J _ σ _ I' (rv.getD hi)
  refine Srt.XW (s:={ s with heap:=h' }) (T:=if f then "int" else "tuple") (fst:=λv=>if h:∃p rest,Srt.Tup h' v p rest/\Shared.TypeIs { s with heap:=h' } p (if f then "int" else "tuple") then h.choose else v) w5 (λv O=>?_) (λv O=>?_) ?_
  ·have e := each v O;obtain⟨rest,t,_⟩:=e.choose_spec
   exact⟨rest,by rw[dif_pos e];exact t⟩
  ·have e := each v O;obtain⟨rest,_,t⟩:=e.choose_spec
   show Shared.TypeIs _ (if h:_ then _ else _) _
   rw[dif_pos e];exact t
  ·cases f
   ·exact q
   ·exact q
 ·have I' : Inv X J σ H { s with heap := h' } := I.kept (t' := s.toks) keep
  refine⟨λa b ha hb=>tot a b w5 w5,λa b c ha hb hc=>tr a b c w5 w5 w5,λa b ha hb ad E Q q=>?_⟩
  obtain⟨p1,ps,p2,qs,t1,t2,L⟩:=cmp a b w5 w5 ad J _ σ _ _ I' (rv.getD w5) (rv.getD w5) B w5
  exact Srt.Kt t1 t2 L q
 ·obtain ⟨e, he⟩ := sortedAll_at s.heap its (ls.map λi => its.getD i .none);have hf:H (s.heap.objs.size+1)=none:=I.hok.fresh (xv _)
  have ac:∀i∈ls.toList,i<ys.length:=λi hi=>by
   have:=(W.mem_iff).mp (Array.mem_toList_iff.mp hi);rw[Array.mem_range] at this;lia
  rw[<- len] at W hU;refine⟨.ref (s.heap.objs.size+1),_,I.laid (t':=s.toks) (o:=.lst (ls.toList.map λi=>ys.getD i .non)) (λb u e=>sortedAll_old e) (xv _) ?_,rfl,q ls W hU _ hf⟩;refine⟨?_,(ls.toList.map λi=>its.getD i .none),e,Xn rv ac,?_⟩
  ·rw [zg, xU, W.size_eq, yZ]
   exact zD (yI hn) w6
  ·have ea : (ls.toList.map λi => its.getD i .none).toArray = ls.map λi => its.getD i .none := by rw [<- Array.toList_map, yM]
   rw[ea];exact he
end
inductive SKey where
 |n (i:Int) |t (ns:List Int)
 deriving DecidableEq
def SKey.d:SKey->D
 |.n i=>.int i
 |.t ns=>.tup (ns.map D.int)
def SKey.num:SKey->Bool
 |.n _=>true
 |.t _=>false
def SKey.lt:SKey->SKey->Bool
 |.n i,.n j=>decide (i<j)
 |.t ns,.t ms=>HT.ku ns ms
 |_,_=>false
structure SRow where
 key:SKey
 name:Int
 rest:List D
def SRow.d(x:SRow):D:=.tup (x.key.d::.int x.name::x.rest)
def SRow.lt(x y:SRow):Bool:=if x.key=y.key then decide (x.name<y.name) else x.key.lt y.key
theorem QO:∀(xs ys:List Int),xs≠ys->HT.ku xs ys=!HT.ku ys xs
 |[],[],h=>absurd rfl h
 |[],y::ys,_=>rfl
 |x::xs,[],_=>rfl
 | x :: xs, y :: ys, h => by
  rw[HT.kZ,HT.kZ]
  by_cases e:x=y
  ·subst e;rw[if_pos rfl,if_pos rfl]
   exact QO xs ys λz=>h (by rw[z])
  ·rw [if_neg e, if_neg (Ne.symm e)]
   by_cases l:x<y
   ·rw[xm l,zN w5];rfl
   ·rw[zN l,xm w5];rfl
theorem zp2:∀(xs:List Int),HT.ku xs xs=false
 |[]=>rfl
 |x::xs=>by rw[HT.kZ,if_pos rfl];exact zp2 xs
theorem Ko:∀(xs ys O:List Int),HT.ku xs ys=true->HT.ku ys O=true->HT.ku xs O=true
 |[],[],_,h,_=>by cases h
 |[],_::_,[],_,h=>by cases h
 |[],_::_,_::_,_,_=>rfl
 |_::_,[],_,h,_=>by cases h
 |_::_,_::_,[],_,h=>by cases h
 | x :: xs, y :: ys, z :: O, h1, J => by
  rw[HT.kZ] at h1 J ⊢
  by_cases W:x=y
  ·subst W;rw[if_pos rfl] at h1
   by_cases L:x=z
   ·subst L;rw[if_pos rfl] at J ⊢;exact Ko xs ys O h1 J
   ·rw[if_neg L] at J ⊢;exact J
  ·rw [if_neg W] at h1;have l1:=of_decide_eq_true h1
   by_cases L:y=z
   ·subst L;rw[if_neg W];exact h1
   ·rw [if_neg L] at J;have Y:=of_decide_eq_true J
    rw[if_neg w5]
    exact xm w5
def SKey.lt_anti{x y:SKey}(J:x.num=y.num)(h:x≠y):x.lt y=!y.lt x:=by
 cases x with
 | n i =>
  cases y with
  |n j=>
   have:i≠j:=λz=>h (by rw[z])
   simp only[SKey.lt]
   by_cases l:i<j
   ·rw[xm l,zN w5];rfl
   ·rw[zN l,xm w5];rfl
  |t ms=>cases J
 |t ns=>
  cases y with
  |n j=>cases J
  |t ms=>exact QO ns ms λz=>h (by rw[z])
def SKey.lt_irr(x:SKey):x.lt x=false:=by
 cases x with
 |n i=>simp[SKey.lt]
 |t ns=>exact zp2 ns
def SKey.lt_trans{x y z:SKey}(h1:x.lt y=true)(J:y.lt z=true):x.lt z=true:=by
 cases x<;>cases y<;>cases z<;>first
  |(cases h1;done) |(cases J;done)
  |(simp only[SKey.lt,wF] at h1 J ⊢;lia)
  |exact Ko _ _ _ h1 J
def SRow.lt_anti{x y:SRow}(J:x.key.num=y.key.num)(h:x.name≠y.name):x.lt y=!y.lt x:=by
 unfold SRow.lt
 by_cases e:x.key=y.key
 ·rw [if_pos e, if_pos e.symm]
  by_cases l:x.name<y.name
  ·rw[xm l,zN w5];rfl
  ·rw[zN l,xm w5];rfl
 ·rw[if_neg e,if_neg (Ne.symm e)];exact SKey.lt_anti J e
def SRow.lt_trans{x y z:SRow}(h1:x.lt y=true)(O:y.lt z=true):x.lt z=true:=by
 unfold SRow.lt at *
 by_cases L:x.key=y.key
 ·rw [if_pos L] at h1
  by_cases J:y.key=z.key
  ·rw[if_pos J] at O;rw[if_pos (L.trans J)];simp only[wF] at *;lia
  ·rw [if_neg J] at O
   rw[if_neg (by rw[L];exact J),L]
   exact O
 ·rw [if_neg L] at h1
  by_cases J:y.key=z.key
  ·rw [if_neg (by rw [<- J]; exact L), <- J]
   exact h1
  ·rw [if_neg J] at O;have W:=SKey.lt_trans h1 O
   by_cases Y:x.key=z.key
   ·rw[Y,SKey.lt_irr] at W;cases W
   ·rw[if_neg Y];exact W
def YO:SRow:=⟨.n 0,0,[]⟩
def xj2:List D->(D->Prop)->Prop:=λes k=>∃(J:List SRow) (f:Bool),es=[.lst (J.map SRow.d)]/\J.length<64/\(∀x∈J,x.key.num=f)/\(J.map SRow.name).Nodup/\∀rows':List SRow,rows'.Perm J->rows'.Pairwise (λx y=>x.lt y=true)->k (.lst (rows'.map SRow.d))
theorem KB:∀(xs ys:List Int),YF (xs.map D.int) (ys.map D.int)=decide (xs=ys)
 |[],[]=>by unfold YF;rfl
 |[],y::ys=>by unfold YF;simp
 |x::xs,[]=>by unfold YF;simp
 |x::xs,y::ys=>by
  rw[zE,zE];unfold YF;rw[KB xs ys];unfold eqD
  by_cases e:x=y
  ·subst e;simp
  ·simp[e]
def zV4{x y:SKey}(h:x.num=y.num):eqD x.d y.d=decide (x=y):=by
 cases x with
 | n i =>
  cases y with
  |n j=>
   show eqD (.int i) (.int j)=_;unfold eqD
   by_cases e:i=j
   ·subst e;simp
   ·simp[e]
  |t ms=>cases h
 | t ns =>
  cases y with
  |n j=>cases h
  |t ms=>
   show eqD (.tup _) (.tup _)=_;unfold eqD;rw[KB]
   by_cases e:ns=ms
   ·subst e;simp
   ·simp[e]
def zn7(x:SKey):okE x.d 20=true:=by
 cases x with
 |n i=>exact qu
 |t ns=>
  refine(qS (k:=19)).mpr λd hd=>?_;obtain⟨x,_,rfl⟩:=zi.mp hd;exact qu
section
variable {X:Cx}{pins:QqL}{σ:St}{H:Hp}{s:Shared}{G:QqE}{Z:QqA}
def zx6{a b:V}{xs:List V}{its:QqW}(h:Vals (a::b::xs) its):∃p q r,its=p::q::r/\RelV a p/\RelV b q:=by
 cases h with
 |cons h0 t=>
  cases t with
  |cons h1 J=>exact⟨_,_,_,rfl,h0,h1⟩
structure RowAt(X:Cx)(G:QqE)(Z:QqA)(H:Hp)(s:Shared)(x:SRow)(u p:Value)(rest:QqW):Prop where
 tup:∃q,Srt.Tup s.heap u p (q::rest)/\∃t,q=.int x.name t
 key:∃z,Rep X.K G Z H x.key.d z/\RelV z p
def WS(I:Inv X pins σ H s){x:SRow}{v:V}{u:Value}(r:Rep X.K G Z H x.d v)(q:RelV v u):∃p rest,RowAt X G Z H s x u p rest:=by
 unfold SRow.d at r;obtain⟨a,xs,rfl,sq,Y⟩:=r.tup_inv;have e:u=.ref a:=q;subst e;obtain⟨its,rv,pl,_⟩:=I.tuple sq.sq;obtain⟨z0,O,rfl,r0,L⟩:=Y.split;obtain⟨z1,xs2,rfl,r1,W⟩:=L.split;have e1:=r1.int_inv;subst e1;obtain⟨p0,p1,J,rfl,h0,t,rfl⟩:=zx6 rv;exact⟨p0,J,⟨_,⟨a,rfl,pl⟩,t,rfl⟩,z0,r0,h0⟩
def Qw(I:Inv X pins σ H s){x:SRow}{u p:Value}{rest:QqW}(R:RowAt X G Z H s x u p rest):s.TypeIs p (if x.key.num then "int" else "tuple"):=by
 obtain⟨z,r,q⟩:=R.key
 cases h:x.key with
 |n i=>
  rw[h] at r;have e:z=.int i:=r.int_inv;subst e;obtain⟨t,rfl⟩:=q;exact typeIs_int s i t
 |t ns=>
  rw[h] at r;obtain⟨a,xs,rfl,sq,O⟩:=Rep.tup_inv (show Rep X.K G Z H (.tup (ns.map D.int)) z from r);have e:p=.ref a:=q;subst e;obtain⟨its,rv,⟨o,J,L,_⟩,_⟩:=I.tuple sq.sq;exact⟨o,J,L⟩
def zj8(I:Inv X pins σ H s){x y:SRow}{u v p q:Value}{ps qs:QqW}(W:x.key.num=y.key.num)(hd:x.name≠y.name)(R:RowAt X G Z H s x u p ps)(R':RowAt X G Z H s y v q qs){A:Around}(hu:A.units+60<cLine) :
  ∃p ps q qs,Srt.Tup s.heap u p ps/\Srt.Tup s.heap v q qs/\Srt.Lex A s x.key.num (x.lt y) 0 (p::ps) (q::qs):=by
 obtain⟨n1,t1,ac,rfl⟩:=R.tup;obtain⟨n2,t2,aa,rfl⟩:=R'.tup;obtain⟨z1,L,q1⟩:=R.key;obtain⟨z2,J,q2⟩:=R'.key
 have E:=(Kz I 20 x.key.d y.key.d z1 z2 p q A (zn7 _) (zn7 _) L J q1 q2 w5).1
 rw[zV4 W] at E;refine⟨p,_,q,_,t1,t2,?_⟩
 by_cases e:x.key=y.key
 ·rw [xm e] at E;refine .alike E (.here ?_ ?_)
  ·have := EqAt.int_int (A := A) (s := s) x.name ac y.name aa
   have Y:(x.name == y.name)=false:=by simpa using hd
   rw[Y] at this;exact this
  ·intro prog w E Q h;unfold SRow.lt at h;rw[if_pos e] at h;exact Srt.ZQ _ h
 ·rw [zN e] at E;refine .here E ?_;intro prog w E Q h;unfold SRow.lt at h;rw[if_neg e] at h
  cases hx:x.key with
  | n i =>
   cases O:y.key with
   |n j=>
    rw[hx] at L h;rw[O] at J h;have e1:z1=.int i:=L.int_inv;have Y:z2=.int j:=J.int_inv;subst e1 Y;obtain⟨a1,rfl⟩:=q1;obtain⟨a2,rfl⟩:=q2;exact Srt.ZQ _ h
   |t ms=>rw[hx,O] at W;cases W
  | t ns =>
   cases O:y.key with
   |n j=>rw[hx,O] at W;cases W
   |t ms=>
    rw[hx] at L h;rw[O] at J h;obtain⟨a,xs,rfl,sq,rs⟩:=Rep.tup_inv (show Rep X.K G Z H (.tup (ns.map D.int)) z1 from L);obtain⟨b,ys,rfl,sq',rs'⟩:=Rep.tup_inv (show Rep X.K G Z H (.tup (ms.map D.int)) z2 from J);have e1:p=.ref a:=q1;have Y:q=.ref b:=q2;subst e1 Y;obtain⟨its,rv,pl,_⟩:=I.tuple sq.sq;obtain⟨its',rv',pl',_⟩:=I.tuple sq'.sq;rw[kq rs] at rv;rw[kq rs'] at rv';show wpAny _ _ (oneLt' (false&&_) _ _) _ _ _
    exact Srt.XI pl pl' (vy rv) (vy rv') w5 h
end
def Reps.getD{K:W.Frag}{G:QqE}{Z:QqA}{H:Hp}{α:Type}{enc:α->D}{J:List α}{a0:α}{xs:List V}(L:Reps K G Z H (J.map enc) xs){i:Nat}(hi:i<J.length):Rep K G Z H (enc (J.getD i a0)) (xs.getD i .non):=by
 obtain⟨v,e,r⟩:=L.get (i:=i) (d:=enc J[i]) (by rw[zw,zd hi];rfl)
 rw[zM,zM,e,zd hi];exact r
theorem Xx{K:W.Frag}{G:QqE}{Z:QqA}{H:Hp}{α:Type}{enc:α->D}{J:List α}{a0:α}{xs:List V}(L:Reps K G Z H (J.map enc) xs):∀{ls:List Nat},(∀i∈ls,i<J.length)->Reps K G Z H ((ls.map λi=>J.getD i a0).map enc) (ls.map λi=>xs.getD i .non)
 |[],_=>.nil
 |i::ls,O=>.cons (L.getD (O i (xo ..))) (Xx L λj Y=>O j (zj _ Y))
def Kj{α:Type}(a0:α)(J:List α):(List.range J.length).map (λi=>J.getD i a0)=J:=by
 apply List.ext_getElem
 ·simp
 ·intro i h1 L;simp[zM,L]
def QY{A:AC}{X:Cx}(hK:X.K=A.K):vA A (zI8 X) xj2:=by
 rintro os n rho sg H ds vs es ws k Q I rs ⟨L,f,rfl,hl,hf,ac,q⟩ hQ;obtain⟨v,rfl,r⟩:=kO rs;obtain⟨a,xs,rfl,sq,rr⟩:=r.lst_inv
 have len:xs.length=L.length:=by rw[rr.length,zg]
 have mem:∀i,i<L.length->L.getD i YO∈L:=λi hi=>by
  rw[zM,zd hi];exact wl hi
 have Y:∀i j,i<L.length->j<L.length->i≠j->(L.getD i YO).name≠(L.getD j YO).name:=λi j hi W O e=>by
  have g:∀i (hi:i<L.length),(L.map SRow.name)[i]'(by simpa using hi)=(L.getD i YO).name:=λi hi=>by
   rw[List.getElem_map,zM,zd hi];rfl
  have f:=xY.mp ac
  rcases Nat.lt_or_gt_of_ne O with l |l
  ·exact f i j (by simpa using hi) (by simpa using W) l (by rw[g i hi,g j W,e])
  ·exact f j i (by simpa using W) (by simpa using hi) l (by rw[g i hi,g j W,e])
 have num:∀i,i<L.length->(L.getD i YO).key.num=f:=λi hi=>hf _ (mem i hi);rw[<- hK] at rr
 refine⟨a,xs,f,λi j=>(L.getD i YO).lt (L.getD j YO),rfl,by rw[hK];exact sq.sq,w5,λi j hi W O=>SRow.lt_anti (by rw[num i w5,num j w5]) (Y i j w5 w5 O),λi j l _ _ _ h1 h2=>SRow.lt_trans h1 h2,λi hi=>?_,λi j hi W O=>?_,λls hp hU l hl'=>?_⟩
 ·intro aa s σ u J ru
  obtain⟨p,rest,R⟩:=WS J (rr.getD (enc:=SRow.d) (a0:=YO) w5) ru
  obtain⟨z,t,_⟩:=R.tup;have ty:=Qw J R
  rw[num i w5] at ty
  exact⟨p,_,t,ty⟩
 ·intro aa s σ u v J ru rv B hB
  obtain⟨p,ps,R⟩:=WS J (rr.getD (enc:=SRow.d) (a0:=YO) w5) ru
  obtain⟨p',ps',R'⟩:=WS J (rr.getD (enc:=SRow.d) (a0:=YO) w5) rv
  have c:=zj8 J (by rw[num i w5,num j w5]) (Y i j w5 w5 O) R R' hB
  rw[num i w5] at c
  exact c
 ·rw [len] at hp hU
  have ad:∀i∈ls.toList,i<L.length:=λi hi=>by
   have:=(hp.mem_iff).mp (Array.mem_toList_iff.mp hi)
   rwa [Array.mem_range] at this
  have hsz:ls.size=L.length:=by rw[hp.size_eq,yZ]
  rw[hK] at rr;refine hQ _ _ _ ⟨os,I.newLst (Xx (a0:=YO) rr ad) hl'⟩ (q _ ?_ ?_)
  ·have p1 : ls.toList.Perm (List.range L.length) := by
    have:=Array.perm_iff_toList_perm.mp hp
    rwa [Array.toList_range] at this
   have p2:=p1.map λi=>L.getD i YO
   rwa [Kj] at p2
  ·rw [xn, xY];intro i j hi W O
   have hi':i<ls.size:=by simpa using hi
   have hj':j<ls.size:=by simpa using W
   have u:=hU i j O w5
   have g:∀i (hi:i<ls.size),Srt.lab ls i=ls.toList[i]'(by simpa using hi):=λi hi=>by
    refine Srt.jL ?_
    rw[<- yu,zd (by simpa using hi)]
   rw[g i hi',g j hj'] at u;exact u
def za6{X:Cx}(hc:X.calm=true):kW X (.builtin "sum") (λxs H Q=>∃(p:Addr) (ns:List Int),xs=[.ref p]/\SqL X.K H p (ns.map V.int)/\Q (.int ns.sum) H):=by
 intro L s σ H xs us Q I r h;obtain⟨p,ns,rfl,Y,q⟩:=h;obtain⟨u,rfl,hu⟩:=Ye r;have e:u=.ref p:=hu;subst e;obtain⟨its,rv,pl,_⟩:=I.list Y;have hi:=vy rv;obtain⟨ys,J⟩:=hi.allInts.items;have O:=pl.isList;rw[J] at O;refine sum_intListG (I.ok.hd hc) O λh' tk t' hk=>?_;refine⟨.int ns.sum,H,I.kept hk,⟨t',?_⟩,q⟩
 rw[preSum_eq,yl (by simp)]
 have W:=nums_intItems ys;rw[<- J] at W;rw[<- W];show Value.int (numsOf its.toArray.toList).sum t'=_;rw[show its.toArray.toList=its from rfl,hi.numsOf]
def xU5:List D->(D->Prop)->Prop:=λes k=>∃ns:List Int,es=[.lst (ns.map D.int)]/\k (.int ns.sum)
def zL8{A:AC}:vA A (λxs H Q=>∃(p:Addr) (ns:List Int),xs=[.ref p]/\SqL A.K H p (ns.map V.int)/\Q (.int ns.sum) H) xU5:=by
 rintro os n rho sg H ds vs es ws k Q I J ⟨ns,rfl,q⟩ O;obtain⟨v,rfl,r⟩:=kO J;obtain⟨a,xs,rfl,sq,L⟩:=r.lst_inv;have e:=kq L;subst e;exact⟨a,ns,rfl,sq.sq,O _ _ _ ⟨os,I.push (Rep.ofS (d:=.int ns.sum) rfl)⟩ q⟩
structure Blt2(mg:QqM):Prop where
 sum:mg "sum" = none
def zM0:bootBuiltins "sum" = some (.builtin "sum"):=x3
section
variable {A:AC}{X:Cx}{a:Expr}{ta:TD}{pos:Pos}
def zp1(d:D)(k:List D->Prop):Prop:=∃fs,(d=.lst fs\/d=.fz fs)/\k fs
@[simp] theorem xA8{fs:List D}{k}:zp1 (.lst fs) k↔k fs:=⟨fun⟨_,e,h⟩=>by rcases e with e |e<;>cases e;exact h,λh=>⟨_,.inl rfl,h⟩⟩
def xN9(ta:TD)(J L:TOD):TD:=λrho n P=>ta rho n λd Y=>J rho Y λlo W=>L rho W λhi O=>zp1 d λfs=>P (.lst (Vp fs lo hi)) O
@[simp] theorem xK6{ta J L rho n P}:xN9 ta J L rho n P=ta rho n λd Y=>J rho Y λlo W=>L rho W λhi O=>zp1 d λfs=>P (.lst (Vp fs lo hi)) O:=rfl
def zm1{le he:Option Expr}{O W:TOD}{p2:Pos}(hK:X.K=A.K)(ha:PD A X a ta)(hl:POD A X le O)(hh:POD A X he W):PD A X (.Subscript a (.Slice le he none p2) pos) (xN9 ta O W):=by
 exists (QE zN2 ha hl hh).imp λsg H Q h=>by
   obtain⟨rho,n,P,ds,vs,I,ht,hQ⟩:=h;refine⟨rho,n,_,ds,vs,I,ht,λv H1 n1 d J1 h1=>⟨rho,n1,_,_,_,J1,h1,λlo H2 n2 J2 h2=>⟨rho,n2,_,_,_,J2,h2,λhi H3 Y ⟨os,J3⟩ h3=>?_⟩⟩⟩;obtain⟨fs,hd,k⟩:=h3;obtain⟨J4,r⟩:=J3.pop;rw[hK]
   rcases hd with rfl |rfl
   ·obtain⟨l,xs,rfl,sq,J⟩:=r.lst_inv;exact⟨l,xs,rfl,sq.sq,λp L=>hQ _ _ Y _ ⟨os,J4.newLst (VO J lo hi) L⟩ k⟩
   ·obtain⟨l,xs,rfl,sq,J⟩:=r.fz_inv;exact⟨l,xs,rfl,sq,λp L=>hQ _ _ Y _ ⟨os,J4.newLst (VO J lo hi) L⟩ k⟩
def zt3(i:Nat):TD:=λrho n P=>∃es,rho[i]?=some (some (.own es))/\okE (.lst es) 20=true/\P (.bl (!YF es [])) n
@[simp] theorem xs3{i rho n P}:zt3 i rho n P=∃es,rho[i]?=some (some (.own es))/\okE (.lst es) 20=true/\P (.bl (!YF es [])) n:=rfl
def zi5{i:Nat}(hK:X.K=A.K){sg:St}{H:Hp}{Q:VK}(h:tOf A (zt3 i) sg H Q):tOp (xo6 X) (xH6 i) (tOf A (xG5 xG9)) sg H Q:=by
 obtain⟨rho,n,P,ds,vs,⟨os,I⟩,⟨es,hi,ok,q⟩,hQ⟩:=h;obtain⟨a,xs,e1,hH,rs,_⟩:=I.own (es':=es) (xs':=[]) hi;refine⟨.ref a,e1,rho,n,λd n1=>d=.lst []/\n1=n,ds,vs,⟨os,I⟩,⟨wo _,rfl,rfl⟩,λv2 O n2 d2 ⟨L,J⟩ k=>?_⟩;obtain⟨rfl,rfl⟩:=k;obtain⟨J1,r2⟩:=J.pop;obtain⟨a',xs',e2,hH',rs',_⟩:=J1.own (es':=es) (xs':=[]) hi;rw[e1] at e2;cases e2;have no:∀b,O b≠none->False->Zof A L b:=λ_ _ z=>z.elim
 have rA:Rep X.K A.G (λ_=>False) O (.lst es) (.ref a):=by
  rw[hK];exact .lst_mk ⟨λz=>z,hH'⟩ (Reps.mono no (λ_ _ _ e=>e) _ _ rs')
 have rB:Rep X.K A.G (λ_=>False) O (.lst []) v2:=by
  rw[hK];exact Rep.mono no (λ_ _ _ e=>e) _ _ r2
 have W:okE (.lst []) 20=true:=by unfold okE;rfl
 refine⟨eqD (.lst es) (.lst []),λaa s σ v u J rx ry B hu=>Kz J 20 _ _ _ _ v u B ok W rA rB rx ry w5,?_⟩
 have Y:eqD (.lst es) (.lst [])=YF es []:=by unfold eqD;rfl
 rw[Y];exact hQ _ O _ _ ⟨L,J1.push (Rep.ofS (d:=.bl (!YF es [])) rfl)⟩ q
def zk8{i:Nat}{x:Str}{L p2:Pos}{n:Nat}(W:Room n X.A)(hK:X.K=A.K)(Y:X.N[i]?=some x:=by rfl)(O:Vis X.env.scope x:=by first |exact Or.inl rfl |exact Or.inr (Or.inl rfl) |exact Or.inr (Or.inr rfl))(hd:(x == ("__debug__" : Str))=false:=by decide)
  (J:(x == ("__classdict__" : Str))=false:=by decide):PTD A X (.Compare (.Name x L) [.NotEq] [.List [] p2] pos) (zt2 (zt3 i)):=by exists (zk9 (Vb W) (qC Y O hd J) (vN (A:=A) zm) (wK _)).imp λ_ _ _=>VF λ_ _ _=>zi5 hK
end
mutual
def xH4:D->PyData
 |.int i=>.int i
 |.tup ds=>.tuple (zY6 ds)
 |_=>.none
def zY6:List D->List PyData
 |[]=>[]
 |d::ds=>xH4 d::zY6 ds
end
mutual
def okS:D->Nat->Bool
 |.int i,_=>decide (i.natAbs.log2<1920)
 |.tup ds,k=>match k with
  |0=>false
  |k+1=>xN1 ds k
 |_,_=>false
def xN1:List D->Nat->Bool
 |[],_=>true
 |d::ds,k=>okS d k&&xN1 ds k
end
mutual
def zS4:D->Nat
 |.tup ds=>zK1 ds+1
 |_=>1
def zK1:List D->Nat
 |[]=>0
 |d::ds=>zS4 d+zK1 ds
end
def zZ8(d:D):Str:=(xH4 d).shown
section
variable {X:Cx}{pins:QqL}{σ:St}{H:Hp}{s:Shared}{G:QqE}{Z:QqA}
end
def xF0:List D->(D->Prop)->Prop:=λes k=>∃ds,es=[.tup ds]/\okS (.tup ds) 15=true/\zS4 (.tup ds)<=8000/\k (.str (zZ8 (.tup ds)))
@[simp] theorem xA9{ds k}:xF0 [.tup ds] k↔(okS (.tup ds) 15=true/\zS4 (.tup ds)<=8000/\k (.str (zZ8 (.tup ds)))):=⟨fun⟨_,e,h⟩=>by cases e;exact h,λh=>⟨_,rfl,h⟩⟩
end L2
namespace L2
section
variable {X:Cx}{A:AC}
def xb8:RD2:=λd1 d2 k=>∃es i,d1=.tup es/\d2=.int i/\es≠[]/\0<=i/\es.length*i.toNat<=sizeLine/\k (.tup (replicate i.toNat es).flatten)
@[simp] theorem xp3{es i k}:xb8 (.tup es) (.int i) k↔(es≠[]/\0<=i/\es.length*i.toNat<=sizeLine/\k (.tup (replicate i.toNat es).flatten)):=⟨fun⟨_,_,e,e',h⟩=>by cases e;cases e';exact h,λh=>⟨_,_,rfl,rfl,h⟩⟩
end
end L2
namespace L2.Srt
open PySem PyProof.Rows
section
variable {prog:Program}{w:World}{A:Around}{E:QqV}{s:Shared}
end
end L2.Srt
namespace L2
section
variable {X:Cx}{A:AC}{pos:Pos}{e:Expr}{t1:TAD}
def xa6:TSD:=λ_ _ _=>False
@[simp] theorem xA6{F:EndsD}{rho:Rho}{n:Nat}:xa6 F rho n↔False:=Iff.rfl
end
section
variable {K:W.Frag}{G G':QqE}{Z:QqA}{H:Hp}
end
section
variable {A:AC}{X:Cx}{e:Expr}{es:List Expr}{t1:TAD}{t2:TSD}{pos p:Pos}
end
def zF2(ks:List Key)(k:Key):Bool:=ks.any λj=>decide (j=k)
def VQ(ks:List Key)(k:Key):List Key:=if zF2 ks k=true then ks else ks++[k]
def zk7{α:Type}(ks:List Key)(xs:List α)(k:Key)(x:α):List α:=if zF2 ks k=true then List.zipWith (λj y=>if j=k then x else y) ks xs else xs++[x]
theorem zp9:∀(ks:List Key) (xs:List V) (k:Key),ks.length=xs.length->((YY ks xs).any λJ=>decide (J.1=k))=zF2 ks k
 |[],xs,k,_=>rfl
 |j::ks,[],k,h=>by simp at h
 |j::ks,x::xs,k,h=>by
  have L:=zp9 ks xs k (by simpa using h)
  show(decide (j=k)||(YY ks xs).any _)=(decide (j=k)||zF2 ks k);rw[L]
theorem zp8:∀(ks:List Key) (xs:List V) (k:Key) (v:V),(YY ks xs).map (λJ=>if J.1=k then(J.1,v) else J)=YY ks (List.zipWith (λj y=>if j=k then v else y) ks xs)
 |[],xs,k,v=>by simp[YY]
 |j::ks,[],k,v=>by simp[YY]
 |j::ks,x::xs,k,v=>by
  have L:=zp8 ks xs k v
  show(if j=k then(j,v) else(j,x))::(YY ks xs).map _=(j,if j=k then v else x)::YY ks _
  rw[L]
  by_cases e:j=k<;>simp[e]
def zE1{ks:List Key}{xs:List V}(k:Key)(v:V)(h:ks.length=xs.length):YY ks xs++[(k,v)]=YY (ks++[k]) (xs++[v]):=by
 unfold YY;rw[List.zipWith_append h];rfl
def zT6{ks:List Key}{xs:List V}(k:Key)(v:V)(h:ks.length=xs.length):zc6 (YY ks xs) k v=YY (VQ ks k) (zk7 ks xs k v):=by
 unfold zc6 VQ zk7;rw[zp9 ks xs k h]
 by_cases e:zF2 ks k=true
 ·rw[if_pos e,if_pos e,if_pos e,zp8]
 ·rw[if_neg e,if_neg e,if_neg e,zE1 k v h]
def JA{α:Type}{ks:List Key}{xs:List α}(k:Key)(x:α)(h:ks.length=xs.length):(VQ ks k).length=(zk7 ks xs k x).length:=by
 unfold VQ zk7
 split
 ·rw[wD,<- h];lia
 ·simp[h]
def xe2{α:Type}{ks:List Key}{xs:List α}(k:Key)(x:α)(h:ks.length=xs.length):(VQ ks k).length<=ks.length+1:=by
 unfold VQ
 split<;>simp
section
variable {K:W.Frag}{G:QqE}{Z:QqA}{H:Hp}
theorem Reps.zipPut{d:D}{v:V}(r:Rep K G Z H d v)(k:Key):∀{ks:List Key}{es:List D}{xs:List V},Reps K G Z H es xs->Reps K G Z H (List.zipWith (λj y=>if j=k then d else y) ks es) (List.zipWith (λj y=>if j=k then v else y) ks xs)
 |[],es,xs,h=>.nil
 |j::ks,[],xs,h=>by rw[h.nil_inv];exact .nil
 |j::ks,e::es,xs,h=>by
  obtain⟨x,L,rfl,q,t⟩:=h.split;have J:=Reps.zipPut r k (ks:=ks) t
  show Reps K G Z H ((if j=k then d else e)::_) ((if j=k then v else x)::_)
  by_cases z:j=k
  ·rw[if_pos z,if_pos z];exact .cons r J
  ·rw[if_neg z,if_neg z];exact .cons q J
def Reps.put{d:D}{v:V}{ks:List Key}{es:List D}{xs:List V}(h:Reps K G Z H es xs)(r:Rep K G Z H d v)(k:Key):Reps K G Z H (zk7 ks es k d) (zk7 ks xs k v):=by
 unfold zk7
 split
 ·exact Reps.zipPut r k h
 ·exact h.append (.cons r .nil)
end
def keyOf:D->Option Key
 |.int i=>some (Sum.inl i)
 |.str x=>some (Sum.inr x)
 |_=>none
@[simp] theorem xj1{i:Int}:keyOf (.int i)=some (Sum.inl i):=rfl
@[simp] theorem xj0{i:Str}:keyOf (.str i)=some (Sum.inr i):=rfl
def XX{K:W.Frag}{G:QqE}{Z:QqA}{H:Hp}{d:D}{v:V}{k:Key}(h:Rep K G Z H d v)(e:keyOf d=some k):v=kV k:=by
 cases d with
 |int i=>cases e;exact h.int_inv
 |str i=>cases e;exact h.toS rfl
 |_=>simp[keyOf] at e
section
variable {A:AC}{X:Cx}{tg iter kx vx:Expr}{ifs:List Expr}{scope:Scope}{own M:List Str}{pos:Pos}{it:TID}{g:TGD}{tt:TBD}{tk tv:TD}
def zs9(own:Nat)(g:TGD)(tt:TBD)(tk tv:TD)(rho:Rho)(P:D->Nat->Prop)(items:List D)(Y:Nat):Prop:=items.length<=sizeLine/\∃J:Nat->List Key->List D->Nat->Prop,J 0 [] [] Y /\
 (∀i d ks es n,items[i]?=some d->J i ks es n->g d (replicate own none++rho) λrho'=>rho'.drop own=rho/\tt rho' n λc L=>if c=true then tk rho' L λdk W=>tv rho' W λdv O=>∃k,keyOf dk=some k/\J (i+1) (VQ ks k) (zk7 ks es k dv) O else J (i+1) ks es L) /\
 ∀ks es n,J items.length ks es n->P (.dct ks es) n
def zt6(it:TID)(own:Nat)(g:TGD)(tt:TBD)(tk tv:TD):TD:=λrho n P=>it rho n (zs9 own g tt tk tv rho P)
@[simp] theorem xs6{it own g tt tk tv rho n P}:zt6 it own g tt tk tv rho n P=it rho n (zs9 own g tt tk tv rho P):=rfl
def AmO.newDct{os n rho sg H ds vs}{ks:List Key}{es:List D}{xs:List V}{p:Addr}(I:AmO A os n rho sg H ds vs)(r:Reps A.K A.G (Zof A os) H es xs)(L:H p=none):AmO A os n rho sg (upd H p (.dK (YY ks xs))) (.dct ks es::ds) (.ref p::vs):=by
 have J:∀a u,H a=some u->upd H p (.dK (YY ks xs)) a=some u:=λa u e=>by
  rw[xZ λz=>by rw[z,L] at e;cases e];exact e
 refine⟨I.len,λi d e=>?_,?_,I.nd,λq O=>?_,λa e=>?_,I.gz,λa u h e=>J a u (I.fr a u h e),I.z0⟩
 ·obtain⟨v,e1,e2⟩:=I.slot i d e;exact⟨v,e1,SlotR.mono (λ_ _ z=>z) (λa u _ e=>J a u e) (λa xs m q=>⟨m,J a _ q⟩) _ _ e2⟩
 ·refine .cons ?_ (Reps.mono (λ_ _ z=>z) (λa u _ e=>J a u e) _ _ I.pend);unfold Rep;refine⟨p,xs,rfl,⟨λz=>?_,wX⟩,Reps.mono (λ_ _ z=>z) (λa u _ e=>J a u e) _ _ r⟩;exact absurd L (I.zH p z)
 ·obtain⟨f1,Y,W⟩:=I.fresh q O;exact⟨f1,Y,W.of λu e=>J _ _ e⟩
 ·obtain⟨x,y,z,q,r⟩:=I.st a e;exact⟨x,y,z,J _ _ q,r⟩
def zi6{sg:St}{H:Hp}{Q:VK}{m:Nat}(h:tOf A (zt6 it m g tt tk tv) sg H Q):zI1 (iOf A it) m (gOf A m g) (zb8 A tt) (tOf A tk) (tOf A tv) sg H Q:=by
 obtain⟨rho,n,P,ds,vs,I,ht,hQ⟩:=h;refine⟨rho,n,_,ds,vs,I,ht,λJ H' n' items es ws I1 hl hJ k=>?_⟩;obtain⟨hsz,W,w0,turn,fin⟩:=k
 refine⟨λi mm ad H=>mm=items.length-i/\i<=items.length/\∃ks L xs n,ad=YY ks xs/\ks.length=xs.length/\ks.length<=i/\xs.length=L.length/\Am A n rho sg H (es++(L++ds)) (ws++(xs++vs))/\W i ks L n,
  ⟨items.length,rfl,wo _,[],[],[],n',rfl,rfl,zn _,rfl,I1,w0⟩,?_⟩
 rintro i mm ad H3 ⟨rfl,hi,ks,L,xs,n3,rfl,Y,ar,aa,⟨os,I3⟩,w3⟩
 have aq:(YY ks xs).length=ks.length:=by unfold YY;rw[wD];lia
 obtain⟨j1,j2⟩:=hJ n3 rho sg H3 (L++ds) (xs++vs) i ⟨os,I3⟩
 by_cases O:i<items.length
 ·refine .inr ⟨(j1 items[i] (by simp [O])).1, by lia, λx H4 y => ?_⟩
  obtain⟨ao,I4⟩:=(j1 items[i] (by simp[O])).2 x H4 y
  refine⟨replicate m none++rho,n3,_,items[i],es++(L++ds),ws++(xs++vs),⟨_,I4.front m⟩,turn i items[i] ks L n3 (by simp[O]) w3,λrho' sg' ⟨ag,I5⟩ e5 k5=>?_⟩
  obtain⟨k5,k6⟩:=k5
  have e6:sg'.drop m=sg:=by rw[e5,yL (by simp)]
  refine⟨e6,rho',n3,_,es++(L++ds),ws++(xs++vs),⟨ag,I5⟩,k6,λc H6 n6 ⟨af,I6⟩ k7=>?_⟩
  cases c with
  |false=>
   obtain⟨ae,I7⟩:=I6.back k5 e6
   exact⟨items.length-(i+1),w5,rfl,O,ks,L,xs,n6,rfl,Y,w5,aa,⟨ae,I7⟩,k7⟩
  |true=>
   rw[if_pos rfl] at k7 ⊢;refine⟨rho',n6,_,es++(L++ds),ws++(xs++vs),⟨af,I6⟩,k7,λvk H8 n8 dk I8 k8=>?_⟩;refine⟨rho',n8,_,dk::(es++(L++ds)),vk::(ws++(xs++vs)),I8,k8,λv H9 n9 d ⟨am,I9⟩ k9=>?_⟩;obtain⟨kk,ek,w9⟩:=k9;obtain⟨ac,al⟩:=I9.back k5 e6;obtain⟨ak,rv⟩:=al.pop;obtain⟨aj,rk⟩:=ak.pop;obtain⟨ai,r1⟩:=aj.split hl;obtain⟨ah,r2⟩:=ai.split aa
   refine⟨kk,items.length-(i+1),XX rk ek,w5,rfl,O,VQ ks kk,zk7 ks L kk d,zk7 ks xs kk v,n9,zT6 kk v Y,JA kk v Y,?_,?_,⟨ac,(ah.join (r2.put rv kk)).join r1⟩,w9⟩
   ·have:=xe2 kk v Y;lia
   ·rw[<- JA kk v Y,<- JA kk d w5]
 ·have e : i = items.length := by lia
  subst e
  refine .inl ⟨j2 (zn _),w5,λD hD=>?_⟩
  obtain⟨I4,r1⟩:=I3.split hl;obtain⟨I5,r2⟩:=I4.split aa;exact hQ _ _ n3 _ ⟨os,I5.newDct r2 hD⟩ (fin ks L n3 w3)
def zB9(ok:CompOk X scope M)(hc:X.calm=true)(hi:PID A X tg iter it)(W:∀C J O L,PGD A (wS X scope own M C J O L) own.length tg g)(ht:∀C J O L,PTs (wS X scope own M C J O L) ifs (zb8 A tt))
  (hk:∀C J O L,PD A (wS X scope own M C J O L) kx tk) (Y:∀C J O L,PD A (wS X scope own M C J O L) vx tv) (hs:∀x,foldedSetIterable iter X.env x=pure x:=by intro _;rfl):PD A X (.DictComp kx vx [⟨tg,iter,ifs,0⟩] scope pos) (zt6 it own.length g tt tk tv):=by exists (zB7 ok hc hi W ht hk Y hs).imp λ_ _ _=>zi6
end
def atK:List Key->List D->Key->Option D
 |k::ks,d::ds,x=>if k=x then some d else atK ks ds x
 |_,_,_=>none
def Qd{K:W.Frag}{G:QqE}{Z:QqA}{H:Hp}:∀{ks:List Key}{ds:List D}{xs:List V}{x:Key},Reps K G Z H ds xs ->
  (∀d,atK ks ds x=some d->∃v,YK (YY ks xs) x=some v/\Rep K G Z H d v)/\(atK ks ds x=none->YK (YY ks xs) x=none)
 |[],ds,xs,x,r=>⟨λd h=>by simp[atK] at h,λ_=>rfl⟩
 |k::ks,[],xs,x,r=>by rw[r.nil_inv];exact⟨λd h=>by simp[atK] at h,λ_=>rfl⟩
 | k :: ks, e :: ds, xs, x, r => by
  obtain⟨v,J,rfl,q,t⟩:=r.split;obtain⟨i1,i2⟩:=Qd (ks:=ks) (x:=x) t;unfold atK
  by_cases c:k=x
  ·rw [if_pos c]
   exact⟨λd h=>by cases h;exact⟨v,Xc (p:=(k,v)) c,q⟩,λh=>by cases h⟩
  ·rw[if_neg c];have L:YK (YY (k::ks) (v::J)) x=YK (YY ks J) x:=Xd (p:=(k,v)) c;rw[L];exact⟨i1,i2⟩
section
variable {A:AC}{X:Cx}{a b:Expr}{ta tb:TD}{pos:Pos}
def rDx:R2:=λx y H Q=>∃a v,x=.ref a/\DGet H a y (some v)/\Q v H
def xo5:RD2:=λd1 d2 k=>∃ks ds x d,d1=.dct ks ds/\keyOf d2=some x/\atK ks ds x=some d/\k d
@[simp] theorem xz8{ks ds x k}:xo5 (.dct ks ds) (.int x) k↔∃d,atK ks ds (Sum.inl x)=some d/\k d:=⟨fun⟨_,_,_,d,e,e',h⟩=>by cases e;cases e';exact⟨d,h⟩,fun⟨d,h⟩=>⟨_,_,_,d,rfl,rfl,h⟩⟩
def xv9:ky A rDx xo5:=by
 rintro os n rho sg H ds vs d1 d2 v1 v2 k Q I ⟨ks,es,x,d,rfl,hk,hx,q⟩ Y;obtain⟨I1,O⟩:=I.pop;obtain⟨I2,J⟩:=I1.pop;have e2:=XX O hk;subst e2;unfold Rep at J;obtain⟨a,xs,rfl,⟨hz,hH⟩,L⟩:=J;obtain⟨v,W,rv⟩:=(Qd L).1 d hx
 exact⟨a,v,rfl,by rw[<- W];exact DGet.k hH,Y _ _ _ ⟨os,I2.push rv⟩ q⟩
def xg0(hu:X.A.units+1<cLine)(ha:PD A X a ta)(J:PD A X b tb)(hs:zX0 b):PD A X (.Subscript a b pos) (dOp xo5 ta tb):=by exists (zQ0 hu ha J hs).imp λ_ _ _=>WP (r:=rDx) xv9
def xI6(neg:Bool):R2:=λy x H Q=>∃a o,x=.ref a/\DGet H a y o/\Q (.bl (o.isSome != neg)) H
def zm7(hu:X.A.units+1<cLine):OpR X (compareOp .NotIn) (xI6 true):=by
 intro J s σ H x y v u Q I O L h;obtain⟨a,o,rfl,g,q⟩:=h;cases(show u=Value.ref a from L)
 exact zV8 hu I g O λs' I'=>⟨.bl (o.isSome != true),H,I',by simp;rfl,q⟩
def xc4(neg:Bool):RD2:=λd1 d2 k=>∃ks ds x,d2=.dct ks ds/\keyOf d1=some x/\k (.bl ((atK ks ds x).isSome != neg))
@[simp] theorem xp9{neg ks ds x k}:xc4 neg (.int x) (.dct ks ds) k↔k (.bl ((atK ks ds (Sum.inl x)).isSome != neg)):=⟨fun⟨_,_,_,e,e',h⟩=>by cases e;cases e';exact h,λh=>⟨_,_,_,rfl,rfl,h⟩⟩
def xb4{neg:Bool}:ky A (xI6 neg) (xc4 neg):=by
 rintro os n rho sg H ds vs d1 d2 v1 v2 k Q I ⟨ks,es,x,rfl,hk,q⟩ Y;obtain⟨I1,J⟩:=I.pop;obtain⟨I2,O⟩:=I1.pop;have e2:=XX O hk;subst e2;unfold Rep at J;obtain⟨a,xs,rfl,⟨hz,hH⟩,L⟩:=J;obtain⟨g1,g2⟩:=Qd (ks:=ks) (x:=x) L;refine⟨a,YK (YY ks xs) x,rfl,DGet.k hH,?_⟩
 have e3:(YK (YY ks xs) x).isSome=(atK ks es x).isSome:=by
  cases e:atK ks es x with
  |none=>rw[g2 e];rfl
  |some d=>obtain⟨v,W,_⟩:=g1 d e;rw[W];rfl
 rw[e3];exact Y _ _ _ ⟨os,I2.push (Rep.ofS (d:=.bl _) rfl)⟩ q
def xQ5(i:Nat)(g:TGD):TSD:=λF rho n=>∃es d,rho[i]?=some (some (.own (es++[d])))/\g d (rho.set i (some (.own es))) λrho'=>F.nx rho' n
@[simp] theorem xJ3{i g F rho n}:xQ5 i g F rho n=∃es d,rho[i]?=some (some (.own (es++[d])))/\g d (rho.set i (some (.own es))) λrho'=>F.nx rho' n:=rfl
def xv5:TSD:=λF rho n=>F.ct rho n
@[simp] theorem xy8{F rho n}:xv5 F rho n=F.ct rho n:=rfl
def xa4(i:Nat)(O:TBD)(t u:TAD):TSD:=λF rho n=>i<rho.length/\O rho n λc L=>if c=true then t rho L (λes J=>es.length<=sizeLine/\F.nx (rho.set i (some (.own es))) J) else u rho L λes J=>es.length<=sizeLine/\F.nx (rho.set i (some (.own es))) J
@[simp] theorem xp1{i L t u F rho n}:xa4 i L t u F rho n=(i<rho.length/\L rho n λc O=>if c=true then t rho O (λes J=>es.length<=sizeLine/\F.nx (rho.set i (some (.own es))) J) else u rho O λes J=>es.length<=sizeLine/\F.nx (rho.set i (some (.own es))) J):=rfl
end
section
variable {X:Cx}{A:AC}
def xk5:D->Bool
 |.tup _=>true
 |.lst _=>true
 |_=>false
def xF5:List D->(D->Prop)->Prop:=λes k=>∃d,es=[d,.tup [.ty "tuple",.ty "list"]]/\Uk d=true/\k (.bl (xk5 d))
@[simp] theorem xB8{d k}:xF5 [d,.tup [.ty "tuple",.ty "list"]] k↔(Uk d=true/\k (.bl (xk5 d))):=⟨fun⟨_,e,h⟩=>by cases e;exact h,λh=>⟨_,rfl,h⟩⟩
structure Blt3(mg:QqM):Prop where
 repr:mg "repr" = none
 dict:mg "dict" = none
def zW4:bootBuiltins "dict" = some (.type "dict"):=x3
end
section
variable {A:AC}{X:Cx}{a b c:Expr}{ta tb tc:TD}{pos:Pos}
end
def QM(rho:Rho):Bool:=rho.all λo=>match o with
 |some d=>we d
 |none=>true
def zo0{rho:Rho}{i:Nat}{d:D}(h:QM rho=true)(e:rho[i]?=some (some d)):we d=true:=by
 have:=wm.mp h _ (zQ e);exact this
def xa1(i j:Nat)(tb:TD):TSD:=λF rho n=>i<rho.length/\j<rho.length/\QM rho=true/\tb rho n λd J=>F.nx ((rho.set i (some (.own []))).set j (some d)) J
@[simp] theorem xy4{i j tb F rho n}:xa1 i j tb F rho n=(i<rho.length/\j<rho.length/\QM rho=true/\tb rho n λd J=>F.nx ((rho.set i (some (.own []))).set j (some d)) J):=rfl
section
variable {A:AC}{X:Cx}{b:Expr}{tb:TD}{pos:Pos}
def AmO.still{os n rho sg H ds vs}{J:Hp}{Z:QqA}(I:AmO A os n rho sg H ds vs)(ho:QM rho=true)(W:∀a o,H a=some o->J a=some o)(hz:∀a,H a≠none->Z a->Zof A os a)(L:∀a,Z a->Hot (J a))(hg:∀a,A.G=some a->Z a) :
  AmO ⟨A.K,A.G,Z,J⟩ [] n rho sg J [] []:=by
 have hz':∀a,H a≠none->Zof ⟨A.K,A.G,Z,J⟩ [] a->Zof A os a:=λa h z=>by
  rcases z with z |⟨p,O,_⟩
  ·exact hz a h z
  ·simp at O
 refine⟨I.len,λi d e=>?_,.nil,.nil,λp O=>by simp at O,λa e=>?_,hg,λa o _ e=>e,⟨L,λP q t=>⟨W P _ (I.zO.2 P q t).1,(I.zO.2 P q t).2⟩⟩⟩
 ·obtain ⟨v, e1, e2⟩ := I.slot i d e;have hd:=zo0 ho e;have r:=Rep.mono (K:=A.K) (G:=A.G) hz' (λa o _ e=>W a o e) _ _ (e2.rep hd);refine⟨v,e1,?_⟩
  cases d<;>first |exact r |(simp[we] at hd;done)
 ·obtain⟨Y,u1,u2,q,r⟩:=I.st a e;exact⟨Y,u1,u2,W a _ q,r⟩
def AmO.setOwnX{os:List (Nat × Addr)}{n:Nat}{rho:Rho}{sg:St}{H:Hp}{ds es:List D}{vs xs:List V}{i:Nat}{p:Addr}(I:AmO A os n rho sg H ds vs)(hi:i<rho.length)(L:H p=none)(r:Reps A.K A.G (Zof A os) H es xs) :
  AmO A ((i,p)::os.filter λq=>decide (q.1≠i)) n (rho.set i (some (.own es))) (sg.set i (some (.ref p))) (upd H p (.lst xs)) ds vs:=by
 have O:∀a u,H a=some u->upd H p (.lst xs) a=some u:=λa u e=>by rw[xZ (yc e L)];exact e
 have Y:∀a,H a≠none->Zof A ((i,p)::os.filter λq=>decide (q.1≠i)) a->Zof A os a:=λa ha z=>by
  rcases z with z |⟨q,J,e⟩
  ·exact .inl z
  ·rcases zk.mp J with rfl | J
   ·exact absurd (by rw[<- e];exact L) ha
   ·exact .inr ⟨q,(zt.mp J).1,e⟩
 have h0:A.H0 p=none:=by
  cases q:A.H0 p with
  |none=>rfl
  |some o=>
   by_cases e:A.G=some p
   ·obtain⟨x,y,z,w,_⟩:=I.st p e;rw[w] at L;cases L
   ·have:=I.fr p o e q;rw[this] at L;cases L
 refine⟨by simp[I.len],λj c e=>?_,Reps.mono Y (λa u _ e=>O a u e) _ _ I.pend,?_,λq J=>?_,λa e=>?_,I.gz,λa u h e=>O a u (I.fr a u h e),I.z0⟩
 ·by_cases W : j = i
  ·subst W;rw[zW hi] at e;cases e
   exact⟨.ref p,zW (by rw[<- I.len];exact hi),p,xs,rfl,xo,wX,Reps.mono Y (λa u _ e=>O a u e) _ _ r⟩
  ·rw [xb (Ne.symm W)] at e;obtain⟨u,e1,e2⟩:=I.slot j c e
   exact⟨u,by rw[xb (Ne.symm W)];exact e1,SlotR.mono Y (λa u _ e=>O a u e) (λa ys m q=>⟨zj _ (zt.mpr ⟨m,by simpa using W⟩),O a _ q⟩) _ _ e2⟩
 ·refine wb.mpr ⟨λq J => ?_, I.nd.filter _⟩;obtain⟨m1,m2⟩:=zt.mp J
  refine⟨λz=>by simp[<- z] at m2,λz=>(I.fresh q m1).2.2.ne ?_⟩
  have z':p=q.2:=z;rw[<- z'];exact L
 ·rcases zk.mp J with rfl | J
  ·exact⟨h0,λz=>(I.z0.1 p z).ne h0,by show Hot (upd H p _ p);rw[wX];exact Hot.lst⟩
  ·obtain⟨f1,f2,f3⟩:=I.fresh q (zt.mp J).1;exact⟨f1,f2,f3.of λu w=>O _ _ w⟩
 ·obtain⟨x,y,z,q,rr⟩:=I.st a e;exact⟨x,y,z,O _ _ q,rr⟩
def zA7{i j:Nat}{x y:Str}{px py pt pl:Pos}{kt k2 W}(hc:X.calm=true)(hN:X.N.Nodup)(hi:X.N[i]?=some x)(hj:X.N[j]?=some y)(ad:i≠j)
  (hx:X.env.scope.names.lookup x=some .local) (hy:X.env.scope.names.lookup y=some .local) (hb:∀(Z:QqA) (H0:Hp),PD ⟨A.K,A.G,Z,H0⟩ X b tb)
  (hk:X.env.blockKind=.function:=by rfl) (hl:py.line=px.line:=by rfl) (Y:x≠y:=by decide) (O:qp b=false:=by rfl) (hf:[Expr.List [] pl,b].all (foldedForSure 8)=false:=by decide +kernel) (ae:[Expr.List [] pl,b].all (constantsAlone 8)=false:=by decide +kernel) :
  PSD A X (.Assign [.Tuple [.Name x px,.Name y py] kt pt] (.Tuple [.List [] pl,b] k2 W) pos) (xa1 i j tb):=by
 exists (by
   have hb':PE X b (λsg H Q=>∃Z H0,tOf ⟨A.K,A.G,Z,H0⟩ tb sg H Q):=λL s sg H Q I q=>by
    obtain⟨Z,H0,q⟩:=q;exact hb Z H0 L s sg H Q I q
   refine(zJ3 hc hN hi hj ad hx hy (jr (zl8 YS) (jr hb' YS (sE O)) (sE rfl)) (Qs hk hx hy hl Y rfl O hf ae) rfl).imp λE sg H h=>?_;obtain⟨rho,n,F,ds,vs,⟨os,I⟩,⟨ac,aa,ho,ht⟩,ok⟩:=h;refine⟨wo _,λp hp=>?_⟩;have I1:=I.setOwnX (es:=[]) (xs:=[]) ac hp .nil
   have hH:∀a o,H a=some o->upd H p (.lst []) a=some o:=λa o e=>by rw[xZ (yc e hp)];exact e
   refine⟨λa=>Zof A os a\/a=p,upd H p (.lst []),rho,n,_,[],[],⟨[],I.still ho hH (λa h z=>?_) (λa z=>?_) (λa e=>.inl (.inl (I.gz a e)))⟩,ht,λv H2 n2 d ⟨af,J⟩ k=>?_⟩
   ·rcases z with z | rfl
    ·exact z
    ·exact absurd hp h
   ·rcases z with z | rfl
    ·exact(I.zHot a z).of λo e=>hH a o e
    ·rw[wX];exact Hot.lst
   ·obtain ⟨J1, r⟩ := J.pop;have C:=I1.called (n':=n2) (H':=H2) (λa o g e=>J1.fr a o g e) J1.st
    refine⟨_,_,rfl,ok.nx _ _ _ _ ⟨_,(C.push (d:=d) (v:=v) ?_).set (by simpa using aa)⟩ k⟩
    refine Rep.mono (K:=A.K) (G:=A.G) (λa h z=>?_) (λa o _ e=>e) _ _ r
    rcases z with z |⟨q,hq,e⟩
    ·exact .inl (.inl (.inl z))
    ·rcases zk.mp hq with rfl | hq
     ·exact .inl (.inr e.symm)
     ·exact .inl (.inl (.inr ⟨q,(zt.mp hq).1,e⟩)))
end
end L2
namespace L2
open PySem PySem.Spec PyProof.Rows PySem.SeqAt
section
variable {A:AC}{X:Cx}{a b c e:Expr}{ta tb tc te:TD}{pos:Pos}
def xI0(K:W.Frag):R2:=λx y H Q=>∃p q xs,x=.ref p/\y=.ref q/\SqT K H p xs/\SqT K H q []/\Q (.bl xs.isEmpty) H
def xg1{n:Nat}(hr:Room n X.A):OpR X (compareOp .Eq) (xI0 X.K):=by
 intro J s σ H x y v u Q I W O h;obtain⟨p,q,xs,rfl,rfl,sq,sq',k⟩:=h;cases W;cases O;obtain⟨its,rv,pl,hz⟩:=I.tuple sq;obtain⟨its',rv',pl',hz'⟩:=I.tuple sq';cases rv';have hu:=hr.units
 have R:=RcAt.tuples (A:=X.A) (e:=λ_=>true) (show s.heap.IsTuple p its.toArray from pl) (show s.heap.IsTuple q #[] from pl') w5 (λj l1 Y=>absurd Y (by simp))
 have ev:((List.range (min its.toArray.size (#[]:Array Value).size)).all (λ_=>true)&&its.toArray.size == (#[]:Array Value).size)=xs.isEmpty:=by
  have L:=rv.length
  cases xs with
  |nil=>cases its with
   |nil=>rfl
   |cons _ _=>simp at L
  |cons _ _=>cases its with
   |nil=>simp at L
   |cons _ _=>simp
 exact(rcC R ev) X.prog X.w X.xe _ ⟨.bl xs.isEmpty,H,I,rfl,k⟩
def xb7:RD2:=λd1 d2 k=>Jm d1 λes=>d2=.tup []/\k (.bl es.isEmpty)
@[simp] theorem xz0{d1 d2 k}:xb7 d1 d2 k=Jm d1 λes=>d2=.tup []/\k (.bl es.isEmpty):=rfl
def xb0:ky A (xI0 A.K) xb7:=by
 rintro os n rho sg H ds vs d1 d2 v1 v2 k Q I ⟨es,rfl,rfl,q⟩ Y;obtain⟨I1,L⟩:=I.pop;obtain⟨I2,O⟩:=I1.pop;obtain⟨a,xs,rfl,sq,J⟩:=O.tup_inv;obtain⟨b,ys,rfl,sq',rs'⟩:=L.tup_inv;have e:=rs'.nil_inv;subst e;have W:=J.length
 have ee:xs.isEmpty=es.isEmpty:=by cases xs<;>cases es<;>first |rfl |(simp at W;done)
 exact⟨a,b,xs,rfl,rfl,sq.sq,sq'.sq,by rw[ee];exact Y _ H _ ⟨os,I2.push (Rep.ofS rfl)⟩ q⟩
def xb9:RD2:=λd1 d2 k=>∃es i,d1=.lst es/\d2=.int i/\0<=i/\i<1000/\es.length*i.toNat<=sizeLine/\k (.lst (replicate i.toNat es).flatten)
@[simp] theorem xp4{es i k}:xb9 (.lst es) (.int i) k↔(0<=i/\i<1000/\es.length*i.toNat<=sizeLine/\k (.lst (replicate i.toNat es).flatten)):=⟨fun⟨_,_,e,e',h⟩=>by cases e;cases e';exact h,λh=>⟨_,_,rfl,rfl,h⟩⟩
def zX3(es:List D)(k:List D->Prop):Prop:=∃fs,(es=[.lst fs]\/es=[.tup fs])/\k fs
@[simp] theorem xx9{fs:List D}{k}:zX3 [.lst fs] k↔k fs:=⟨fun⟨_,e,h⟩=>by rcases e with e |e<;>cases e;exact h,λh=>⟨_,.inl rfl,h⟩⟩
@[simp] theorem xx8{fs:List D}{k}:zX3 [.tup fs] k↔k fs:=⟨fun⟨_,e,h⟩=>by rcases e with e |e<;>cases e;exact h,λh=>⟨_,.inr rfl,h⟩⟩
def zI4(i:Nat)(t:TAD):TSD:=λF rho n=>i<rho.length/\t rho n λes J=>zX3 es λfs=>F.nx (rho.set i (some (.own fs))) J
@[simp] theorem xp2{i t F rho n}:zI4 i t F rho n=(i<rho.length/\t rho n λes J=>zX3 es λfs=>F.nx (rho.set i (some (.own fs))) J):=rfl
def zl2{i:Nat}{x:Str}{pos' p:Pos}{Y:TAD}(hN:X.N.Nodup)(hi:X.N[i]?=some x)(hx:Loc X.env.scope x)(hK:X.K=A.K)(hm:X.mg "list" = none)(ha:PAD A X [e] Y)(hg:Gl X "list" := by rfl)
  (he:starEach [e] X.env=[(false,eval e X.env)]:=by rfl) (hf:X.fn x=true\/X.env.scope.names.lookup x=some .local:=by first |exact .inl rfl |exact .inr rfl |assumption)
  (hs:swapsWith (.Call (.Name "list" p) [e] [] pos) (some (.Name x pos')) pos2.line X.env=pure false:=by rfl):PSD A X (.Assign [.Name x pos'] (.Call (.Name "list" p) [e] [] pos) pos2) (zI4 i Y):=by
 exists (UQ hN hi hx (ZO (jC (X:=X)) hg hm Ut ha w6 w6 he rfl) hs hf).imp λE sg H h=>by
   obtain⟨rho,n,F,ds,vs,I,⟨hl,ht⟩,ok⟩:=h;refine⟨rho,n,_,ds,vs,I,ht,λws H' n' es ⟨os,J⟩ L k=>?_⟩;obtain⟨J1,rs⟩:=J.split L;obtain⟨fs,W,k⟩:=k
   rcases W with rfl |rfl
   ·obtain⟨v,rfl,r⟩:=kO rs;obtain⟨a,xs,rfl,sq,O⟩:=r.lst_inv;exact⟨a,xs,rfl,.inl (hK ▸ sq.sq),λl hl'=>ok.nx _ _ _ _ (J1.setOwn hl hl' O) k⟩
   ·obtain⟨v,rfl,r⟩:=kO rs;obtain⟨a,xs,rfl,sq,O⟩:=r.tup_inv;exact⟨a,xs,rfl,.inr (hK ▸ sq.sq),λl hl'=>ok.nx _ _ _ _ (J1.setOwn hl hl' O) k⟩
end
mutual
def zY7:D->PyData
 |.bl b=>.bool b
 |.int i=>.int i
 |.str x=>.str x
 |.tup ds=>.tuple (zh9 ds)
 |.lst ds=>.list (zh9 ds)
 |_=>.none
def zh9:List D->List PyData
 |[]=>[]
 |d::ds=>zY7 d::zh9 ds
end
mutual
def okR:D->Nat->Bool
 |.non,_=>true
 |.bl _,_=>true
 |.int i,_=>decide (i.natAbs.log2<1920)
 |.str x,_=>decide ((reprText x).length<=2000)
 |.tup ds,k=>match k with
  |0=>false
  |k+1=>xE6 ds k
 |.lst ds,k=>match k with
  |0=>false
  |k+1=>xE6 ds k
 |_,_=>false
def xE6:List D->Nat->Bool
 |[],_=>true
 |d::ds,k=>okR d k&&xE6 ds k
end
mutual
def zX8:D->Nat
 |.tup ds=>zS5 ds+1
 |.lst ds=>zS5 ds+1
 |_=>1
def zS5:List D->Nat
 |[]=>0
 |d::ds=>zX8 d+zS5 ds
end
def zj1(d:D):Str:=(zY7 d).shown
section
variable {X:Cx}{pins:QqL}{σ:St}{H:Hp}{s:Shared}{G:QqE}{Z:QqA}
end
def xF2:List D->(D->Prop)->Prop:=λes k=>∃d,es=[d]/\xk5 d=true/\okR d 15=true/\zX8 d<=8000/\k (.str (zj1 d))
@[simp] theorem xB1{d k}:xF2 [d] k↔(xk5 d=true/\okR d 15=true/\zX8 d<=8000/\k (.str (zj1 d))):=⟨fun⟨_,e,h⟩=>by cases e;exact h,λh=>⟨_,rfl,h⟩⟩
end L2
namespace L2
def zy4(es:List D)(e d:D)(k:List D->Prop):Prop:=∃j m,e=.int j/\ixN es.length j=some m/\k (es.set m d)
def zy8(i:Nat)(Y:TAD)(O L:TD):TSD:=λF rho n=>Zt rho[i]? λes=>Y rho n λcs n1=>zd2 cs λd1 d2=>O rho n1 λe1 n2=>zy4 es e1 d1 λJ=>
 L (rho.set i (some (.own J))) n2 λe2 n3=>zy4 J e2 d2 λW=>F.nx (rho.set i (some (.own W))) n3
@[simp] theorem zX5{i Y L J F rho n}:zy8 i Y L J F rho n=Zt rho[i]? λes=>Y rho n λcs n1=>zd2 cs λd1 d2=>L rho n1 λe1 n2=>zy4 es e1 d1 λO=>
 J (rho.set i (some (.own O))) n2 λe2 n3=>zy4 O e2 d2 λW=>F.nx (rho.set i (some (.own W))) n3:=rfl
section
variable {A:AC}{X:Cx}{a1 a2 b1 b2:Expr}{ta:TAD}{tb1 tb2:TD}{pos:Pos}
end
end L2
namespace PySem
open PySem.Sem (wp)
def ZW{prog:Program}{w:World}{A:Around}{E:QqV}{s:Shared}{a:Addr}{o:Obj}{xs:Array Value}{k:Nat}{name:Str}{Q:QqS}
  (hx:s.heap.get? a=some o) (Y:o.cls=.type "list") (J:o.data=.seq xs k) (hd:o.dict=none) (O:typeLookup (.type "list") name=pure none) (L:(["__module__","__name__","__qualname__","__doc__","__annotations__"]:List Str).contains name=false) (hA:A.handled=none)
  (h:∀h' W e,Heap.NewExcOf s.heap h' e "AttributeError" -> Q none { s with heap:=h',toks:=W }) (hsz:name.length+100<=sizeLine:=by size_fits) :
  wpAny (model prog w) A (getAttr? (.ref a) name) Q E s:=by
 obtain⟨c,dct,aa,sl⟩:=o;simp only at Y J hd;subst Y J hd;obtain⟨hp,g,d,W,os⟩:=s;have hT:∀tk',(⟨hp,g,d,tk',os⟩:Shared).TypeIs (.ref a) "list" := λ_=>⟨_,hx,rfl⟩;have f1:=sub_AttributeError;have f3:=F.slot_list_getattribute.lookup;have f4:=F.slot_list_getattribute.bind (.ref a);have f5:=am_list_getattr_none;unfold getAttr? getAttrBy? getAttrBy
 repeat (any_goals (first |assumption |exact hT _ |((with_reducible show wpAny _ _ (call (Value.builtin "list.__getattribute__") _ _) _ _ _);refine call_meets F.slot_list_getattribute (hT _) am_entry_list_getattribute (F.args_list_getattribute_2 _ _) (meets_getattribute_miss_list a xs k sl name _ O L hsz) ⟨hx,hA,λh' tk' e hx'=>?_⟩) |wp_step))
 obtain⟨t',u',he⟩:=hx'.there;show wpAny _ _ (getattributeRaised _ _ _ _ _ _ _) _ _ _;unfold getattributeRaised
 repeat (any_goals (first |assumption |wp_step))
 exact h _ _ _ hx'.of
namespace F
def plain_update_loop:plainId "dict.update.loop" = true:=x3
def entry_update_loop:entryFor table "dict.update.loop" = some Builtin.«dict.update.loop»:=entryFor_of_fast (by kernel_rfl)
end F
section
variable {prog:Program}{w:World}{K:Type} [DecidableEq K] {knd:KeyKind prog w K}{A:Around}{R:Result->Shared->Prop}
def xo0(D I:Addr)(h h':Heap):Prop:=∀b o,b≠D->b≠I->h.get? b=some o->h'.get? b=some o
end
section
variable {prog:Program}{w:World}{K:Type} [DecidableEq K] {knd:KeyKind prog w K}{A:Around}{E:QqV}{s:Shared}
theorem Km:typeLookup (.type "list") "keys" = pure none:=am_miss_of_fast x3
end
end PySem
namespace L2
section
variable {X:Cx}{A:AC}
end
end L2
namespace L2
open PySem PySem.Spec PyProof.Rows PySem.SeqAt
section
variable {A:AC}{X:Cx}
def zY5(d:D)(k:List (List D)->Prop):Prop:=∃J:List (List D),d=.tup (J.map D.tup)/\k J
def xw2:RD2:=λd1 d2 k=>d1=.tup []/\zY5 d2 λJ=>k (.bl (J.any List.isEmpty))
@[simp] theorem xp7{a b k}:xw2 (.tup []) (.tup [.tup a,.tup b]) k ↔ k (.bl (a.isEmpty || b.isEmpty)):=by
 constructor
 ·rintro ⟨_, J, e, h⟩
  have:J=[a,b]:=by
   have e':=D.tup.inj e
   match J,e' with
   |[x,y],e'=>simp at e';rw[e'.1,e'.2]
   |[],e'=>simp at e'
   |[x],e'=>simp at e'
   |x::y::z::r,e'=>simp at e'
  subst this
  simpa using h
 ·intro h
  exact⟨rfl,[a,b],rfl,by simpa using h⟩
def zQ1{pos:Pos}:PE X (.Dict [] [] pos) (λ_ H Q=>∀p,H p=none->Q (.ref p) (upd H p (.dK []))):=λJ s σ H Q I h=>
 wpAny_Dict_empty ⟨.ref s.heap.objs.size,_,I.laid (a:=s.heap.objs.size) (o:=.dK []) (t':=s.toks) (λ_ _ q=>ze _ q) (zn _) (xm2 s.heap (xn4 I)),rfl,h _ (I.hok.fresh (zn _))⟩
def zQ7{pos:Pos}:PD A X (.Dict [] [] pos) (dC (.dct [] [])):=by
 exists zQ1.imp λsg H Q h=>by
   obtain⟨rho,n,P,ds,vs,⟨os,I⟩,q,L⟩:=h;exact λp J=>L _ _ n _ ⟨os,I.newDct (ks:=[]) (es:=[]) (xs:=[]) .nil J⟩ q
end
mutual
def okN:D->Nat->Bool
 |.non,_=>true
 |.int i,_=>decide (i.natAbs.log2<20)
 |.tup ds,k=>match k with
  |0=>false
  |k+1=>xN3 ds k
 |_,_=>false
def xN3:List D->Nat->Bool
 |[],_=>true
 |d::ds,k=>okN d k&&xN3 ds k
end
def xF1:List D->(D->Prop)->Prop:=λes k=>∃ds,es=[.tup ds]/\okN (.tup ds) 20=true/\zX8 (.tup ds)<=400000/\k (.str (zj1 (.tup ds)))
@[simp] theorem xB0{ds k}:xF1 [.tup ds] k↔(okN (.tup ds) 20=true/\zX8 (.tup ds)<=400000/\k (.str (zj1 (.tup ds)))):=⟨fun⟨_,e,h⟩=>by cases e;exact h,λh=>⟨_,rfl,h⟩⟩
end L2
namespace L2
section
variable {A:AC}
def xF6:List D->(D->Prop)->Prop:=λes k=>∃i:Int,es=[.int i]/\k (.bl (i != 0))
@[simp] theorem xC0{i:Int}{k}:xF6 [.int i] k↔k (.bl (i != 0)):=⟨fun⟨_,e,h⟩=>by cases e;exact h,λh=>⟨_,rfl,h⟩⟩
end
section
variable {A:AC}{X:Cx}{pos:Pos}{m:Nat}
def xG0(k:Nat)(J:zH5):TGD:=λd rho P=>∃es,d=.lst es/\es.length=k/\J es rho P
@[simp] theorem xC7{k J es rho P}:xG0 k J (.lst es) rho P↔(es.length=k/\J es rho P):=⟨fun⟨_,e,h⟩=>by cases e;exact h,λh=>⟨_,rfl,h⟩⟩
end
section
variable {A:AC}{X:Cx}
def zN3:D->Str
 |.non => "None"
 |d=>zj1 d
def xE7(d:D):Prop:=d=.non\/(xk5 d=true/\okR d 20=true/\zX8 d<=8000)
def xj3:List D->(D->Prop)->Prop:=λes k=>∃d,es=[d]/\xE7 d/\k (.str (zN3 d))
@[simp] theorem xr0{d k}:xj3 [d] k↔(xE7 d/\k (.str (zN3 d))):=⟨fun⟨_,e,h⟩=>by cases e;exact h,λh=>⟨_,rfl,h⟩⟩
end
def lo{J:Scope}{x:Str}(h:(match J.names.lookup x with |some .local=>true |some .cell=>true |_=>false)=true):Loc J x:=by
 unfold Loc
 split at h
 ·exact .inl (by assumption)
 ·exact .inr (by assumption)
 ·cases h
end L2
namespace L2
open PySem PySem.Spec PyProof.Rows PySem.SeqAt
section
variable {A:AC}{X:Cx}
def zz3:RD2:=λd1 d2 k=>d1=.non/\∃J:List (List D),d2=.lst (J.map D.lst)/\k (.bl false)
@[simp] theorem xq2{a b k}:zz3 .non (.lst [.lst a,.lst b]) k↔k (.bl false):=⟨fun⟨_,_,_,h⟩=>h,λh=>⟨rfl,[a,b],rfl,h⟩⟩
def xF4:List D->(D->Prop)->Prop:=λes k=>∃ks ds,es=[.dct ks ds]/\ks.length=ds.length/\k (.int (ks.length:Int))
@[simp] theorem xB7{ks ds k}:xF4 [.dct ks ds] k↔(ks.length=ds.length/\k (.int (ks.length:Int))):=⟨fun⟨_,_,e,h⟩=>by cases e;exact h,λh=>⟨_,_,rfl,h⟩⟩
def xG6(J:TD):TD:=λrho n P=>J rho n λd L=>∃x:Int,d=.int x/\P (.int ((Builtin.Int.intBits x:Nat):Int)) L
@[simp] theorem xD4{J:TD}{rho:Rho}{n:Nat}{P:D->Nat->Prop}:xG6 J rho n P=J rho n λd L=>∃x:Int,d=.int x/\P (.int ((Builtin.Int.intBits x:Nat):Int)) L:=rfl
def xk0:List D->(D->Prop)->Prop:=λes k=>∃j:Int,es=[.int j]/\0<=j/\j<=1000/\k (.lst ((List.range j.toNat).map λi:Nat=>D.int (i:Int)))
@[simp] theorem xr3{j:Int}{k:D->Prop}:xk0 [.int j] k↔(0<=j/\j<=1000/\k (.lst ((List.range j.toNat).map λi:Nat=>D.int (i:Int)))):=⟨fun⟨_,e,h⟩=>by cases e;exact h,λh=>⟨_,rfl,h⟩⟩
end
end L2
namespace L2
structure LamScope(N:List Str)(p:Str)(scope:Scope)(cl:List (Str × Addr)):Prop where
 kind:scope.kind=.function
 co:scope.isCoroutine=false
 gen:scope.isGenerator=false
 nocell:∀x∈scope.names,x.2≠.cell
 head:N[0]?=some p
 par:scope.names.lookup p=some .local
 free:∀x,scope.names.lookup x=some .free->∃c,cl.lookup x=some c
 rest:∀i x,N[i+1]?=some x->scope.names.lookup x=some .free
def ze7(X:Cx)(A:Around)(N:List Str)(L:Str)(J:Scope)(f c':Addr)(O:List (Str × Addr))(s:Shared)(H:Hp):Cx where
 prog:=X.prog
 w:=X.w
 K:=X.K
 mg:=X.mg
 base:=X.base
 A:=A.deeper (W.envX L J s.heap.objs.size f (.ref c') O)
 N:=N
 s₀:=s
 H₀:=H
 env:=W.envX L J s.heap.objs.size f (.ref c') O
 outer:=X.stack
 stack:=W.envX L J s.heap.objs.size f (.ref c') O::X.stack
 ex:=[]
 fn:=λ_=>false
 calm:=true
 pn:=[]
 xe:=λ_ _=>False
section
variable {X:Cx}{pins:QqL}{σ:St}{H:Hp}{s:Shared}{A:Around}{f c':Addr}{qual p:Str}{params:Arguments}{body:Expr}{scope:Scope}{cl:List (Str × Addr)}{pm ctv:Value}{N:List Str}{v:V}{u:Value}{cv:List V}
def zT5{h1:Heap}{tk:Nat}(I:Inv X pins σ H s)(hA:A.frames=some X.stack)(hh:A.handled=none)(S:LamScope N p scope cl)(hN:N.length=cv.length+1)(r:RelV v u)
  (sub:∀x c,cl.lookup x=some c->X.env.cells.lookup x=some c)
  (aa:∀i x y,N[i+1]?=some x->cv[i]?=some y->∃c,cl.lookup x=some c/\∃u,RelV y u/\s.heap.IsCell c (some u))
  (W:h1.Ns s.heap.objs.size (λy=>[(p,u)].reverse.lookup y)) (hk:∀b o,s.heap.get? b=some o->h1.get? b=some o) :
  Inv (ze7 X A N qual scope f c' cl s H) [] (some v::cv.map some) H { s with heap:=h1,toks:=tk }:=by
 have J:∀b:Addr,b ∉ (ze7 X A N qual scope f c' cl s H).ex:=λb z=>absurd (show b∈([]:List Addr) from z) (by simp)
 refine⟨⟨I.mod,S.kind,rfl,rfl,zn _,λy z c h1 h2=>?_,λy L=>?_,λy c z _=>?_,λ_=>hh,Around.frames_deeper hA,.inr ⟨rfl,rfl⟩,λb z=>absurd z (J b),I.bs,zD I.ok.bsz I.sz,λb _ _=>J b,λb z=>absurd z (J b),I.stack,I.stkFree⟩,
  rfl,I.bare,Un.kept hk,⟨_,W,λi y z e1 e2 e3=>?_⟩,λy c h=>?_,I.hok.fresh (zn _),λy c h=>I.freeC y c (sub y c h),λp hp=>absurd (show p∈([]:QqL) from hp) (by simp),I.hok.kept hk,?_⟩
 ·exact I.ok.inj y z c (sub y c h1) (sub z c h2)
 ·have L : scope.names.lookup y = some .cell \/ scope.names.lookup y = some .free := L
  rcases L with L |L
  ·exact absurd rfl (S.nocell _ (PySem.mem_of_lookup L))
  ·exact S.free y L
 ·cases(show false=true from z)
 ·cases i with
  |zero=>
   have e4:y=p:=by have:=e1.symm.trans S.head;exact zP this
   subst e4
   have Y:v=z:=by simpa using e2
   subst Y;refine⟨u,r,.inl ⟨S.par,?_⟩⟩;simp
  | succ i =>
   have e4:cv[i]?=some z:=by
    have:(cv.map some)[i]?=some (some z):=by simpa using e2
    rw[zw] at this
    cases q:cv[i]? with
    |none=>rw[q] at this;cases this
    |some a=>rw[q] at this;cases this;rfl
   obtain⟨c,Y,u',r',o,O,hd⟩:=aa i y z e1 e4;exact⟨u',r',.inr ⟨.inr (S.rest i y e1),c,Y,o,hk _ _ O,hd⟩⟩
 ·obtain⟨w',o,O,hd⟩:=I.cell y c (sub y c h);exact⟨w',o,hk _ _ O,hd⟩
 ·show(some v::cv.map some).length=N.length;rw[zI,zg,hN]
def zT4{t:TE}{Q:VK}{E:QqV}(I:Inv X pins σ H s)(hf:s.heap.get? f=some (W.kla_obj "<lambda>" qual params body scope cl pm c' ctv))(ad:s.heap.CodeRec (.ref c') qual)
  (hA:A.frames=some X.stack) (L:A.depth<recursionLimit) (hh:A.handled=none) (S:LamScope N p scope cl) (hN:N.length=cv.length+1)
  (hb:bindArgs (W.kla_fn "<lambda>" qual params body scope cl pm (.ref c') ctv) ⟨[u],[]⟩=pure [(p,u)]) (r:RelV v u)
  (sub:∀x c,cl.lookup x=some c->X.env.cells.lookup x=some c)
  (ae:∀i x y,N[i+1]?=some x->cv[i]?=some y->∃c,cl.lookup x=some c/\∃u,RelV y u/\s.heap.IsCell c (some u))
  (O:PE (ze7 X A N qual scope f c' cl s H) body t) (ht:t (some v::cv.map some) H Q) :
  wpAny (model X.prog X.w) A (call (.ref f) [u]) (EP X pins σ λv H'=>Q v H'/\∀b o w,H b=some (.frz o w)->H' b=some (.frz o w)) E s:=by
 refine wpAny_call (codeAny_mono (R:=λr s'=>match r with |.ok (.ret u)=>CE X.stack X.prog X.w H s (λv H'=>Q v H'/\∀b o w,H b=some (.frz o w)->H' b=some (.frz o w)) u s' |_=>False) ?_ λr s' Y=>?_)
 ·refine W.kla_callFunE L hf rfl S.co S.gen rfl ad ?_;rw[hb];refine zf (wpAny_newFunctionEnv S.nocell (λy hy=>?_) (λh1 ac aa=>?_) S.kind)
  ·have : y = (p, u) := by simpa using hy
   rw[this];exact S.par
  ·have hk:∀b o,s.heap.get? b=some o->h1.get? b=some o:=λb o e=>aa.extBut b o (zx (zo e)) (ze _ e);refine⟨I.nolimit.keeps hk,?_⟩;show codeAny _ _ (.expr body (W.envX qual scope s.heap.objs.size f (.ref c') cl)) _ _;have I2:Inv (ze7 X A N qual scope f c' cl s H) [] (some v::cv.map some) H { s with heap:=h1,toks:=s.toks+[(p,u)].length }:=zT5 I hA hh S hN r sub ae ac hk;refine W.kla_codeExpr (wM (O [] _ _ H Q I2 ht) (λu' s' h=>?_) λ_ _ z=>z.elim);obtain⟨v',H',J,rv,q⟩:=h;exact⟨v',H',J.os,J.bare,J.base,J.hok,rv,q,J.base.frzs⟩
 ·cases r with
  |error e=>exact False.elim Y
  |ok fl=>
   cases fl with
   |ret u=>exact I.after Y
   |next=>exact False.elim Y
   |brk=>exact False.elim Y
   |cont=>exact False.elim Y
end
def UF(sp:V->Hp->VK->Prop):List V->Hp->(List V->Hp->Prop)->Prop
 |[],H,Q=>Q [] H
 |v::vs,H,Q=>sp v H λk H'=>UF sp vs H' λks H''=>Q (k::ks) H''
section
variable {X:Cx}{pins:QqL}{σ:St}{H:Hp}{s:Shared}
def Inv.pin1{a:Addr}{o:Obj}(I:Inv X pins σ H s)(L:FpOk X pins H a)(O:s.heap.get? a=some o)(W:∀v,o.data≠.cell v):Inv X ((a,o)::pins) σ H s:=by
 refine⟨I.ok,I.os,I.bare,I.base,I.loc,I.cell,I.free,I.freeC,λp J=>?_,I.hok,I.len⟩
 rcases zS.mp J with J |J
 ·exact I.pin p (zR _ J)
 ·rcases zk.mp J with rfl | J
  ·exact⟨O,L.1,L.2.1,L.2.2.1,W⟩
  ·exact I.pin p (zp _ J)
def Inv.unpin{q:Addr × Obj}(I:Inv X (q::pins) σ H s):Inv X pins σ H s:=
 ⟨I.ok,I.os,I.bare,I.base,I.loc,I.cell,I.free,I.freeC,λp J=>I.pin p (by
  rcases zS.mp J with J |J
  ·exact zR _ J
  ·exact zp _ (zj _ J)),I.hok,I.len⟩
def FpOk.reH{b:Addr}{H':Hp}(h:FpOk X pins H b)(J:H' b=none):FpOk X pins H' b:=⟨J,h.2⟩
def FpOk.more{b:Addr}{q:Addr × Obj}(h:FpOk X pins H b)(L:q.1≠b):FpOk X (q::pins) H b:=
 ⟨h.1,h.2.1,h.2.2.1,h.2.2.2.1,h.2.2.2.2.1,λp J=>by
  rcases zS.mp J with J |J
  ·exact h.2.2.2.2.2 p (zR _ J)
  ·rcases zk.mp J with rfl | J
   ·exact L
   ·exact h.2.2.2.2.2 p (zp _ J)⟩
def Inv.pinAt{q:Addr × Obj}(I:Inv X pins σ H s)(h:q∈pins):s.heap.get? q.1=some q.2/\H q.1=none:=
 let z:=I.pin q (zp _ h);⟨z.1,z.2.1⟩
def UP(ks vs:QqW)(h:ks.length=vs.length):ks.toArray.zip vs.toArray=(Array.range vs.length).map λi=>(ks.getD i .none,vs.getD i .none):=by
 refine Array.ext_getElem? λk=>?_;rw[yv]
 by_cases hk:k<vs.length
 ·have L : (Array.range vs.length)[k]? = some k := by rw [Array.getElem?_range, if_pos hk]
  have hk':k<ks.length:=w5
  rw[L]
  have J:(ks.toArray.zip vs.toArray)[k]?=some (ks[k],vs[k]):=by
   rw[xC (by simp;lia)]
   simp
  rw[J];simp[zM,hk,hk']
 ·rw [wB (by simp; lia), wB (by simp; lia)]
  rfl
def vX(X:Cx)(ys:List V)(Q:VK)(ks:List V)(H:Hp):Prop:=∃(J:Bool) (r:Nat->Nat->Bool),ks.length=ys.length /\
 (∀a b,a<ys.length->b<ys.length->a≠b->r a b=!r b a)/\(∀a b c,a<ys.length->b<ys.length->c<ys.length->r a b=true->r b c=true->r a c=true) /\
 (∀a,a<ys.length->xO5 X H J (ks.getD a .non))/\(∀a b,a<ys.length->b<ys.length->a≠b->xO8 X H J (ks.getD a .non) (ks.getD b .non) (r a b)) /\
 ∀ls:Array Nat,ls.Perm (Array.range ys.length)->Srt.Up r ls ys.length->∀l,H l=none->Q (.ref l) (upd H l (.lst (ls.toList.map λi=>ys.getD i .non)))
variable {A:Around}{E:QqV}{a kS:Addr}{vs:QqW}{ys ks:List V}{kA:Array Value}{e e1:Nat}{Q:VK}
def zE3{st:SortSt}{ls:Array Nat}(I:Inv X pins σ H s)(hk:s.heap.get? kS=some (seqObj "list" kA e))(ha:s.heap.get? a=some (seqObj "list" #[] e1))(fk:FpOk X pins H kS)(W:FpOk X pins H a)(ac:kS≠a)(Y:X.s₀.heap.objs.size<=a)(hz:kA.size<=64)
  (rv:Vals ys vs) (ad:ys.length<64) (h1:arrOf st=ls.map λi=>(kA.toList.getD i .none,vs.getD i .none)) (h2:failedOf st=none) (h3:ls.Perm (Array.range ys.length)) (q:Q (.ref a) (upd H a (.lst (ls.toList.map λi=>ys.getD i .non)))) :
  wpAny (model X.prog X.w) A (ksk_tail a false e1 (.ref kS) st) (λr s'=>r=.done (.ret .none)/\∃H4,Inv X pins σ H4 s'/\Q (.ref a) H4) E s:=by
 have len:=rv.length
 have hsz:ls.size=ys.length:=by rw[h3.size_eq,yZ]
 have aa:∀i∈ls.toList,i<ys.length:=λi hi=>by
  have:=(h3.mem_iff).mp (Array.mem_toList_iff.mp hi)
  rwa [Array.mem_range] at this
 have s1:=Heap.SameBut.update s.heap kS (Obj.mapSeq λ_=>(#[]:Array Value));have L:(s.heap.update kS (Obj.mapSeq λ_=>(#[]:Array Value))).get? a=some (seqObj "list" #[] e1):=(s1.2 a ac.symm).trans ha
 have ea:(arrOf st).map (·.2)=ls.map λi=>vs.getD i .none:=by rw[h1,Array.map_map];rfl
 have es:((arrOf st).map (·.2)).size<=64:=by rw[ea,Array.size_map,hsz];lia
 unfold ksk_tail;dsimp only
 refine zb (listUpdate_at hk rfl ?_ (by rw[sizeLine_eq];lia) (wo _))
 refine zb (yx ?_);refine zb (seqEpoch_at L rfl ?_);simp only[zZ,if_false]
 refine zb (listUpdate_at L rfl ?_ (wo _) (zD es (by rw[sizeLine_eq];lia)))
 rw[h2];simp only[bne_self_eq_false,zZ,if_false];rw[ea];have s2:=Heap.SameBut.update (s.heap.update kS (Obj.mapSeq λ_=>(#[]:Array Value))) a (Obj.mapSeq λ_=>ls.map λi=>vs.getD i .none)
 obtain⟨c2,hc2⟩:∃c2,((s.heap.update kS (Obj.mapSeq λ_=>(#[]:Array Value))).update a (Obj.mapSeq λ_=>ls.map λi=>vs.getD i .none)).get? a=some (seqObj "list" (ls.map λi=>vs.getD i .none) c2):=
  ⟨_,get?_update_seq L λ_=>ls.map λi=>vs.getD i .none⟩
 refine zf ⟨rfl,_,?_,q⟩
 have J:=I.turnedL (t':=s.toks) (h':=(s.heap.update kS (Obj.mapSeq λ_=>(#[]:Array Value))).update a (Obj.mapSeq λ_=>ls.map λi=>vs.getD i .none)) (ch:=[kS,a]) (λb o O z=>by
  have n1:b≠kS:=λz=>O (by simp[z])
  have n2:b≠a:=λz=>O (by simp[z])
  exact(s2.2 b n2).trans ((s1.2 b n1).trans z)) (λb O=>by
  rcases zk.mp O with rfl |O
  ·exact fk
  ·rw[zF.mp O];exact W)
 refine J.track W.1 Y W.2.1 W.2.2.2.2.1 W.2.2.2.2.2 ⟨?_,(ls.toList.map λi=>vs.getD i .none),c2,Xn rv aa,?_⟩
 ·rw [zg, xU, hsz]
  exact zD (yI ad) w6
 ·have ee : (ls.toList.map λi => vs.getD i .none).toArray = ls.map λi => vs.getD i .none := by rw [<- Array.toList_map, yM]
  rw[ee];exact hc2
def zT8(I:Inv X pins σ H s)(hk:s.heap.get? kS=some (seqObj "list" kA e))(ha:s.heap.get? a=some (seqObj "list" #[] e1))(fk:FpOk X pins H kS)(fa:FpOk X pins H a)(ae:kS≠a)(ad:X.s₀.heap.objs.size<=a)
  (rv:Vals ys vs) (ag:ys.length<64) (rk:Vals ks kA.toList) (un:A.units+60<cLine) (fin:vX X ys Q ks H) :
  wpAny (model X.prog X.w) A (ksk_end a false vs.toArray e1 (.ref kS) kA) (λr s'=>r=.done (.ret .none)/\∃Y,Inv X pins σ Y s'/\Q (.ref a) Y) E s:=by
 classical
 obtain⟨f,rr,ai,tot,tr,aa,cmp,q⟩:=fin;have len:=rv.length;have ah:=rk.length
 have hz:kA.size<=64:=by rw[<- xU];lia
 have O:kA.zip vs.toArray=(Array.range vs.length).map λi=>(kA.toList.getD i .none,vs.getD i .none):=by
  have:=UP kA.toList vs w5
  rwa [yM] at this
 have J:∀(t:SortSt) (ls:Array Nat),arrOf t=ls.map (λi=>(kA.toList.getD i .none,vs.getD i .none))->failedOf t=none->ls.Perm (Array.range vs.length)->Srt.Up rr ls vs.length ->
   wpAny (model X.prog X.w) A (ksk_tail a false e1 (.ref kS) t) (λr s'=>r=.done (.ret .none)/\∃Y,Inv X pins σ Y s'/\Q (.ref a) Y) E s:=λt ls a1 a2 a3 a4=>by
  rw[<- len] at a3 a4;exact zE3 I hk ha fk fa ae ad hz rv ag a1 a2 a3 (q ls a3 a4 a fa.1)
 unfold ksk_end;dsimp only;simp only[zZ,if_false]
 by_cases c:vs.toArray.size<2
 ·rw [if_pos c, if_pos c];refine zb (zf ?_);rw[StateT.run_pure];refine zb (zf (J _ (Array.range vs.length) O rfl (Array.Perm.refl _) λi j aj hj=>?_))
  have:vs.length<2:=by simpa using c
  lia
 ·rw [if_neg c, if_neg c]
  have c2:2<=vs.length:=by simpa using c
  have ac:∀v∈kA.toList,∃i,i<ys.length/\v=kA.toList.getD i .none:=λv W=>by
   obtain⟨i,hi,e⟩:=getElem_of_mem W
   exact⟨i,w5,by rw[zM,zd hi,e];rfl⟩
  have each:∀v∈kA.toList,∃p rest,Srt.Tup s.heap v p rest/\s.TypeIs p (if f then "int" else "tuple"):=λv W=>by
   obtain⟨i,hi,rfl⟩:=ac v W
   exact aa i hi pins _ σ _ I (rk.getD w5)
  have ek:kA=kA.toList.toArray:=by rw[yM]
  have kind:∀(E:QqV) (Q:SortKind->Shared->Prop),Q (tuples' f) s->wpAny (model X.prog X.w) A (keyKind' kA) Q E s:=λE Q q=>by
   rw[ek]
   refine Srt.XW (s:=s) (T:=if f then "int" else "tuple") (fst:=λv=>if h:∃p rest,Srt.Tup s.heap v p rest/\s.TypeIs p (if f then "int" else "tuple") then h.choose else v) w5 (λv W=>?_) (λv W=>?_) ?_
   ·have e := each v W;obtain⟨rest,t,_⟩:=e.choose_spec
    exact⟨rest,by rw[dif_pos e];exact t⟩
   ·have e := each v W;obtain⟨rest,_,t⟩:=e.choose_spec
    show Shared.TypeIs _ (if h:_ then _ else _) _
    rw[dif_pos e];exact t
   ·cases f
    ·exact q
    ·exact q
  refine zb (kind _ _ ?_)
  have hR:Srt.Rule X.prog X.w A s vs.length (λi=>(kA.toList.getD i .none,vs.getD i .none)) (tuples' f) rr:=by
   refine⟨λa b ha hb=>tot a b w5 w5,λa b c ha hb hc=>tr a b c w5 w5 w5,λa b ha hb af E Q q=>?_⟩
   obtain⟨p1,ps,p2,qs,t1,t2,L⟩:=cmp a b w5 w5 af pins _ σ _ _ I (rk.getD w5) (rk.getD w5) A un
   exact Srt.Kt t1 t2 L q
  have N0:Srt.Now vs.length (λi=>(kA.toList.getD i .none,vs.getD i .none)) (tuples' f) (Array.range vs.length) (SortSt.mk' (tuples' f) (kA.zip vs.toArray) #[] 7 none):=⟨O,rfl,rfl,rfl,Array.Perm.refl _⟩
  refine zb (wM (Srt.all hR N0 c2 w5 (Q:=λ_ t=>∃ls:Array Nat,arrOf t=ls.map (λi=>(kA.toList.getD i .none,vs.getD i .none))/\failedOf t=none/\ls.Perm (Array.range vs.length)/\Srt.Up rr ls vs.length) λls t a1 a2 a3 a4=>⟨ls,a1,a2,a3,a4⟩) ?_ λ_ _ e=>e)
  rintro⟨_,t⟩ s' ⟨rfl,ls,a1,a2,a3,a4⟩;exact J t ls a1 a2 a3 a4
def zE4{f:Value}{sp:V->Hp->VK->Prop}{Ok:Hp->Prop}(I:Inv X pins σ H s)(hk:s.heap.get? kS=some (seqObj "list" #[] 0))(ha:s.heap.get? a=some (seqObj "list" #[] e1))(fk:FpOk X pins H kS)(fa:FpOk X pins H a)(W:kS≠a)(ae:X.s₀.heap.objs.size<=a)
  (rv:Vals ys vs) (af:ys.length<64) (un:A.units+60<cLine) (ok:Ok H)
  (turn:∀(pins':QqL) (s':Shared) (H':Hp) (y:V) (v:Value) (Q:VK),(∀p∈pins,p∈pins')->Inv X pins' σ H' s'->Ok H'->RelV y v->sp y H' Q->wpAny (model X.prog X.w) A (call f [v]) (EP X pins' σ λk H2=>Q k H2/\Ok H2) (λ_ _=>False) s')
  (fin:UF sp ys H (vX X ys Q)) :
  wpAny (model X.prog X.w) A (ksk_rest a f false vs.toArray e1 (.ref kS)) (λr s'=>r=.done (.ret .none)/\∃H4,Inv X pins σ H4 s'/\Q (.ref a) H4) E s:=by
 have len:=rv.length;have fk':FpOk X ((a,seqObj "list" #[] e1)::pins) H kS:=fk.more (Ne.symm W)
 have nc:∀(xs:Array Value) (n:Nat) (v:Option Value),(seqObj "list" xs n).data≠.cell v:=λ_ _ _ z=>by cases z
 unfold ksk_rest;refine zb (yD ?_)
 first
  |rw[List.forIn_toArray]
  |(rw[<- Array.forIn_toList];simp only[List.toList_toArray])
  |rw[<- Array.forIn_toList]
 refine zb (ksk_fold (λi s'=>∃H' kA e ks,Inv X ((kS,seqObj "list" kA e)::(a,seqObj "list" #[] e1)::pins) σ H' s'/\Ok H'/\Vals ks kA.toList/\ks.length=i/\UF sp (ys.drop i) H' λrest O=>vX X ys Q (ks++rest) O) vs 0 s
  ⟨H,#[],0,[],(I.pin1 fa ha (nc _ _)).pin1 fk' hk (nc _ _),ok,.nil,rfl,by simpa using fin⟩ ?step ?done)
 case step=>
  rintro j x s' hx ⟨H',kA,e,ks,I',ok',rk,lk,J⟩;simp only[Nat.zero_add] at lk J ⊢;have hj:j<vs.length:=(zu.mp hx).1
  have hj':j<ys.length:=w5
  have ey:ys[j]?=some ys[j]:=zd hj';obtain⟨u,eu,ry⟩:=rv.get ey;have ag:u=x:=zP (eu.symm.trans hx);subst ag;rw[List.drop_eq_getElem_cons hj'] at J
  have ah:kA.size<=64:=by rw[<- xU,<- rk.length];lia
  refine zb (wpAny_attempt (wM (turn _ s' H' ys[j] u _ (λp hp=>zj _ (zj _ hp)) I' ok' ry J) (λv s'' he=>?_) λ_ _ hF=>hF.elim));obtain⟨k,H2,I2,ac,aa,ad⟩:=he
  try dsimp only
  have L:=I2.pinAt (q:=(kS,seqObj "list" kA e)) (.head _);have na:=I2.pinAt (q:=(a,seqObj "list" #[] e1)) (.tail _ (.head _));have s1:=Heap.SameBut.update s''.heap kS (Obj.mapSeq (·.push v));obtain⟨c2,hc2⟩:∃c2,(s''.heap.update kS (Obj.mapSeq (·.push v))).get? kS=some (seqObj "list" (kA.push v) c2):=⟨_,get?_update_seq L.1 (·.push v)⟩
  have ea:(kA.push v).toList=kA.toList++[v]:=by simp
  refine zb (listUpdate_at L.1 rfl ?_ (by rw[sizeLine_eq];lia) (zD (Nat.le_of_eq (Array.size_push ..)) (by rw[sizeLine_eq];lia)))
  have Y:FpOk X ((a,seqObj "list" #[] e1)::pins) H2 kS:=fk'.reH L.2;have I3:=I2.unpin.turned (t':=s''.toks) (h':=s''.heap.update kS (Obj.mapSeq (·.push v))) (it:=kS) (λb o hb z=>(s1.2 b hb).trans z) L.2 Y.2.1 Y.2.2.2.1 Y.2.2.2.2.1 Y.2.2.2.2.2
  refine zf ⟨rfl,H2,kA.push v,c2,ks++[k],I3.pin1 Y hc2 (nc _ _),ad,by rw[ea];exact rk.append (.cons ac .nil),by rw[zy,lk];rfl,?_⟩
  have e9:(λrest O=>vX X ys Q (ks++[k]++rest) O)=λrest O=>vX X ys Q (ks++k::rest) O:=by funext rest O;rw[yi];rfl
  rw[e9];exact aa
 case done=>
  rintro s' ⟨H',kA,e,ks,I',ok',rk,lk,J⟩;rw[Nat.zero_add,<- len,List.drop_length] at J;have J:vX X ys Q (ks++[]) H':=J;rw[ww] at J;have L:=I'.pinAt (q:=(kS,seqObj "list" kA e)) (.head _);have na:=I'.pinAt (q:=(a,seqObj "list" #[] e1)) (.tail _ (.head _))
  try dsimp only
  refine zb (listItems_at L.1 rfl ?_);exact zT8 I'.unpin.unpin L.1 na.1 (fk.reH L.2) (fa.reH na.2) W ae rv af rk un J
def zE2{f:Value}{sp:V->Hp->VK->Prop}{Ok:Hp->Prop}{n0:Nat}(I:Inv X pins σ H s)(ha:s.heap.get? a=some (seqObj "list" vs.toArray n0))(J:FpOk X pins H a)(O:X.s₀.heap.objs.size<=a)
  (rv:Vals ys vs) (Y:ys.length<64) (un:A.units+60<cLine) (ok:Ok H)
  (turn:∀(pins':QqL) (s':Shared) (H':Hp) (y:V) (v:Value) (Q:VK),(∀p∈pins,p∈pins')->Inv X pins' σ H' s'->Ok H'->RelV y v->sp y H' Q->wpAny (model X.prog X.w) A (call f [v]) (EP X pins' σ λk H2=>Q k H2/\Ok H2) (λ_ _=>False) s')
  (fin:UF sp ys H (vX X ys Q)) :
  wpAny (model X.prog X.w) A (ksk_tree a f false) (λr s'=>r=.done (.ret .none)/\∃H4,Inv X pins σ H4 s'/\Q (.ref a) H4) E s:=by
 have len:=rv.length;have la:=zo ha;have s1:=Heap.SameBut.update s.heap a (Obj.mapSeq λ_=>(#[]:Array Value));obtain⟨e1,at1⟩:∃e1,(s.heap.update a (Obj.mapSeq λ_=>(#[]:Array Value))).get? a=some (seqObj "list" #[] e1):=⟨_,get?_update_seq ha λ_=>#[]⟩;have I1:=I.turned (t':=s.toks) (h':=s.heap.update a (Obj.mapSeq λ_=>(#[]:Array Value))) (it:=a) (λb o hb z=>(s1.2 b hb).trans z) J.1 J.2.1 J.2.2.2.1 J.2.2.2.2.1 J.2.2.2.2.2;have keep:∀b o,(s.heap.update a (Obj.mapSeq λ_=>(#[]:Array Value))).get? b=some o->(((s.heap.update a (Obj.mapSeq λ_=>(#[]:Array Value))).push (seqObj "tuple" vs.toArray 0)).push (seqObj "list" #[] 0)).get? b=some o:=λb o z=>ze _ (ze _ z);have I2:=I1.kept (t':=s.toks) keep
 have W:((s.heap.update a (Obj.mapSeq λ_=>(#[]:Array Value))).push (seqObj "tuple" vs.toArray 0)).objs.size=s.heap.objs.size+1:=by rw[size_push',Heap.size_update]
 have L:(s.heap.update a (Obj.mapSeq λ_=>(#[]:Array Value))).objs.size<=((s.heap.update a (Obj.mapSeq λ_=>(#[]:Array Value))).push (seqObj "tuple" vs.toArray 0)).objs.size:=by rw[size_push'];lia
 unfold ksk_tree;refine zb (listItems_at ha rfl ?_)
 refine zb (listUpdate_at ha rfl ?_ (by rw[zq,sizeLine_eq];lia) (wo _))
 refine zb (seqEpoch_at at1 rfl ?_)
 refine zb (wpAny_newTuple ?_ (by show vs.length<=_;rw[sizeLine_eq];lia))
 refine zb (wpAny_newList ?_ (wo _));refine xp ?_
 exact zE4 (s:={ s with heap:=((s.heap.update a (Obj.mapSeq λ_=>(#[]:Array Value))).push (seqObj "tuple" vs.toArray 0)).push (seqObj "list" #[] 0) }) (kS:=((s.heap.update a (Obj.mapSeq λ_=>(#[]:Array Value))).push (seqObj "tuple" vs.toArray 0)).objs.size)
  I2 (zr _ rfl) (keep _ _ at1) (I1.fpOk L (I1.hok.fresh L)) J (by rw[W];exact xS (xX la)) O rv Y un ok turn fin
end
def TabG.trip{φ:QqA}{l:QqW}(g:TabG φ l):TriplesOk l:=by
 induction g with
 |nil=>exact True.intro
 |cons _ _ J=>exact J
def TabG.among{φ:QqA}{pos:Pos}{l:QqW}(g:TabG φ l){v:Value}(e:codeAmong pos l=some v):∃c,v=.ref c/\φ c:=by
 induction g with
 |nil=>cases e
 |cons h _ J=>
  unfold codeAmong at e
  split at e
  ·cases e;exact⟨_,rfl,h⟩
  ·exact J e
def TabG.snoc{φ:QqA}{l:QqW}(g:TabG φ l){i j:Int}{t u:Tok}{c:Addr}(h:φ c):TabG φ (l++[.int i t,.int j u,.ref c]):=by
 induction g with
 |nil=>exact .cons h .nil
 |cons h' _ J=>exact .cons h' J
structure LamBase(base:Heap)(mg:QqM)(c P:Addr):Prop where
 hd:W.CodeHd base c P
 bm:∃bm ob,mg "__builtins__" = some (.ref bm)/\bm≠builtinsNs/\base.get? bm=some ob/\ob.cls=.type "module" /\ ob.dict=some builtinsNs/\ob.data=.plain
def OneMore(H J:Hp):Prop:=J=H\/∃c o,H c=none/\J=upd H c o
def OneMore.keep{H J:Hp}(h:OneMore H J):∀b o,H b=some o->J b=some o:=λb o e=>by
 rcases h with rfl |⟨c,u,L,rfl⟩
 ·exact e
 ·rw[xZ (yc e L)];exact e
section
variable {X:Cx}{pins:QqL}{σ:St}{H:Hp}{s:Shared}{c P:Addr}{q p:Str}{params:Arguments}{body:Expr}{scope:Scope}{clos:List (Str × Addr)}{pos lpos:Pos}
def zD9{Q:QqV}{E:QqV}(I:Inv X pins σ H s)(hc:X.env.code=.ref c)(L:LamBase X.base X.mg c P)(hP:H P=some (.cot q))(hq:X.env.qual ++ "<lambda>" = q)
  (ag:closureFor scope X.env=pure clos) (af:defaultsOf params X.env=([],[]))
  (h:∀(f c':Addr) (O:Obj) (J:Value) (H2:Hp) (s2:Shared),OneMore H H2->Inv X ((f,W.kla_obj "<lambda>" q params body scope clos ((X.mg "__name__").getD .none) c' J)::pins) σ H2 s2->H2 c'=some (.frz O (.own 0))->xo1 O q->Q (.ref f) s2) :
  wpAny (model X.prog X.w) X.A (eval (.Lambda params body scope lpos) X.env) Q E s:=by
 refine W.kla_eval af ?_;rw[hq];obtain⟨ps,ho,g⟩:=I.hok P _ hP;obtain⟨bm,ob,b1,b2,b3,b4,b5,b6⟩:=L.bm
 have nb:∀b o,X.base.get? b=some o->b≠P:=λb o e z=>by
  have:=(I.bs b o e).2;rw[z,hP] at this;cases this
 have ai:mainGlobals≠P:=by
  obtain⟨o,es,ep,e,_⟩:=I.mod.glob;exact nb _ _ e
 have ak:bm≠mainGlobals:=λz=>by
  obtain⟨o,es,ep,e,hd,_⟩:=I.mod.glob;rw[z,e] at b3;cases b3;rw[hd] at b6;cases b6
 have hB:s.heap.BuiltinsAt X.mg P:=⟨bm,ob,b1,b2,ak,nb _ _ b3,I.bk _ _ b3,b4,b5,b6⟩
 have nc:∀(c':Addr) (J:Value) (v:Option Value),(W.kla_obj "<lambda>" q params body scope clos ((X.mg "__name__").getD .none) c' J).data≠.cell v:=λ_ _ _ z=>by cases z
 cases hf:codeAmong lpos ps.toList with
 |some cv=>
  obtain⟨c',rfl,O,e1,e2⟩:=g.among hf;refine W.kla_makeFunctionHit (mg:=X.mg) ag I.ok.glob (I.mod.glob.keeps I.bk) hc (L.hd.keeps I.bk) ho g.trip hf hB λJ h' tk hk hsz=>?_;have I2:=I.kept (t':=tk) (h':=h'.push (W.kla_obj "<lambda>" q params body scope clos ((X.mg "__name__").getD .none) c' J)) λb o e=>ze _ (hk b o e);exact h _ c' O J H _ (.inl rfl) (I2.pin1 (I.fpOk hsz (I.hok.fresh hsz)) (zr _ rfl) (nc _ _)) e1 e2
 | none =>
  refine W.kla_makeFunction (mg:=X.mg) ag I.ok.glob (I.mod.glob.keeps I.bk) hc (L.hd.keeps I.bk) ho g.trip hf ai hB λc' J h' tk hx Y ae ac aa=>?_;obtain⟨c2,O,vs,t,ec,ad,hd,hv⟩:=ac;cases ec;have hn:H c'=none:=I.hok.fresh Y;have hsz:s.heap.objs.size<=h'.objs.size:=zD Y (yI ae)
  have nP:∀b,H b=none->b≠P:=λb e z=>by rw[z,hP] at e;cases e
  have kp:∀b o,b≠P->s.heap.get? b=some o->(h'.push (W.kla_obj "<lambda>" q params body scope clos ((X.mg "__name__").getD .none) c' J)).get? b=some o:=λb o hb e=>ze _ (hx b o hb e);have cP:c'≠P:=nP c' hn
  have up:∀b u,H b=some u->upd H c' (.frz O (.own 0)) b=some u:=λb u e=>by rw[xZ (yc e hn)];exact e
  have U:Un X.fs [] H (upd H c' (.frz O (.own 0))) s.heap (h'.push (W.kla_obj "<lambda>" q params body scope clos ((X.mg "__name__").getD .none) c' J)):=by
   refine⟨λb o e n _ _=>kp b o (nP b n) e,λb o e n _ _=>⟨o.slots,kp b o (nP b n) e⟩,λb o e n _=>?_,λb o e _=>?_,λb xs e=>up b _ e,λb o u e=>up b _ e,λb ps e=>⟨#[],by rw[up b _ e];simp⟩⟩
   ·rw[xZ (zx (zT (zo e) Y))];exact n
   ·by_cases hb : b = P
    ·exact⟨_,ze _ (hb ▸ aa)⟩
    ·exact⟨o,kp b o hb e⟩
  have hok:HOk X.prog X.w (upd H c' (.frz O (.own 0))) (h'.push (W.kla_obj "<lambda>" q params body scope clos ((X.mg "__name__").getD .none) c' J)):=λb u e=>by
   by_cases hb:b=c'
   ·subst hb;rw[wX] at e;cases e;exact⟨ze _ ad,O,ze _ ad⟩
   ·rw [xZ hb] at e
    by_cases ah:b=P
    ·subst ah;rw[hP] at e;cases e;refine⟨_,ze _ aa,?_⟩;rw[Array.toList_append];exact(g.imp λd ⟨O,z,i⟩=>⟨O,up _ _ z,i⟩).snoc ⟨O,wX,vs,t,hd,hv⟩
    ·refine (I.hok b u e).stay (λd v hd z => kp d v ?_ z) (λd z => up d _ z) (λd xs z => up d _ z) λd o u z => up d _ z
     rcases hd with rfl |hd
     ·exact ah
     ·intro z;rw[z,hP] at hd;cases hd
  have I2:=I.un (t':=tk) U hok
  have aj:upd H c' (.frz O (.own 0)) h'.objs.size=none:=by rw[xZ (xS ae)];exact I.hok.fresh hsz
  exact h _ c' O J _ _ (.inr ⟨c',_,hn,rfl⟩) (I2.pin1 (I.fpOk hsz aj) (zr _ rfl) (nc _ _)) wX ⟨vs,t,hd,hv⟩
def SqL.keep{K:W.Frag}{H J:Hp}{a:Addr}{xs:List V}(h:SqL K H a xs)(k:∀b o,H b=some o->J b=some o):SqL K J a xs:=by
 rcases h with (h |⟨o,h⟩) |h
 ·exact .inl (.inl (k _ _ h))
 ·exact .inl (.inr ⟨o,k _ _ h⟩)
 ·exact .inr h
structure Caps(X:Cx)(N:List Str)(clos:List (Str × Addr))(caps:List Nat):Prop where
 len:N.length=caps.length+1
 at_:∀i x,N[i+1]?=some x->X.env.kindOf x=some .cell/\∃j,caps[i]?=some j/\X.N[j]?=some x
 sub:∀x c,clos.lookup x=some c->X.env.cells.lookup x=some c
 has:∀i x,N[i+1]?=some x->∃c,clos.lookup x=some c
def zZ1(X:Cx)(P:Addr)(q:Str)(caps:List Nat)(tb:Hp->TE)(W:TA):TE:=λσ H Q=>W σ H λvs J=>∃(L:Addr) (ys cv:List V),vs=[.ref L]/\SqL X.K J L ys/\ys.length<64/\J P=some (.cot q) /\
 cv.length=caps.length/\(∀(i j:Nat),caps[i]?=some j->∃y,cv[i]?=some y/\σ[j]?=some (some y))/\∀O,OneMore J O->UF (λy H' Q'=>tb H' (some y::cv.map some) H' Q') ys O (vX X ys Q)
def zd0{e:Expr}{t1:TA}{tb:Hp->TE}{N:List Str}{caps:List Nat}{k:Nat}{np kp:Pos}(hg:Gl X "sorted")(hm:X.mg "sorted" = none)(ha:PA X [e] t1)(hr:Room (k+3) X.A)
    (hc:X.env.code=.ref c) (L:LamBase X.base X.mg c P) (hq:X.env.qual ++ "<lambda>" = q) (ar:closureFor scope X.env=pure clos) (af:defaultsOf params X.env=([],[]))
    (S:LamScope N p scope clos) (C:Caps X N clos caps) (hb:∀(u pm aj:Value) (c':Addr),bindArgs (W.kla_fn "<lambda>" q params body scope clos pm (.ref c') aj) ⟨[u],[]⟩=pure [(p,u)])
    (ac:∀(A:Around) (f c':Addr) (s:Shared) (H:Hp),Room k (A.deeper (W.envX q scope s.heap.objs.size f (.ref c') clos))->PE (ze7 X A N q scope f c' clos s H) body (tb H))
    (he:starEach [e] X.env=(false,eval e X.env)::starEach [] X.env:=by rfl) (al:(backTo pos (starEach [e] X.env)).any (·.1)=false:=by rfl) :
    PE X (.Call (.Name "sorted" np) [e] [⟨some "key",.Lambda params body scope lpos,kp⟩] pos) (zZ1 X P q caps tb t1):=by
  intro pins s σ H Q I h
  refine wpAny_Call_Name_kw (Kq I hg hm Yb ?_ w6 w6)
  refine callWith_kw (env:=X.env) (e:=e) (rest:=[]) (thn (ha pos pins s σ H _ I h) λus s1 ⟨vs,H1,I1,r1,q1⟩=>?_) (by rw[he];rfl) al rfl rfl
  obtain⟨p0,ys,cv,rfl,hS,au,hP,ao,ah,hk⟩:=q1;refine kws_cons (zD9 I1 hc L hP hq ar af λf c' oc aj H2 J hH I2 am ag=>kws_nil ?_)
  cases r1 with
  | cons r rr =>
    cases rr;cases r;obtain⟨its,rv,pl,_⟩:=I2.list (hS.keep hH.keep);have hl:=pl.isList;have len:=rv.length;have fin:=hk H2 hH;have O:Room (k+1) X.A.in1.in1:=hr.in1.in1;show wpAny _ _ (call (.builtin "sorted") [.ref p0] [(Str.ofString "key",.ref f)]) _ _ _;refine call_function_entry_kw kind_sorted plain_sorted entry_sorted (ksk_s1 _ _) ?_;unfold Builtin.«sorted»;refine zb (m:=checkCount "sorted" 1 1 _) (zf ?_)
    refine zb (collect_list hl ?_ (by rw[sizeLine_eq];lia))
    refine zb (wpAny_newList ?_ (by rw[sizeLine_eq];lia))
    have hsz:((J.heap.push (seqObj "list" #[] 0)).update J.heap.objs.size (Obj.mapSeq (·++its.toArray))).objs.size=J.heap.objs.size+1:=by rw[Heap.size_update,size_push']
    have ae:(((J.heap.push (seqObj "list" #[] 0)).update J.heap.objs.size (Obj.mapSeq (·++its.toArray))).push (seqObj "list" its.toArray 0)).get? (J.heap.objs.size+1)=some (seqObj "list" its.toArray 0):=by
      rw[<- hsz];exact zr _ rfl
    have keep:∀b o,J.heap.get? b=some o->(((J.heap.push (seqObj "list" #[] 0)).update J.heap.objs.size (Obj.mapSeq (·++its.toArray))).push (seqObj "list" its.toArray 0)).get? b=some o:=λb o q=>by
      have aa:b<J.heap.objs.size:=zo q
      rw[Heap.get?_push_ne _ _ _ (by rw[hsz];exact zx (xX aa)),Heap.get?_update_ne _ _ _ _ (zx aa),Heap.get?_push_ne _ _ _ (zx aa)]
      exact q
    have I3:=I2.kept (t':=J.toks) keep;have fa:=I2.fpOk (H':=H2) (b:=J.heap.objs.size+1) (xv _) (I2.hok.fresh (xv _));show wpAny _ _ _ _ _ { J with heap:=((J.heap.push (seqObj "list" #[] 0)).update J.heap.objs.size (Obj.mapSeq (·++its.toArray))).push (seqObj "list" its.toArray 0) };rw[hsz];refine zb (xp (wpAny_call_entry_kw slot_list_sort ⟨_,ae,rfl⟩ entry_list_sort ?body (ksk_l1 _ _)))
    case body=>
      show wpAny (model X.prog X.w) X.A.in1.in1 (Builtin.«list.sort» ⟨[.ref (J.heap.objs.size+1)],[(Str.ofString "key",.ref f)]⟩) _ _ _;rw[ksk_t1]
      refine wM (zE2 (Ok:=λH'=>H' c'=some (.frz oc (.own 0))) I3 ae fa (zD I2.sz (xv _)) rv au (by have:=O.un;lia) am (λpins' s' H' y v Q' ad I' ok' ry ht=>?_) fin) (λr s' hq=>?_) λ_ _ z=>z
      · have aq : s'.heap.CodeRec (.ref c') q := by
          obtain⟨z1,_⟩:=I'.hok c' _ ok';obtain⟨vs,t,d1,d2⟩:=ag;exact⟨c',oc,vs,t,rfl,z1,d1,d2⟩
        refine thn (zT4 (cv:=cv) I' (I'.pinAt (ad _ (.head _))).1 aq I'.ok.frames O.depth O.hd S (by rw[C.len,ao]) (hb _ _ _ _) ry C.sub (λi x y e1 e2=>?_) (ac _ _ _ _ _ (O.deeper _)) ht) λu s3 hz=>?_
        · obtain ⟨Y, j, e3, e4⟩ := C.at_ i x e1
          obtain⟨y',e5,e6⟩:=ah i j e3;have e7:y'=y:=zP (e5.symm.trans e2);subst e7;obtain⟨cc,e8⟩:=C.has i x e1;obtain⟨m,_,lk⟩:=I'.loc;obtain⟨u',r',l⟩:=lk j x y' e4 e6 (.inr (.inl Y))
          rcases l with ⟨l,_⟩ |⟨_,c3,e9,z⟩
          · rw[Y] at l;cases l
          · have ai := C.sub x cc e8
            rw[e9] at ai;cases ai;exact⟨_,e8,u',r',z⟩
        · obtain ⟨v2, H3, I4, ak, q2, fz⟩ := hz
          exact⟨v2,H3,I4,ak,q2,fz _ _ _ ok'⟩
      · obtain ⟨rfl, H4, I4, q4⟩ := hq
        exact⟨_,rfl,zf ⟨_,rfl,.ref (J.heap.objs.size+1),H4,I4.unpin,rfl,q4⟩⟩
end
def zL5(caps:List Nat)(tb:TD)(W:TAD):TD:=λrho n R=>W rho n λes L=>∃(J:List D) (keys:List SRow) (fl:Bool) (O:List D),es=[.lst J]/\J.length<64/\keys.length=J.length/\(∀x∈keys,x.key.num=fl)/\(keys.map SRow.name).Nodup /\
 O.length=caps.length/\(∀(i j:Nat),caps[i]?=some j->∃d,O[i]?=some d/\rho[j]?=some (some d)/\we d=true)/\(∀(i:Nat) (d:D) (x:SRow),J[i]?=some d->keys[i]?=some x->tb (some d::O.map some) L λe Y=>e=x.d/\Y=L) /\
 ∀ls:List Nat,ls.Perm (List.range J.length)->(ls.map λi=>keys.getD i YO).Pairwise (λx y=>x.lt y=true)->R (.lst (ls.map λi=>J.getD i .non)) L
section
variable {A:AC}{X:Cx}{os:List (Nat × Addr)}{n:Nat}{rho:Rho}{sg:St}{H:Hp}{ds:List D}{vs:List V}
def KL(I:AmO A os n rho sg H ds vs):∀(caps:List Nat) (J:List D),J.length=caps.length->(∀(i j:Nat),caps[i]?=some j->∃d,J[i]?=some d/\rho[j]?=some (some d)/\we d=true) ->
  ∃cv:List V,Reps A.K A.G (Zof A os) H J cv/\∀(i j:Nat),caps[i]?=some j->∃y,cv[i]?=some y/\sg[j]?=some (some y)
 |[],[],_,_=>⟨[],.nil,λi j e=>by simp at e⟩
 |[],_::_,h,_=>by simp at h
 |_::_,[],h,_=>by simp at h
 | j :: caps, c :: J, h, L => by
  obtain⟨d,e1,e2,e3⟩:=L 0 j rfl
  have e4:c=d:=by simpa using e1
  subst e4;obtain⟨v,e5,Y⟩:=I.slot j c e2
  obtain⟨cv,r,O⟩:=KL I caps J (by simpa using h) λi j e=>by
   obtain⟨d,z1,z2⟩:=L (i+1) j (by simpa using e)
   exact⟨d,by simpa using z1,z2⟩
  refine⟨v::cv,.cons (Y.rep e3) r,λi k e=>?_⟩
  cases i with
  |zero=>
   have W:j=k:=by simpa using e
   subst W;exact⟨v,rfl,e5⟩
  |succ i=>
   obtain⟨y,z1,z2⟩:=O i k (by simpa using e)
   exact⟨y,by simpa using z1,z2⟩
def zM9{K:W.Frag}{G:QqE}{Z:QqA}{tb:TD}{d:D}{L:List D}{v:V}{cv:List V}{Q:VK}{P:D->Nat->Prop}(O:Reps K G Z H (d::L) (v::cv))(st:zx1 G n H)(gz:∀a,G=some a->Z a)(z0:ZOk K G Z H)
  (ht:tb (some d::L.map some) n P) (hQ:∀v' H' n' d',(∀a o,G≠some a->H a=some o->H' a=some o)->zx1 G n' H'->Rep K G Z H' d' v'->P d' n'->Q v' H'):tOf ⟨K,G,Z,H⟩ tb (some v::cv.map some) H Q:=by
 have S:=jD (N:=replicate (d::L).length "") O st gz z0
 have e1:startD (replicate (d::L).length "") (d::L)=some d::L.map some:=by unfold startD;simp
 have Y:=O.length
 have e2:start (replicate (d::L).length "") (v::cv)=some v::cv.map some:=by unfold start;simp at Y;simp[Y]
 rw[e1,e2] at S;refine⟨_,n,P,[],[],⟨[],S⟩,ht,λv' H' n' d' ⟨aa,J⟩ hp=>hQ v' H' n' d' J.fr J.st (Rep.mono (λa _ z=>.inl z) (λ_ _ _ e=>e) _ _ J.pop.2) hp⟩
def zK5{N2:Nat}{tb:TD}{cs:List D}{cv:List V}{ys:List V}{Q:VK}(hK:X.K=A.K) :
  ∀(J:List D) (xs:List V) (keys:List SRow) (done:List SRow) (L:List V) (H:Hp),keys.length=J.length->AmO A os n rho sg H ds vs->Reps A.K A.G (Zof A os) H J xs->Reps A.K A.G (Zof A os) H cs cv->Reps A.K A.G (Zof A os) H (done.map SRow.d) L ->
   (∀(i:Nat) (d:D) (x:SRow),J[i]?=some d->keys[i]?=some x->tb (some d::cs.map some) n λe n2=>e=x.d/\n2=n) ->
   (∀(kv:List V) (O:Hp),(∀a o,A.G≠some a->H a=some o->O a=some o)->AmO A os n rho sg O ds vs->Reps A.K A.G (Zof A os) O ((done++keys).map SRow.d) (L++kv)->vX X ys Q (L++kv) O) ->
   UF (λy H' Q'=>(∃G Z,tOf ⟨X.K,G,Z,H'⟩ tb (some y::cv.map some) H' Q')) xs H λrest O=>vX X ys Q (L++rest) O
 |[],xs,[],done,L,H,_,I,rr,rc,rd,_,fin=>by
  rw[rr.nil_inv];show vX X ys Q (L++[]) H
  exact fin [] H (λ_ _ _ e=>e) I (by simpa using rd)
 |[],xs,_::_,done,L,H,Y,_,_,_,_,_,_=>by simp at Y
 |_::_,xs,[],done,L,H,Y,_,_,_,_,_,_=>by simp at Y
 | d :: J, xs, k :: keys, done, L, H, Y, I, rr, rc, rd, W, fin => by
  obtain⟨v,xs',rfl,r0,rr'⟩:=rr.split;show ∃G Z,tOf ⟨X.K,G,Z,H⟩ tb (some v::cv.map some) H λkk H'=>UF _ xs' H' λks H''=>vX X ys Q (L++kk::ks) H'';refine⟨A.G,Zof A os,?_⟩
  suffices z:tOf ⟨A.K,A.G,Zof A os,H⟩ tb (some v::cv.map some) H (λkk H'=>UF (λy H' Q'=>(∃G Z,tOf ⟨X.K,G,Z,H'⟩ tb (some y::cv.map some) H' Q')) xs' H' λks H''=>vX X ys Q (L++kk::ks) H'') by
   rw[<- hK] at z;exact z
  refine zM9 (.cons r0 rc) I.st (λa z=>.inl (I.gz a z)) I.zO (W 0 d k rfl rfl) λv' H' n' d' fr st r ⟨e1,e2⟩=>?_;subst e1;have st':zx1 A.G n H':=e2 ▸ st;have I':=I.called fr st';have mono:∀{es:List D}{ws:List V},Reps A.K A.G (Zof A os) H es ws->Reps A.K A.G (Zof A os) H' es ws:=λh=>Reps.mono (λ_ _ z=>z) (λb u nz e=>fr b u (λz=>nz (.inl (I.gz b z))) e) _ _ h
  have rd':Reps A.K A.G (Zof A os) H' ((done++[k]).map SRow.d) (L++[v']):=by
   rw[zK];exact(mono rd).append (.cons r .nil)
  have key:=zK5 (N2:=N2) (ys:=ys) (Q:=Q) hK J xs' keys (done++[k]) (L++[v']) H' (by simpa using Y) I' (mono rr') (mono rc) rd' (λi d x e1 e2=>W (i+1) d x (by simpa using e1) (by simpa using e2)) λkv O aa I3 r3=>by
   have:=fin (v'::kv) O (λa o g e=>aa a o g (fr a o g e)) I3 (by simpa using r3)
   simpa using this
  have e9:(λrest O=>vX X ys Q (L++[v']++rest) O)=λks H''=>vX X ys Q (L++v'::ks) H'':=by funext rest O;rw[yi];rfl
  rw[e9] at key;exact key
variable {e body:Expr}{t1:TAD}{tb:TD}{N:List Str}{caps:List Nat}{k:Nat}{np kp pos lpos:Pos}{c P:Addr}{q p:Str}{params:Arguments}{scope:Scope}{clos:List (Str × Addr)}
def zd1(ti:qj A.K P q)(hK:X.K=A.K)(hm:X.mg "sorted" = none)(hr:Room (k+3) X.A)(ha:PAD A X [e] t1)(L:LamBase X.base X.mg c P)(S:LamScope N p scope clos)(C:Caps X N clos caps)
  (ad:∀(A1:Around) (f c':Addr) (s:Shared) (H:Hp) (G:QqE) (Z:QqA),Room k (A1.deeper (W.envX q scope s.heap.objs.size f (.ref c') clos))->PD ⟨X.K,G,Z,H⟩ (ze7 X A1 N q scope f c' clos s H) body tb)
  (hq:X.env.qual ++ "<lambda>" = q:=by rfl) (hc:X.env.code=.ref c:=by rfl) (ax:closureFor scope X.env=pure clos:=by rfl) (ag:defaultsOf params X.env=([],[]):=by rfl)
  (hb:∀(u pm ay:Value) (c':Addr),bindArgs (W.kla_fn "<lambda>" q params body scope clos pm (.ref c') ay) ⟨[u],[]⟩=pure [(p,u)]:=by intros;rfl) (hg:Gl X "sorted" := by rfl)
  (he:starEach [e] X.env=(false,eval e X.env)::starEach [] X.env:=by rfl) (ao:(backTo pos (starEach [e] X.env)).any (·.1)=false:=by rfl) :
  PD A X (.Call (.Name "sorted" np) [e] [⟨some "key",.Lambda params body scope lpos,kp⟩] pos) (zL5 caps tb t1):=by
 exists (zd0 (tb:=λH' σ' H'' Q'=>∃G Z,tOf ⟨X.K,G,Z,H'⟩ tb σ' H'' Q') hg hm ha hr hc L hq ax ag S C hb (λA1 f c' s H hr aa s1 σ1 H1 Q I h=>by
    obtain⟨G,Z,h⟩:=h
    exact ad A1 f c' s H G Z hr aa s1 σ1 H1 Q I h) he ao).imp λsg H Q h=>by
   obtain⟨rho,n,R,ds,vs,I,ht,hQ⟩:=h;refine⟨rho,n,_,ds,vs,I,ht,λws H' n' es' ⟨os,J⟩ hl k=>?_⟩;obtain⟨O,keys,fl,cs,rfl,aA,av,ae,aq,ah,ai,am,af⟩:=k;obtain⟨J1,rs⟩:=J.split hl;obtain⟨v,rfl,r⟩:=kO rs;obtain⟨a,xs,rfl,sq,rr⟩:=r.lst_inv;have len:xs.length=O.length:=rr.length;obtain⟨cv,rc,aw⟩:=KL J1 caps cs ah ai
   refine⟨a,xs,cv,rfl,by rw[hK];exact sq.sq,w5,(J1.zO.2 P q ti).1,by rw[rc.length];exact ah,aw,λH2 aj=>?_⟩
   have al:=aj.keep
   have J2:AmO A os n' rho sg H2 ds vs:=by
    rcases aj with rfl |⟨c2,o2,ar,rfl⟩
    ·exact J1
    ·exact J1.grow ar
   have mono:∀{es:List D}{ws:List V},Reps A.K A.G (Zof A os) H' es ws->Reps A.K A.G (Zof A os) H2 es ws:=λh=>Reps.mono (λ_ _ z=>z) (λb u _ e=>al b u e) _ _ h;refine zK5 (N2:=0) hK O xs keys [] [] H2 av J2 (mono rr) (mono rc) .nil am λkv H3 fr I3 rk=>?_;rw[wf] at rk ⊢;have ak:Reps A.K A.G (Zof A os) H3 O xs:=Reps.mono (λ_ _ z=>z) (λb u nz e=>fr b u (λz=>nz (.inl (J2.gz b z))) e) _ _ (mono rr);rw[wf,<- hK] at rk
   have az:kv.length=keys.length:=by rw[rk.length,zg]
   have mem:∀i,i<keys.length->keys.getD i YO∈keys:=λi hi=>by
    rw[zM,zd hi];exact wl hi
   have ac:∀i j,i<keys.length->j<keys.length->i≠j->(keys.getD i YO).name≠(keys.getD j YO).name:=λi j hi hj Y e=>by
    have g:∀i (hi:i<keys.length),(keys.map SRow.name)[i]'(by simpa using hi)=(keys.getD i YO).name:=λi hi=>by
     rw[List.getElem_map,zM,zd hi];rfl
    have f:=xY.mp aq
    rcases Nat.lt_or_gt_of_ne Y with l |l
    ·exact f i j (by simpa using hi) (by simpa using hj) l (by rw[g i hi,g j hj,e])
    ·exact f j i (by simpa using hj) (by simpa using hi) l (by rw[g i hi,g j hj,e])
   have num:∀i,i<keys.length->(keys.getD i YO).key.num=fl:=λi hi=>ae _ (mem i hi)
   refine⟨fl,λi j=>(keys.getD i YO).lt (keys.getD j YO),w5,λi j hi hj Y=>SRow.lt_anti (by rw[num i w5,num j w5]) (ac i j w5 w5 Y),λi j l _ _ _ h1 h2=>SRow.lt_trans h1 h2,λi hi=>?_,λi j hi hj Y=>?_,λls hp hU l hl'=>?_⟩
   ·intro aa s σ u J ru
    obtain⟨p,rest,R⟩:=WS J (rk.getD (enc:=SRow.d) (a0:=YO) w5) ru
    obtain⟨z,t,_⟩:=R.tup;have ty:=Qw J R
    rw[num i w5] at ty
    exact⟨p,_,t,ty⟩
   ·intro aa s σ u v J ru rv B hB
    obtain⟨p,ps,R⟩:=WS J (rk.getD (enc:=SRow.d) (a0:=YO) w5) ru
    obtain⟨p',ps',R'⟩:=WS J (rk.getD (enc:=SRow.d) (a0:=YO) w5) rv
    have c:=zj8 J (by rw[num i w5,num j w5]) (ac i j w5 w5 Y) R R' hB
    rw[num i w5] at c
    exact c
   ·rw [len] at hp hU
    have au:∀i∈ls.toList,i<O.length:=λi hi=>by
     have:=(hp.mem_iff).mp (Array.mem_toList_iff.mp hi)
     rwa [Array.mem_range] at this
    have hsz:ls.size=O.length:=by rw[hp.size_eq,yZ]
    have rp:Reps A.K A.G (Zof A os) H3 ((ls.toList.map λi=>O.getD i .non).map id) (ls.toList.map λi=>xs.getD i .non):=Xx (enc:=id) (a0:=.non) (by rw[List.map_id];exact ak) au
    rw[List.map_id] at rp;refine hQ _ _ _ _ ⟨os,I3.newLst rp hl'⟩ (af ls.toList ?_ ?_)
    ·have := Array.perm_iff_toList_perm.mp hp
     rwa [Array.toList_range] at this
    ·rw [xn, xY];intro i j hi hj Y
     have hi':i<ls.size:=by simpa using hi
     have hj':j<ls.size:=by simpa using hj
     have u:=hU i j Y w5
     have g:∀i (hi:i<ls.size),Srt.lab ls i=ls.toList[i]'(by simpa using hi):=λi hi=>by
      refine Srt.jL ?_
      rw[<- yu,zd (by simpa using hi)]
     rw[g i hi',g j hj'] at u;exact u
end
section
variable {P:Program}{w:World}{K:W.Frag}{mg:QqM}{base:Heap}
def JY{x J:Str}{st:Stmt}{f c Pt:Addr}{oc:Value}{od an:QqE}{O:Array (Option Value)}{kV Y pm L ct:Value}(lk:K.lookup f=some ⟨oc,od,.func (W.fnOf x J (qg st) (vP st) (xi st) .none kV Y pm an L ct),O⟩)
  (hn:W.nsIn K mainGlobals x=some (some (.ref f))) (ht:W.tabIn K x=some (c,Pt)):L=.ref c:=by
 unfold W.tabIn at ht;rw[hn] at ht;simp only[lk] at ht
 split at ht
 ·split at ht
  ·split at ht
   ·cases ht;first |rfl |assumption
   ·cases ht
  ·cases ht
 ·cases ht
def Fun.okL{x J:Str}{st:Stmt}{f c Pt:Addr}{fd:FuncData}{N ps:List Str}{k:Nat}{t:TF}{tb:TSD}(F:Fun K x J st f fd)(hn:W.nsIn K mainGlobals x=some (some (.ref f)))(ht:W.tabIn K x=some (c,Pt))(S:FnScope N ps (xi st))
  (body : ∀ (O : Around) (outer : List Env) (s : Shared) (H : Hp) (E : XK) (G : Option Addr) (Z : Addr -> Prop), Room k (O.deeper (envOfC J (xi st) s.heap.objs.size f (.ref c))) ->
   zg1 ⟨K,G,Z,H⟩ (zx0 CX0 P w K mg base N J (xi st) f (.ref c) O outer s H E).nox (vP st) tb)
  (L:∀ds n Q,ds.length=ps.length->t ds n Q->tb { nx:=λ_ n=>Q .non n,rt:=Q } (startD N ds) n):FnOk P w K mg base CX0 (k+1) f fd ps (spD K ps.length t):=by
 exists (by
   obtain⟨oc,od,kV,ae,pm,an,af,ct,ad,rfl,lk,ac⟩:=F.ex;have e:=JY lk hn ht;subst e;refine xl5 lk ac S (λvs H Q E h=>?_) λO outer s H vs Q E hr h=>?_
   ·obtain⟨G,Z,n,R,ds,hl,Y,_⟩:=h;rw[Y.length];exact hl
   ·obtain ⟨G, Z, n, R, ds, hl, Y, aa, gz, z0, ht, hQ⟩ := h;refine⟨_,PSs.nox (body O outer s H E G Z hr),startD N ds,n,_,[],[],⟨[],jD Y aa gz z0⟩,L ds n R hl ht,?_⟩;have zz:∀ (os:List (Nat × Addr)) a,Z a->Zof ⟨K,G,Z,H⟩ os a:=λos a z=>.inl z;refine⟨λrho' n' sg' H' ⟨os,I⟩ q=>?_,λd n' v rho' sg' H' ⟨os,I⟩ q=>?_,λ_ _ _ _ _ q=>q.elim,λ_ _ _ _ _ q=>q.elim⟩
    ·exact hQ .non H' n' .non I.fr I.st (Rep.ofS rfl) q
    ·exact hQ v H' n' d I.fr I.st (Rep.mono (λa _ z=>zz os a z) (λ_ _ _ e=>e) _ _ I.pop.2) q)
end
abbrev Jh(K:W.Frag)(mg:QqM)(base:Heap):Prop:=∀x∈qv,∀c P,W.tabIn K x=some (c,P)->LamBase base mg c P
def zp5{P:Program}{w:World}{K:W.Frag}{mg mb:QqM}{CX:CXT}{k:Nat}{fa a:Addr}{fd:FuncData}{x:Str}{sp:Sp}{J:Shared}{vs:QqW}{ns:List Int}
  (KX:K.In J.heap) (ak:J.heap.Ns mainGlobals mg) (hb:J.heap.Ns builtinsNs mb) (aA:∀x:Str,x ≠ "__name__" -> mb x=bootBuiltins x) (al:J.heap.NoLimit) (am:J.heap.NoDigits) (hg:J.gens=#[])
  (hT:∀x∈qv,∀c P,W.tabIn K x=some (c,P)->W.CodeHd J.heap c P/\J.heap.get? P=some (W.tabObj #[])) (hu:∀P q q',qj K P q->qj K P q'->q=q') (ax:W.noTabs K=true)
  (az:∃bm ob,mg "__builtins__" = some (.ref bm)/\bm≠builtinsNs/\J.heap.get? bm=some ob/\ob.cls=.type "module" /\ ob.dict=some builtinsNs/\ob.data=.plain)
  (ha:J.heap.get? a=some { cls:=.type "list",data:=.seq vs.toArray }) (hi:IntsAre vs ns) (hl:ns.length<=sizeLine) (hr:Room k callerA)
  (F:∀base:Heap,K.In base->base.Ns mainGlobals mg->base.NoDigits->Jh K mg base->FnOk P w K mg base CX k fa fd [x] sp) (af:∀(s:Shared) (u:Value),BindsTo s fd ⟨[u],[]⟩ [(x,u)])
  (aw:∀H:Hp,zH6 H->SqL K H a (ns.map V.int)->(∀P q,qj K P q->H P=some (.cot q))->sp [.ref a] H (λv H'=>v=.bl true/\∀P q,H P=some (.cot q)->H' P=some (.cot q)) λ_ _ _=>False)
  (aE:∀H e s',CX [] H J (λ_ _ _=>False) e s'->False) :
  codeAny (model P w) callerA (.call (.ref fa) ⟨[.ref a],[]⟩) (λr s'=>r=.ok (.ret (.bool true))/\OldK J.heap s'.heap/\s'.os=J.os/\AllBare s'.gens) J:=by
 classical
 have rv:=UE hi;have aj:=hi.length;have L:∀{b:Addr},(∃q,qj K b q)->∃c,W.CodeHd J.heap c b/\J.heap.get? b=some (W.tabObj #[]):=λ{b} ⟨q,x,hx,c,e,_⟩=>⟨c,hT x hx c b e⟩
 have ad:∀H:Hp,(∀b,(H b=none)\/(b=a/\∃o xs,H b=some (.frz o (.lst xs)))\/∃q,qj K b q/\H b=some (.cot q))->(∀P q,qj K P q->H P=some (.cot q))->SqL K H a (ns.map V.int)->HOk P w H J.heap->(H a≠none->K.lookup a=none) ->
   codeAny (model P w) callerA (.call (.ref fa) ⟨[.ref a],[]⟩) (λr s'=>r=.ok (.ret (.bool true))/\OldK J.heap s'.heap/\s'.os=J.os/\AllBare s'.gens) J:=by
  intro H hO aB hS hok hK;have base_of:∀{b:Addr}{o:Obj},J.heap.get? b=some o->H b=none->(zw9 J.heap H).get? b=some o:=λe n=>zE9 e n
  have ai:∀{b:Addr}{o:Obj},J.heap.get? b=some o->o.cls≠.type "list" -> o≠W.tabObj #[]->H b=none:=λ{b o} e d1 d2=>by
   rcases hO b with z |⟨rfl,_⟩ |⟨q,t,_⟩
   ·exact z
   ·rw[ha] at e;cases e;exact absurd rfl d1
   ·obtain⟨c,_,Y⟩:=L ⟨q,t⟩;rw[Y] at e;cases e;exact absurd rfl d2
  have au:∀{b:Addr}{o:Obj}{es:Array DictEntry}{ep:Nat},J.heap.get? b=some o->o.data=.dict es ep->H b=none:=λ{b o es ep} e d=>by
   rcases hO b with z |⟨rfl,_⟩ |⟨q,t,_⟩
   ·exact z
   ·rw[ha] at e;cases e;have d':Data.seq vs.toArray _=Data.dict es ep:=d;cases d'
   ·obtain⟨c,_,Y⟩:=L ⟨q,t⟩;rw[Y] at e;cases e;have d':Data.fields #[]=Data.dict es ep:=d;cases d'
  have ac:∀{b:Addr}{m:QqM},J.heap.Ns b m->(zw9 J.heap H).Ns b m:=λ{b m} ⟨o,es,ep,e,d,r⟩=>⟨o,es,ep,base_of e (au e d),d,r⟩
  have ao:K.In (zw9 J.heap H):=λb o e=>base_of (KX b o e) (by
   rcases hO b with z |⟨rfl,o',xs,z⟩ |⟨q,t,z⟩
   ·exact z
   ·rw[hK (by rw[z];simp)] at e;cases e
   ·obtain ⟨c, _, Y⟩ := L ⟨q, t⟩;rw[KX b o e] at Y;cases Y;have h2:=wm.mp ax (b,_) (W.mem_of_lookupK e)
    exact absurd (show false=true from h2) zJ)
  have hM:Mod K mg (zw9 J.heap H):=⟨ao,ac ak,⟨mb,ac hb,aA⟩,let ⟨mc,h1,h2⟩:=al;⟨mc,ac h1,h2⟩⟩
  have e0:Env0 P w K mg (zw9 J.heap H) callerA [] J H:=⟨rfl,hM,λb o e=>zS3 e,Nat.le_of_eq (zr2 _ _),trivial,λb hb=>absurd (show b∈([]:List Addr) from hb) (by simp),hok,.of_eq hg⟩
  have aD:Jh K mg (zw9 J.heap H):=λy hy c Pt e=>by
   obtain⟨⟨o,vs,aq,tf,ag,tg,av,ah,tt,e1,r1,r2,r3,r4,r5,r6,r7,r8,ay⟩,_⟩:=hT y hy c Pt e;obtain⟨bm,ob,b1,b2,b3,b4,b5,b6⟩:=az
   refine⟨⟨o,vs,aq,tf,ag,tg,av,ah,tt,base_of e1 (ai e1 (by rw[r1];decide) (λz=>by rw[z] at r1;cases r1)),r1,r2,r3,r4,r5,r6,r7,r8,ay⟩,bm,ob,b1,b2,base_of b3 (ai b3 (by rw[b4];decide) (λz=>by rw[z] at b4;cases b4)),b4,b5,b6⟩
  have aC:zH6 H:=λb=>by
   rcases hO b with z |⟨_,z⟩ |⟨q,_,z⟩
   ·exact .inl z
   ·exact .inr (.inl z)
   ·exact .inr (.inr ⟨q,z⟩)
  refine codeAny_mono ((F _ ao (ac ak) (let ⟨mc,h1,h2⟩:=am;⟨mc,ac h1,h2⟩) aD).run callerA [] J H ⟨[.ref a],[]⟩ [.ref a] [.ref a] _ _ hr e0 (af J (.ref a)) (.cons rfl .nil) (aw H aC hS aB)) λr s' h=>?_
  cases r with
  |error e=>exact(aE H e s' h).elim
  | ok fl =>
   cases fl with
   |next=>exact False.elim h
   |brk=>exact False.elim h
   |cont=>exact False.elim h
   | ret u =>
    obtain⟨v,H',os,bare,un,hok',r',q,qT⟩:=h;have q':v=.bl true:=q;subst q';obtain rfl:u=Value.bool true:=r'
    have ar:∀b o,J.heap.get? b=some o->asItWas J.heap s'.heap b o:=λb o e=>by
     rcases hO b with z |⟨_,ob,xs,z⟩ |⟨q,t,z⟩
     ·exact .inl (un.keep b o e z (by intro z;exact absurd (show b∈([]:List Addr) from z) (by simp)) (by simp))
     ·have z2:=un.frzs b ob _ z;obtain⟨e1,_⟩:=hok b _ z;obtain⟨Y,_⟩:=hok' b _ z2;rw[e] at e1;cases e1;exact .inl Y
     ·obtain ⟨c, hc, Y⟩ := L ⟨q, t⟩;obtain⟨ps,e3,_⟩:=hok' b _ (qT b q z);have e4:=Y;rw[e] at e4;cases e4
      exact .inr (.inl ⟨(hc.tab Y).isCodeTable,rfl,#[],ps,rfl,by rw[Array.empty_append];exact e3⟩)
    refine⟨rfl,⟨ar,λb o e=>?_⟩,os,bare⟩
    exact un.there b o e (by simp)
 have ta:∀q,¬ qj K a q:=λq t=>by
  obtain⟨c,_,Y⟩:=L ⟨q,t⟩;rw[ha] at Y;cases Y
 let HT:Hp:=λb=>if h:∃q,qj K b q then some (.cot h.choose) else none
 have aa:∀b q,qj K b q->HT b=some (.cot q):=λb q t=>by
  have h:∃q,qj K b q:=⟨q,t⟩
  show(if h:∃q,qj K b q then some (HO.cot h.choose) else none)=_
  rw[dif_pos h,hu b _ q h.choose_spec t]
 have O:∀b,HT b=none\/∃q,qj K b q/\HT b=some (.cot q):=λb=>by
  by_cases h:∃q,qj K b q
  ·obtain⟨q,t⟩:=h;exact .inr ⟨q,t,aa b q t⟩
  ·exact .inl (dif_neg h)
 have aF:HT a=none:=by
  rcases O a with z |⟨q,t,_⟩
  ·exact z
  ·exact absurd t (ta q)
 have ae:∀b u,HT b=some u->∃q,u=.cot q/\J.heap.get? b=some (W.tabObj #[]):=λb u e=>by
  rcases O b with z |⟨q,t,z⟩
  ·rw[e] at z;cases z
  ·rw[e] at z;cases z;obtain⟨c,_,Y⟩:=L ⟨q,t⟩;exact⟨q,rfl,Y⟩
 cases hk:K.lookup a with
 | some o =>
  have e:=KX a o hk;rw[ha] at e;cases e
  refine ad HT (λb=>?_) aa (.inr ⟨_,vs.toArray,_,hk,rfl,rfl,rfl,by rw[zq,aj];exact hl,by simpa using rv⟩) (λb u z=>?_) λz=>absurd aF z
  ·rcases O b with z | z
   ·exact .inl z
   ·exact .inr (.inr z)
  ·obtain⟨q,rfl,e⟩:=ae b u z;exact⟨#[],e,.nil⟩
 | none =>
  refine ad (upd HT a (.frz { cls:=.type "list",data:=.seq vs.toArray } (.lst (ns.map V.int)))) (λb=>?_) (λb q t=>?_) (.inl (.inr ⟨{ cls:=.type "list",data:=.seq vs.toArray },wX⟩)) (λb u z=>?_) λ_=>hk
  ·by_cases hb : b = a
   ·subst hb;exact .inr (.inl ⟨rfl,_,_,wX⟩)
   ·rw [xZ hb]
    rcases O b with z |z
    ·exact .inl z
    ·exact .inr (.inr z)
  ·rw[xZ (fun(z:b=a)=>ta q (by rw[<- z];exact t))];exact aa b q t
  ·by_cases hb : b = a
   ·subst hb;rw[wX] at z;cases z
    exact⟨ha,by rw[zg];exact hl,vs,_,rv,ha⟩
   ·rw[xZ hb] at z;obtain⟨q,rfl,e⟩:=ae b u z;exact⟨#[],e,.nil⟩
def zx4{l:W.OpenLaw}{n k:Nat}{q:Program}{loose:List Str}{XP:(Str->Option Value)->Heap->Prop}{YP:World->Heap->Prop}{d:DefRec}{K:Params->W.Frag}{CX:World->CXT}{sp:World->Sp}{x:Str}
  (hn:l.most=some n) (ae:n<=sizeLine) (ag:d.params.defaults=[]) (hr:Room k callerA)
  (hY:∀(w:World) (h:Heap),YP w h->(K w.params).In h)
  (O:∀(w:World),∀y∈qv,∀c P,W.tabIn (K w.params) y=some (c,P)->∃d,(recsOf q).find? (λe=>e.name == y)=some d) (hu:∀(w:World) P q q',qj (K w.params) P q->qj (K w.params) P q'->q=q') (ad:∀w:World,W.noTabs (K w.params)=true)
  (F : ∀ (w : World) (mg : Str -> Option Value) (fa : Addr) (h : Heap), (K w.params).In h -> h.Ns mainGlobals mg -> mg d.name = some (.ref fa) ->
   ∃fd:FuncData,(∀(s:Shared) (u:Value),BindsTo s fd ⟨[u],[]⟩ [(x,u)]) /\
    ∀base:Heap,(K w.params).In base->base.Ns mainGlobals mg->base.NoDigits->Jh (K w.params) mg base->FnOk l.prog w (K w.params) mg base (CX w) k fa fd [x] (sp w))
  (ac:∀(w:World) (H:Hp) (a:Addr) (ns:List Int),ns.length<=n->zH6 H->SqL (K w.params) H a (ns.map V.int)->(∀P q,qj (K w.params) P q->H P=some (.cot q))->sp w [.ref a] H (λv H'=>v=.bl true/\∀P q,H P=some (.cot q)->H' P=some (.cot q)) λ_ _ _=>False)
  (ah:∀(w:World) (H:Hp) (s:Shared) (e:Value) (s':Shared),CX w [] H s (λ_ _ _=>False) e s'->False) :
  W.WalkO q loose XP YP l.row.toRowW d [] (λf vs=>PySem.call f vs):=by
 refine Att.attach_call hn ag λw s₀ s₁ mg mb fa o pm cd aj a vs ns G Y ho hd ai af aa L J hg=>?_;have KX:=hY w _ Y;obtain⟨fd,hb,hF⟩:=F w mg fa _ KX G.T.g af
 exact zp5 KX G.T.g G.T.b G.T.builtins G.T.nolimit G.T.nodigits hg (λy hy c P e=>let ⟨d,hr⟩:=O w y hy c P e;W.tab_of G.T KX hr e) (hu w) (ad w) G.T.bmain aa L (zD J ae) hr hF hb (λH hO hS hT=>ac w H a ns J hO hS hT) λH e s'=>ah w H s₁ e s'
def evL{α:Type}:List α->List α
 |[]=>[]
 |[x]=>[x]
 |x::_::r=>x::evL r
def odL{α:Type}:List α->List α
 |[]=>[]
 |[_]=>[]
 |_::y::r=>y::odL r
def ZB{α:Type}(o:Bool)(l:List α):List α:=if o then odL l else evL l
theorem zs2:∀l:List Value,((List.range ((l.length+1)/2)).map λk=>2*k).filterMap (λi=>l[i]?)=evL l
 |[]=>rfl
 |[x]=>by simp[evL,List.range_succ]
 |x::y::r=>by
  have e:((x::y::r).length+1)/2=(r.length+1)/2+1:=by simp only[zI];lia
  rw[e,List.range_succ_eq_map,zE,yX];show x::_=x::evL r;rw[<- zs2 r,zB,yt,yt];rfl
theorem zn9:∀l:List Value,((List.range (l.length/2)).map λk=>2*k+1).filterMap (λi=>l[i]?)=odL l
 |[]=>rfl
 |[x]=>by simp[odL]
 |x::y::r=>by
  have e:(x::y::r).length/2=r.length/2+1:=by simp only[zI];lia
  rw[e,List.range_succ_eq_map,zE,yX];show y::_=y::odL r;rw[<- zn9 r,zB,yt,yt];rfl
def zr5(o:Bool)(l:QqW):slicePick l.toArray (if o then some 1 else none) none (some 2)=(ZB o l).toArray:=by
 unfold slicePick
 cases o with
 | false =>
  show((sliceRange 0 (l.toArray.size:Int) 2).filterMap λi=>l.toArray[i]?).toArray=(evL l).toArray;rw[<- zs2 l]
  congr 1
  have e:sliceRange 0 (l.toArray.size:Int) 2=(List.range ((l.length+1)/2)).map λk=>2*k:=by
   unfold sliceRange;simp only[zq]
   have c:(if (2:Int) > 0 then(if (0:Int)<(l.length:Int) then((l.length:Int)-0+2-1)/2 else 0) else(if (0:Int) > (l.length:Int) then(0-(l.length:Int)-2-1)/(-2) else 0)).toNat=(l.length+1)/2:=by
    rw[if_pos w6]
    split<;>lia
   rw[c]
   exact yW λk _=>by lia
  rw[e];simp
 | true =>
  show((sliceRange (max 0 (min (1:Int) (l.toArray.size:Int))) (l.toArray.size:Int) 2).filterMap λi=>l.toArray[i]?).toArray=(odL l).toArray;rw[<- zn9 l]
  congr 1
  have e:sliceRange (max 0 (min (1:Int) (l.toArray.size:Int))) (l.toArray.size:Int) 2=(List.range (l.length/2)).map λk=>2*k+1:=by
   by_cases h0:l.length=0
   ·have:l=[]:=zX.mp h0;subst this;rfl
   ·have J : max 0 (min (1 : Int) (l.toArray.size : Int)) = 1 := by simp only [zq]; lia
    rw[J];unfold sliceRange;simp only[zq]
    have c:(if (2:Int) > 0 then(if (1:Int)<(l.length:Int) then((l.length:Int)-1+2-1)/2 else 0) else(if (1:Int) > (l.length:Int) then(1-(l.length:Int)-2-1)/(-2) else 0)).toNat=l.length/2:=by
     rw[if_pos w6]
     split<;>lia
    rw[c]
    exact yW λk _=>by lia
  rw[e];simp
theorem Xj{α:Type}(o:Bool):∀l:List α,(ZB o l).length<=l.length
 |[]=>by cases o<;>simp[ZB,evL,odL]
 |[x]=>by cases o<;>simp[ZB,evL,odL]
 |x::y::r=>by
  have:=Xj o r
  cases o with
  |false=>show(x::evL r).length<=_;have h:(evL r).length<=r.length:=this;simp only[zI];lia
  |true=>show(y::odL r).length<=_;have h:(odL r).length<=r.length:=this;simp only[zI];lia
theorem Kw{α:Type}:∀l:List α,(odL l++evL l).Perm l
 |[]=>.nil
 |[x]=>.refl _
 |x::y::r=>by
  show((y::odL r)++(x::evL r)).Perm (x::y::r);refine List.perm_middle.trans (.cons x ?_);exact .cons y (Kw r)
theorem Um{α β:Type}(f:α->β)(o:Bool):∀l:List α,ZB o (l.map f)=(ZB o l).map f
 |[]=>by cases o<;>rfl
 |[x]=>by cases o<;>rfl
 |x::y::r=>by
  have:=Um f o r
  cases o with
  |false=>show f x::evL (r.map f)=_;have h:evL (r.map f)=(evL r).map f:=this;rw[h];rfl
  |true=>show f y::odL (r.map f)=_;have h:odL (r.map f)=(odL r).map f:=this;rw[h];rfl
theorem Vals.half(o:Bool):∀{xs:List V}{us:QqW},Vals xs us->Vals (ZB o xs) (ZB o us)
 |_,_,.nil=>by cases o<;>exact .nil
 |_,_,.cons r .nil=>by
  cases o
  ·exact .cons r .nil
  ·exact .nil
 |_,_,.cons r (.cons J t)=>by
  have:=Vals.half o t;cases o
  ·exact .cons r this
  ·exact .cons J this
theorem Reps.half{K:W.Frag}{G:QqE}{Z:QqA}{H:Hp}(o:Bool):∀{ds:List D}{vs:List V},Reps K G Z H ds vs->Reps K G Z H (ZB o ds) (ZB o vs)
 |[],vs,h=>by rw[h.nil_inv];cases o<;>exact .nil
 |[d],vs,h=>by
  obtain⟨v,r,rfl,q,t⟩:=h.split;rw[t.nil_inv];cases o
  ·exact .cons q .nil
  ·exact .nil
 |d::d2::ds,vs,h=>by
  obtain⟨v,r,rfl,q,t⟩:=h.split;obtain⟨O,Y,rfl,L,J⟩:=t.split;have:=Reps.half o J;cases o
  ·exact .cons q this
  ·exact .cons L this
section
variable {X:Cx}{e st:Expr}{te:TE}{lo:Option Expr}{pos p2:Pos}
def zZ2(K:W.Frag)(o:Bool)(te:TE):TE:=λσ H Q=>te σ H λx J=>∃a xs,x=.ref a/\SqL K J a xs/\∀p,J p=none->Q (.ref p) (upd J p (.lst (ZB o xs)))
def zl9{o:Bool}(he:PE X e te)(aa:PO X lo λ_ H Q=>Q (if o then some 1 else none) H)(Y:PE X st λ_ H Q=>Q (.int 2) H):PE X (.Subscript e (.Slice lo none (some st) p2) pos) (zZ2 X.K o te):=by
 intro J s σ H Q I h;refine Subscript_ (thn (he J s σ H _ I h) λv s1 ⟨x,H1,I1,r1,W⟩=>?_);obtain⟨a,xs,rfl,hx,W⟩:=W
 refine wpAny_Slice (thn (aa J s1 σ H1 (λo' O=>o'=(if o then some 1 else none)/\O=H1) I1 ⟨rfl,rfl⟩) λvl s2 ⟨l,O,I2,pl,el,eH⟩=>?_)
 subst el eH;rw[evalPart_none];refine zf ?_;rw[evalPart_some];refine thn (Y J s2 σ O (λy H3=>y=.int 2/\H3=O) I2 ⟨rfl,rfl⟩) λu L ⟨y,H3,I3,ry,ey,eH⟩=>?_;subst ey eH;obtain⟨tk,rfl⟩:=ry;cases r1;have I4:Inv X J σ H3 { L with heap:=L.heap.push { cls:=.type "slice",data:=.fields #[vl,.none,.int 2 tk] } }:=I3.kept (t':=L.toks) λb ob q=>ze _ q;obtain⟨its,r,ht,hz⟩:=I4.list hx;have ac:=r.length
 refine tail_any (ops:=[.ref a,.ref L.heap.objs.size]) ht.isList.typeIs slot_list_getitem.lookup (wpAny_getItem_list_slice ht.isList (Heap.IsSliceOf.new ..) pl .none (.int 2 tk) (by simp) ?_ (by rw[zq]<;>lia)) (by with_unfolding_all rfl)
 rw[zr5];refine⟨.ref _,_,I4.laid (t':=L.toks) (o:=.lst (ZB o xs)) (λb ob q=>ze _ q) (zn _) ?_,rfl,W _ (I4.hok.fresh (zn _))⟩;exact⟨zD (Xj o xs) hz,ZB o its,0,r.half o,zr _ rfl⟩
def KN(Y:X.calm=true):kW X (.builtin "max") (λxs H Q=>∃i j l,xs=[.int i,.int j,.int l]/\Q (.int (max (max i j) l)) H):=by
 intro L s σ H xs us Q I r h;obtain⟨i,j,l,rfl,q⟩:=h
 cases r with
 | cons W O =>
  obtain⟨u,w',rfl,⟨t',rfl⟩,⟨t'',rfl⟩⟩:=zM3 O;obtain⟨t,rfl⟩:=W;refine max_three_ints (I.ok.hd Y) λh' tk k=>⟨_,H,I.kept k,?_,q⟩
  by_cases h1:j > i
  ·rw [if_pos h1]
   by_cases J:l > j
   ·rw[if_pos J];exact⟨_,congrArg (λz=>Value.int z _) w5⟩
   ·rw[if_neg J];exact⟨_,congrArg (λz=>Value.int z _) w5⟩
  ·rw [if_neg h1]
   by_cases J:l > i
   ·rw[if_pos J];exact⟨_,congrArg (λz=>Value.int z _) w5⟩
   ·rw[if_neg J];exact⟨_,congrArg (λz=>Value.int z _) w5⟩
end
section
variable {A:AC}{X:Cx}{a:Expr}{ta:TD}{pos p2 p3 p4:Pos}
def zG2(o:Bool)(ta:TD):TD:=λrho n P=>ta rho n λd J=>zp1 d λfs=>P (.lst (ZB o fs)) J
@[simp] theorem xD1{o ta rho n P}:zG2 o ta rho n P=ta rho n λd J=>zp1 d λfs=>P (.lst (ZB o fs)) J:=rfl
def zr6{o:Bool}(hK:X.K=A.K){sg:St}{H:Hp}{Q:VK}(h:tOf A (zG2 o ta) sg H Q):zZ2 X.K o (tOf A ta) sg H Q:=by
 obtain⟨rho,n,P,ds,vs,I,ht,Y⟩:=h;refine⟨rho,n,_,ds,vs,I,ht,λv H1 W d ⟨os,J⟩ k=>?_⟩;obtain⟨fs,hd,k⟩:=k;obtain⟨J1,r⟩:=J.pop;rw[hK]
 rcases hd with rfl |rfl
 ·obtain⟨l,xs,rfl,sq,L⟩:=r.lst_inv;exact⟨l,xs,rfl,sq.sq,λp O=>Y _ _ W _ ⟨os,J1.newLst (L.half o) O⟩ k⟩
 ·obtain⟨l,xs,rfl,sq,L⟩:=r.fz_inv;exact⟨l,xs,rfl,sq,λp O=>Y _ _ W _ ⟨os,J1.newLst (L.half o) O⟩ k⟩
def xE3{j:Nat}(L:X.K=A.K)(ha:PD A X a ta):PD A X (.Subscript a (.Slice none none (some (.Constant (.int 2) j p3)) p2) pos) (zG2 false ta):=by exists (zl9 (o:=false) ha (λJ s σ H Q I q=>by rw[evalPart_none];exact zf ⟨none,H,I,.none,q⟩) QF).imp λsg H Q h=>zr6 L h
def xE2{i j:Nat}(L:X.K=A.K)(ha:PD A X a ta):PD A X (.Subscript a (.Slice (some (.Constant (.int 1) i p4)) none (some (.Constant (.int 2) j p3)) p2) pos) (zG2 true ta):=by exists (zl9 (o:=true) ha (λJ s σ H Q I q=>zl5 QF J s σ H Q I ⟨1,rfl,q⟩) QF).imp λsg H Q h=>zr6 L h
def xj7:List D->(D->Prop)->Prop:=λes k=>∃i j l,es=[.int i,.int j,.int l]/\k (.int (max (max i j) l))
@[simp] theorem xB3{i j l k}:xj7 [.int i,.int j,.int l] k↔k (.int (max (max i j) l)):=⟨fun⟨_,_,_,e,h⟩=>by cases e;exact h,λh=>⟨_,_,_,rfl,h⟩⟩
def zu1:vA A (λxs H Q=>∃i j l,xs=[.int i,.int j,.int l]/\Q (.int (max (max i j) l)) H) xj7:=by
 rintro os n rho sg H ds vs es ws k Q I J ⟨i,j,l,rfl,q⟩ W;obtain⟨v,r,rfl,O,L⟩:=J.split;obtain⟨v',v'',rfl,r',r''⟩:=VP L
 exact⟨i,j,l,by rw[O.int_inv,r'.int_inv,r''.int_inv],W _ H _ ⟨os,I.push (Rep.ofS rfl)⟩ q⟩
def zK7(caps:List Nat)(tb:TD)(rho:Rho)(L:Nat)(R:D->Nat->Prop)(es:List D):Prop:=∃(J:List D) (keys:List SRow) (Y:Bool) (O:List D),es=[.lst J]/\J.length<64/\keys.length=J.length/\(∀x∈keys,x.key.num=Y)/\(keys.map SRow.name).Nodup /\
 O.length=caps.length/\(∀(i j:Nat),caps[i]?=some j->∃d,O[i]?=some d/\rho[j]?=some (some d)/\we d=true)/\(∀(i:Nat) (d:D) (x:SRow),J[i]?=some d->keys[i]?=some x->tb (some d::O.map some) L λe W=>e=x.d/\W=L) /\
 ∀ls:List Nat,ls.Perm (List.range J.length)->(ls.map λi=>keys.getD i YO).Pairwise (λx y=>x.lt y=true)->R (.lst (ls.map λi=>J.getD i .non)) L
@[simp] theorem xs1{caps tb J rho n R}:zL5 caps tb J rho n R=J rho n λes L=>zK7 caps tb rho L R es:=rfl
def Jr{α:Type}{caps:List Nat}{tb:TD}{rho:Rho}{n:Nat}{R:D->Nat->Prop}(enc:α->D)(key:α->SRow)(fl:Bool)(Y:List D)(ts:List α)(a0:α)(ae:ts.length<64)(hn:∀t∈ts,(key t).key.num=fl)(ac:(ts.map λt=>(key t).name).Nodup)(ad:Y.length=caps.length)
  (O:∀(i j:Nat),caps[i]?=some j->∃d,Y[i]?=some d/\rho[j]?=some (some d)/\we d=true) (aa:∀t∈ts,tb (some (enc t)::Y.map some) n λe n2=>e=(key t).d/\n2=n)
  (fin:∀us:List α,us.Perm ts->us.Pairwise (λa b=>(key a).lt (key b)=true)->R (.lst (us.map enc)) n):zK7 caps tb rho n R [.lst (ts.map enc)]:=by
 refine⟨ts.map enc,ts.map key,fl,Y,rfl,by rw[zg];exact ae,by rw[zg,zg],λx hx=>?_,by rw[zB];exact ac,ad,O,λi d x J W=>?_,λls hp hs=>?_⟩
 ·obtain⟨t,ht,rfl⟩:=zi.mp hx;exact hn t ht
 ·rw [zw] at J W
  cases et:ts[i]? with
  |none=>rw[et] at J;cases J
  |some t=>
   rw[et] at J W;cases J;cases W;exact aa t (zQ et)
 ·rw [zg] at hp;have L:∀ i∈ls,i<ts.length:=λi hi=>yY.mp (hp.mem_iff.mp hi)
  have g:∀{β:Type} (f:α->β) (b0:β) (i:Nat),i<ts.length->(ts.map f).getD i b0=f (ts.getD i a0):=λf b0 i hi=>by
   rw[zM,zM,zw,zd hi];rfl
  have J:(ls.map λi=>(ts.map enc).getD i .non)=(ls.map λi=>ts.getD i a0).map enc:=by
   rw[zB];exact yW λi hi=>g enc .non i (L i hi)
  have W:(ls.map λi=>(ts.map key).getD i YO)=(ls.map λi=>ts.getD i a0).map key:=by
   rw[zB];exact yW λi hi=>g key YO i (L i hi)
  rw[W,xn] at hs;rw[J];refine fin _ ?_ hs;have p2:=hp.map λi=>ts.getD i a0
  rwa [Kj] at p2
end
def zK4(N:List Str)(p:Str)(J:Scope):Bool:=
 ((J.kind == .function&&(!J.isCoroutine&&!J.isGenerator))&&J.names.all (λz=>z.2 != .cell&&(z.2 != .free||(N.drop 1).contains z.1)))&&((N[0]? == some p&&J.names.lookup p == some .local)&&(N.drop 1).all (λx=>J.names.lookup x == some .free))
def zE0{N:List Str}{p:Str}{J:Scope}{clos:List (Str × Addr)}(h:zK4 N p J=true)(O:∀x∈N.drop 1,∃c,clos.lookup x=some c):LamScope N p J clos:=by
 unfold zK4 at h;simp only[zL,Bool.or_eq_true,wm,beq_iff_eq,bne_iff_ne,Bool.not_eq_true',List.contains_iff_mem] at h;obtain⟨⟨⟨h1,h2,h3⟩,L⟩,⟨h5,Y⟩,W⟩:=h;refine⟨h1,h2,h3,λx hx=>(L x hx).1,h5,Y,λx hx=>?_,λi x e=>?_⟩
 ·rcases (L _ (PySem.mem_of_lookup hx)).2 with z | z
  ·exact absurd rfl z
  ·exact O x z
 ·refine W x ?_
  exact zQ (l:=N.drop 1) (i:=i) (by rw[yp];rw[Nat.add_comm];exact e)
def Caps.one{X:Cx}{p y:Str}{a:Addr}{j:Nat}(hk:X.env.kindOf y=some .cell)(J:X.N[j]?=some y)(L:X.env.cells.lookup y=some a):Caps X [p,y] [(y,a)] [j]:=by
 refine⟨rfl,λi x e=>?_,λx c e=>?_,λi x e=>?_⟩
 ·cases i with
  |zero=>cases e;exact⟨hk,j,rfl,J⟩
  |succ i=>simp at e
 ·rw [xF] at e
  split at e
  ·rename_i h;cases e;rw[eq_of_beq h];exact L
  ·cases e
 ·cases i with
  |zero=>cases e;exact⟨a,by rw[xF,beq_self_eq_true]⟩
  |succ i=>simp at e
def zG8{p y:Str}{a:Addr}:∀x∈[p,y].drop 1,∃c,[(y,a)].lookup x=some c:=λx hx=>by
 have e:x=y:=by simpa using hx
 subst e
 exact⟨a,by rw[xF,beq_self_eq_true]⟩
def zY8{K:W.Frag}{x:Str}{f c P:Addr}{o1 p1:Value}{Y p2:QqE}{O L:Array (Option Value)}{fd:FuncData}{J:Array Value}(a:W.nsIn K mainGlobals x=some (some (.ref f)))(l:K.lookup f=some ⟨o1,Y,.func fd,O⟩)(le:fd.code=.ref c)(lc:K.lookup c=some ⟨p1,p2,.fields J,L⟩)(lp:J[11]?=some (.ref P)) :
  W.tabIn K x=some (c,P):=by
 unfold W.tabIn;rw[a];simp only[l,le,lc,lp]
def zM5(K:W.Frag)(P:Addr)(q q':Str)(h:qj K P q)(h':qj K P q'):q=q':=by
 obtain⟨x,hx,c,_,rfl⟩:=h;obtain⟨y,J,c',_,rfl⟩:=h'
 have O:x = "_law_grown" := by simpa [qv] using hx
 have L:y = "_law_grown" := by simpa [qv] using J
 rw[O,L]
section
variable {prog:Program}{w:World}{A:Around}{R:Result->Shared->Prop}{s:Shared}{elt tg1 it1 tg2 it2:Expr}{ifs1 ifs2:List Expr}{scope:Scope}{pos:Pos}{it acc:Value}{env:Env}
end
section
variable {X':Cx}{P5:QqL}{σ6:St}{H8:Hp}{s8:Shared}{elt tg1 it1 tg2 it2:Expr}{ifs1 ifs2:List Expr}{scope:Scope}{pos:Pos}{g2:TG}{tt2:TT}{te:TE}
end
section
variable {X:Cx}{scope:Scope}{own M:List Str}{pins:QqL}{σ:St}{H2:Hp}{s2:Shared}{elt tg1 it1 tg2 it2:Expr}{ifs1 ifs2:List Expr}{pos:Pos}{g1 g2:TG}{tt1 tt2:TT}{te:TE}{wi2:TI}
end
def ZU:Rho->Rho->Prop
 |[],[]=>True
 |none::r,_::r'=>ZU r r'
 |some d::r,o::r'=>o=some d/\ZU r r'
 |_,_=>False
@[simp] theorem xq5:ZU [] []=True:=rfl
@[simp] theorem xq4{o:Option D}{r r':Rho}:ZU (none::r) (o::r')=ZU r r':=rfl
@[simp] theorem xq3{d:D}{o:Option D}{r r':Rho}:ZU (some d::r) (o::r')=(o=some d/\ZU r r'):=rfl
@[simp] theorem XY:∀r:Rho,ZU r r
 |[]=>True.intro
 |none::r=>XY r
 |some d::r=>⟨rfl,XY r⟩
def xU9(g2:TGD)(aa:TBD)(te:TD)(W:Rho)(J:List D)(R:List D->Nat->Prop)(L:List D)(n:Nat):Prop:=∃Y:Nat->List D->Nat->Prop,Y 0 J n /\
 (∀i d J n,L[i]?=some d->Y i J n->J.length<sizeLine/\g2 d W λO=>ZU W O/\aa O n λc n2=>if c=true then te O n2 λe n3=>Y (i+1) (J++[e]) n3 else Y (i+1) J n2) /\
 ∀J n,Y L.length J n->R J n
def zu6(own:Nat)(g1:TGD)(Y:TBD)(aa:TID)(g2:TGD)(W:TBD)(te:TD)(rho:Rho)(P:D->Nat->Prop)(items:List D)(n1:Nat):Prop:=∃J:Nat->List D->Nat->Prop,J 0 [] n1 /\
 (∀i d L n,items[i]?=some d->J i L n->g1 d (replicate own none++rho) λO=>O.drop own=rho/\Y O n λc n2=>if c=true then aa O n2 (xU9 g2 W te O L (J (i+1))) else J (i+1) L n2) /\
 ∀L n,J items.length L n->L.length<=sizeLine/\P (.lst L) n
def xm6(it:TID)(own:Nat)(g1:TGD)(L:TBD)(O:TID)(Y:TGD)(J:TBD)(W:TD):TD:=λrho n P=>it rho n (zu6 own g1 L O Y J W rho P)
@[simp] theorem xs7{it own g1 L O Y J W rho n P}:xm6 it own g1 L O Y J W rho n P=it rho n (zu6 own g1 L O Y J W rho P):=rfl
section
variable {A:AC}{X:Cx}{elt tg1 it1 tg2 it2:Expr}{ifs1 ifs2:List Expr}{scope:Scope}{own M:List Str}{pos:Pos}{i1 i2:TID}{g1 g2:TGD}{tt1 tt2:TBD}{te:TD}
end
section
variable {X:Cx}
end
def zV9(J:TD):TD:=λrho n P=>J rho n λd L=>∃(bs:List Bool) (j:Nat),d=.lst (bs.map D.bl)/\bs[j]?=some true/\(∀m,m<j->bs[m]?=some false)/\bs.length<=1000/\P (.int j) L
@[simp] theorem xd9{J rho n P}:zV9 J rho n P=J rho n λd L=>∃(bs:List Bool) (j:Nat),d=.lst (bs.map D.bl)/\bs[j]?=some true/\(∀m,m<j->bs[m]?=some false)/\bs.length<=1000/\P (.int j) L:=rfl
section
variable {A:AC}{X:Cx}
end
section
variable {A:AC}{X:Cx}{e:Expr}{t1:TAD}{pos:Pos}
def zN6(i j:Nat)(t:TAD):TSD:=λF rho n=>Zt rho[i]? λes=>Zt rho[j]? λfs=>i≠j/\es.length<sizeLine/\t rho n λds J=>∃(k:Nat) (d:D),ds=[.int k]/\k<1000000/\fs[k]?=some d/\F.nx ((rho.set j (some (.own (fs.eraseIdx k)))).set i (some (.own (es++[d])))) J
@[simp] theorem xd2{i j t F rho n}:zN6 i j t F rho n=Zt rho[i]? λes=>Zt rho[j]? λfs=>i≠j/\es.length<sizeLine/\t rho n λds J=>∃(k:Nat) (d:D),ds=[.int k]/\k<1000000/\fs[k]?=some d/\F.nx ((rho.set j (some (.own (fs.eraseIdx k)))).set i (some (.own (es++[d])))) J:=rfl
def xa2(i j:Nat)(t:TAD):TSD:=λF rho n=>i<rho.length/\j<rho.length/\t rho n λds J=>zX3 ds λfs=>F.nx ((rho.set i (some (.own fs))).set j (some (.own []))) J
@[simp] theorem xo9{i j t F rho n}:xa2 i j t F rho n=(i<rho.length/\j<rho.length/\t rho n λds J=>zX3 ds λfs=>F.nx ((rho.set i (some (.own fs))).set j (some (.own []))) J):=rfl
end
section
variable {A:AC}{X:Cx}
def zZ7:D->Str
 |.int i=>toString i
 |d=>zN3 d
def xN2(d:D):Prop:=(∃i:Int,d=.int i/\i.natAbs.log2<1920)\/xE7 d
def xj4:List D->(D->Prop)->Prop:=λes k=>∃d,es=[d]/\xN2 d/\k (.str (zZ7 d))
@[simp] theorem xr1{d k}:xj4 [d] k↔(xN2 d/\k (.str (zZ7 d))):=⟨fun⟨_,e,h⟩=>by cases e;exact h,λh=>⟨_,rfl,h⟩⟩
end
def atS:List Str->List D->Str->Option D
 |k::ks,d::ds,x=>if k=x then some d else atS ks ds x
 |_,_,_=>none
section
variable {X:Cx}{A:AC}{a b:Expr}{ta tb:TD}{pos p:Pos}{g:Str}{ks:List Str}{ds:List D}
def xW2(ks:List Str)(ds:List D)(ta:TD):TD:=λrho n P=>ta rho n λd J=>∃x,d=.str x/\P (.bl (atS ks ds x).isSome) J
@[simp] theorem xL4{ta:TD}{rho:Rho}{n:Nat}{P:D->Nat->Prop}:xW2 ks ds ta rho n P=ta rho n λd J=>∃x,d=.str x/\P (.bl (atS ks ds x).isSome) J:=rfl
def xW1(ks:List Str)(ds:List D)(tb:TD):TD:=λrho n P=>tb rho n λd J=>∃x d',d=.str x/\atS ks ds x=some d'/\P d' J
@[simp] theorem xL3{tb:TD}{rho:Rho}{n:Nat}{P:D->Nat->Prop}:xW1 ks ds tb rho n P=tb rho n λd J=>∃x d',d=.str x/\atS ks ds x=some d'/\P d' J:=rfl
end
section
variable {prog:Program}{w:World}{A:Around}{E:QqV}{s:Shared}
end
section
variable {X:Cx}
end
section
variable {A:AC}
end
theorem Kk{α β:Type}(f:α->β):∀(l:List α) (j:Nat),(l.eraseIdx j).map f=(l.map f).eraseIdx j
 |[],_=>rfl
 |_::_,0=>rfl
 |x::l,j+1=>congrArg (f x::·) (Kk f l j)
section
variable {κ:Type} [DecidableEq κ]
def Wg(xs:List (κ × Addr × Value))(k:κ):List (κ × Addr × Value):=xs.filter λx=>decide (x.1≠k)
theorem QV:∀{xs:List (κ × Addr × Value)}{k:κ},k ∉ xs.map (·.1)->Wg xs k=xs
 |[],_,_=>rfl
 |x::xs,k,h=>by
  have h1:x.1≠k:=λe=>h (by simp[e])
  have J:Wg xs k=xs:=QV λz=>h (zj _ z);show List.filter _ (x::xs)=_
  rw[zY (by simpa using h1)]
  exact congrArg _ J
theorem KF:∀{xs:List (κ × Addr × Value)}{k:κ}{p:Addr × Value}{j:Nat},(xs.map (·.1)).Nodup->xs[j]?=some (k,p)->xs.eraseIdx j=Wg xs k
 |[],_,_,_,_,h=>by simp at h
 |x::xs,k,p,0,J,h=>by
  have e:x=(k,p):=by simpa using h
  subst e;have hn':=xu.mp J;show xs=List.filter _ ((k,p)::xs)
  rw[xh (by simp)]
  exact(QV hn'.1).symm
 |x::xs,k,p,j+1,J,h=>by
  have h':xs[j]?=some (k,p):=by simpa using h
  have hn':=xu.mp J;have hx:x.1≠k:=λe=>hn'.1 (zi.mpr ⟨(k,p),zQ h',e.symm⟩);show x::xs.eraseIdx j=List.filter _ (x::xs)
  rw[zY (by simpa using hx)]
  exact congrArg _ (KF hn'.2 h')
theorem KW:∀{xs:List (κ × Addr × Value)}{k:κ}{p:Addr × Value},atKey xs k=some p->∃j:Nat,xs[j]?=some (k,p)
 |[],_,_,h=>by simp[atKey] at h
 | x :: xs, k, p, h => by
  by_cases e:x.1=k
  ·refine⟨0,?_⟩;simp[atKey,wg,e] at h;simp[<- h,<- e]
  ·obtain ⟨j, J⟩ := KW (xs := xs) (k := k) (p := p) (by simpa [atKey, wg, e] using h)
   exact⟨j+1,by simpa using J⟩
variable {prog:Program}{w:World}{knd:HeapKind prog w κ}{A:Around}{E:QqV}{s:Shared}{d a:Addr}{k:κ}{xs:List (κ × Addr × Value)}{p:Addr × Value}
theorem zy0{Q:Option DictEntry->Shared->Prop}(hu:knd.room A)(O:knd.is s.heap k a)(hm:s.heap.DictOfH knd d xs)(hp:atKey xs k=some p)(hsz:xs.length<=sizeLine)
  (hQ:∀h',h'.DictOfH knd d (Wg xs k)->Heap.SameBut d s.heap h'->Q (some ⟨knd.hash k,.ref p.1,p.2⟩) { s with heap:=h',toks:=s.toks+knd.draws k }):wpAny (model prog w) A (Builtin.Dict.takeOut d (.ref a)) Q E s:=by
 obtain⟨o,es,ep,W,hc,J,L,Y,hn⟩:=hm;unfold Builtin.Dict.takeOut;refine xp (zb (knd.pyHash hu O (zb (wpAny_dictFind_heap (s:={ s with toks:=s.toks+knd.draws k }) hu O W J L Y hn (λaa=>?_) λj q hj=>?_))))
 ·rw[atKey_none_of_get aa] at hp;cases hp
 ·have eq : q = p := by rw [atKey_of_get hn hj] at hp; exact zP hp
  subst eq
  have e1:es[j]?=some ⟨knd.hash k,.ref q.1,q.2⟩:=by rw[entry_at L j,hj];rfl
  refine zb (xW (s:={ s with toks:=s.toks+knd.draws k }) W J ?_);rw[e1]
  have e2:es.size<=sizeLine:=by rw[size_of_entries L];exact hsz
  have e3:(es.eraseIdxIfInBounds j).toList=(Wg xs k).map (entryOfKey knd):=by
   rw[<- KF hn hj,Kk,<- L];obtain⟨l⟩:=es;simp
  have e4:((Wg xs k).map (·.1)).Nodup:=hn.sublist (List.Sublist.map _ filter_sublist);refine zb (wpAny_updateDictKeys (hz:=e2) (s:={ s with toks:=s.toks+knd.draws k }) W J (zf (hQ _ ⟨_,_,ep+1,xT _ W (Obj.isFreed_of_dict (Obj.data_mapDictKeys J _)),hc.mapDictKeys _,Obj.data_mapDictKeys J _,e3,λx hx=>?_,e4⟩ (Heap.SameBut.update ..))));exact knd.keeps (Y x (zt.mp hx).1) W J (Heap.SameBut.update ..)
theorem xU3(hu:knd.room A.in1)(J:knd.is s.heap k a)(W:s.heap.DictOfH knd d xs)(hp:atKey xs k=some p)(hsz:xs.length<=sizeLine){Q:QqV}
  (hQ:∀h' t',h'.DictOfH knd d (Wg xs k)->Heap.SameBut d s.heap h'->Q p.2 { s with heap:=h',toks:=t' }):wpAny (model prog w) A (call (.builtin "dict.pop") [.ref d,.ref a]) Q E s:=by
 refine call_meetsIn PySem.F.slot_dict_pop W.typeIs PySem.F.entry_dict_pop (PySem.F.args_dict_pop_2 _ _) (S:=λB R s'=>s'=s/\B=A/\∀h',h'.DictOfH knd d (Wg xs k)->Heap.SameBut d s.heap h'->R (.ok (.ret p.2)) { s with heap:=h',toks:=s.toks+knd.draws k }) (.of_wp ?_) ⟨rfl,rfl,λh' h1 h2=>hQ h' _ h1 h2⟩;rintro B R s' ⟨rfl,rfl,h⟩;obtain⟨o,es,ep,ho,hc,O,L,ad,hn⟩:=id W;obtain⟨j,hj⟩:=KW hp
 have Y:es.isEmpty=false:=by
  have:=size_of_entries L;have ac:j<xs.length:=(zu.mp hj).1
  cases es with
  |mk l=>cases l with
   |nil=>simp at this;lia
   |cons _ _=>rfl
 unfold Builtin.«dict.pop» Builtin.Dict.keyAndDefault;refine zb (zb (wpAny_notOrdered_dict W.typeIs ?_));show wpAny _ _ (pure (d,Value.ref a,none)) _ _ _;refine zf ?_;have aa:(keyPart (Value.ref a)).isSome=false:=rfl;simp only[aa,zZ,if_false];refine zb (xW ho O (zb (zf ?_)));rw[Y];simp only[zZ,if_false];refine zb (zy0 hu J W hp hsz λh' h1 h2=>?_);simp only[Option.isNone_some,zZ,if_false];exact zb (yx (zf ⟨p.2,rfl,h h' h1 h2⟩))
def km(xs ys:List (κ × Addr × Value)):List (κ × Addr × Value):=ys.foldl (λz y=>storedH z y.1 y.2.1 y.2.2) xs
theorem JJ{xs ys:List (κ × Addr × Value)}{i:Nat}{y:κ × Addr × Value}(e:ys[i]?=some y):km xs (ys.take (i+1))=storedH (km xs (ys.take i)) y.1 y.2.1 y.2.2:=by
 unfold km;rw[xq,e,List.foldl_append];rfl
theorem zc0(xs:List (κ × Addr × Value))(k:κ)(a:Addr)(v:Value):(storedH xs k a v).length<=xs.length+1:=by
 unfold storedH
 split
 ·simp
 ·simp
theorem XS:∀(ys xs:List (κ × Addr × Value)),(km xs ys).length<=xs.length+ys.length
 |[],xs=>zn _
 |y::ys,xs=>by
  have h1:=XS ys (storedH xs y.1 y.2.1 y.2.2);have L:=zc0 xs y.1 y.2.1 y.2.2;have J:km xs (y::ys)=km (storedH xs y.1 y.2.1 y.2.2) ys:=rfl;rw[J,zI];lia
theorem za9{xs:List (κ × Addr × Value)}{k:κ}(h:k ∉ xs.map (·.1)):atKey xs k=none:=
 atKey_none_of_get λj p e=>h (zi.mpr ⟨(k,p),zQ e,rfl⟩)
theorem Vf:∀(ys xs:List (κ × Addr × Value)),((xs++ys).map (·.1)).Nodup->km xs ys=xs++ys
 |[],xs,_=>by simp[km]
 | y :: ys, xs, J => by
  have h0:y.1 ∉ xs.map (·.1):=by
   rw[zK,xG] at J
   exact λm=>J.2.2 _ m _ (by simp) rfl
  have L:km xs (y::ys)=km (storedH xs y.1 y.2.1 y.2.2) ys:=rfl
  rw[L,storedH_new (za9 h0),Vf ys (xs++[(y.1,y.2.1,y.2.2)]) (by simpa using J)]
  simp
theorem Vm{α:Type}(f:α->Int)(c:Int):∀(l:List α),(l.map f).Nodup->(l.filter λx=>f x == c).length<=1
 |[],_=>by simp
 | x :: l, h => by
  obtain⟨h1,L⟩:=xu.mp h
  by_cases e:f x=c
  ·have z : (l.filter λx => f x == c) = [] := by
    rw[vd];intro y J t;exact h1 (zi.mpr ⟨y,J,(eq_of_beq t).trans e.symm⟩)
   rw[zY (by simpa using e),z]
   simp
  ·rw [xh (by simpa using e)]
   exact Vm f c l L
variable {prog:Program}{w:World}{knd:HeapKind prog w κ}{A:Around}{E:QqV}{s:Shared}{d o a:Addr}{k:κ}{v:Value}{xs ys:List (κ × Addr × Value)}
theorem zc2{Q:QqU}(hu:knd.room A)(Y:knd.is s.heap k a)(hm:s.heap.DictOfH knd d xs)(hsz:xs.length<=sizeLine)
  (hQ:∀h',h'.DictOfH knd d (storedH xs k a v)->Heap.SameBut d s.heap h'->Q () { s with heap:=h' }):wpAny (model prog w) A (dictSetHashed d (.ref a) (knd.hash k) v) Q E s:=by
 obtain⟨ob,es,ep,O,hc,J,L,W,hn⟩:=hm;unfold dictSetHashed;refine xp (zb (wpAny_dictFind_heap hu Y O J L W hn (λaa=>?_) λj q hj=>?_))
 ·have e0 := storedH_new (atKey_none_of_get aa) a v
  have e1:es.size<=sizeLine:=by rw[size_of_entries L];exact hsz
  refine zb (yD (wpAny_updateDictKeys (hz:=e1) O J (hQ _ ⟨_,_,ep+1,xT _ O (Obj.isFreed_of_dict (Obj.data_mapDictKeys J _)),hc.mapDictKeys _,Obj.data_mapDictKeys J _,?_,λx hx=>?_,?_⟩ (Heap.SameBut.update ..))))
  ·rw[e0];simp[L,entryOfKey]
  ·rw [e0] at hx
   rcases zS.mp hx with m |m
   ·exact knd.keeps (W x m) O J (Heap.SameBut.update ..)
   ·cases zF.mp m;exact knd.keeps Y O J (Heap.SameBut.update ..)
  ·rw [e0, zK, xG]
   refine⟨hn,by simp,λx hx y hy=>?_⟩
   have hy':y=k:=by simpa using hy
   subst hy';exact λz=>not_mem_keys_of_get aa (z ▸ hx)
 ·have e0 := storedH_old (atKey_of_get hn hj) a v;refine zb (yD (zb (wpAny_updateDict O J (wpAny_point (hQ _ ⟨_,_,ep,xT _ O (Obj.isFreed_of_dict (Obj.data_mapDict J _)),hc.mapDict _,Obj.data_mapDict J _,?_,λx hx=>?_,?_⟩ (Heap.SameBut.update ..))))))
  ·rw [e0];have t:=modify_map_putAt (entryOfKey knd) (λe:DictEntry=>{ e with val:=v }) k v (λ_ _=>rfl) hn hj;rw[<- L] at t;cases es
   simpa using t
  ·rw [e0] at hx;obtain⟨y,hy,rfl⟩:=zi.mp hx;unfold putAt
   split
   ·exact knd.keeps (W y hy) O J (Heap.SameBut.update ..)
   ·exact knd.keeps (W y hy) O J (Heap.SameBut.update ..)
  ·rw[e0,keys_map_putAt];exact hn
theorem zs0{nm:String}{W:Obj}{es:Array DictEntry}{ep:Nat}{Q:Array DictEntry->Shared->Prop}(ho:s.heap.get? o=some W)(L:W.data=.dict es ep)(J:es.toList=ys.map (entryOfKey knd))
  (O:∀y∈ys,s.TypeIs (.ref y.2.1) "tuple") (hh:(ys.map λy=>knd.hash y.1).Nodup) (hQ:Q es s):wpAny (model prog w) A (Builtin.Dict.entriesForEmpty nm o) Q E s:=by
 unfold Builtin.Dict.entriesForEmpty;refine zb (xW ho L (zb ?_));rw[<- Array.forIn_toList];refine wpAny_forIn_list _ (λrest _ s'=>s'=s/\∃l,es.toList=l++rest) _ ?_ ?_ _ _ ⟨rfl,[],rfl⟩
 ·rintro e rest b s' ⟨rfl, l, el⟩
  have Y:e∈es.toList:=by rw[el];simp
  rw[J] at Y;obtain⟨y,hy,rfl⟩:=zi.mp Y
  have one:(es.filter (·.hash == (entryOfKey knd y).hash)).size<=1:=by
   have t:=Vm (λe:DictEntry=>e.hash) (entryOfKey knd y).hash es.toList (by rw[J,zB];exact hh)
   rw[<- xU,Array.toList_filter];exact t
  show wpAny _ _ (Builtin.Dict.quietEq (.ref y.2.1) >>= _) _ _ _;refine zb ?_;unfold Builtin.Dict.quietEq;refine zb (wpAny_specialOf (O y hy) PySem.F.slot_tuple_eq.lookup (zf ?_))
  rw[if_pos w6,if_neg w5]
  exact zf ⟨rfl,l++[entryOfKey knd y],by rw[el];simp⟩
 ·rintro b s' ⟨rfl,_⟩;exact zf hQ
theorem ze2{nm:String}{Q:QqU}(hu:knd.room A)(aa:d≠o)(ao:(o == sysModules)=false)(hd:s.heap.DictOfH knd d xs)(ho:s.heap.DictOfH knd o ys)
  (ak:∀y∈ys,s.TypeIs (.ref y.2.1) "tuple") (hh:xs=[]->(ys.map λy=>knd.hash y.1).Nodup) (hsz:xs.length+ys.length<=sizeLine)
  (hQ:∀h',h'.DictOfH knd d (km xs ys)->Heap.SameBut d s.heap h'->Q () { s with heap:=h' }):wpAny (model prog w) A (Builtin.Dict.mergeDict nm d o) Q E s:=by
 obtain⟨od,aB,ax,O,aw,J,au,az,ay⟩:=id hd;obtain⟨oo,ac,aC,L,aA,hdo',W,aj,af⟩:=id ho;have Y:ac.size=ys.length:=size_of_entries W;have walk:∀(i:Nat) (h':Heap),i<=ys.length->h'.DictOfH knd d (km xs (ys.take i))->Heap.SameBut d s.heap h'->h'.get? o=some oo:=λi h' _ _ sb=>(sb.2 o (Ne.symm aa)).trans L;unfold Builtin.Dict.mergeDict
 rw[if_neg (by simpa using aa)]
 unfold Builtin.Dict.showsAll
 rw[if_neg (by rw[ao];exact zJ)]
 refine zb (zf (zb (xW L hdo' ?_)));dsimp only
 split
 case' isTrue=>
  refine zb (xW O J ?_)
  split
  case isTrue hemp=>
   have hx:xs=[]:=by
    have e0:=size_of_entries au;rw[Array.isEmpty_iff.mp hemp] at e0;exact zX.mp e0.symm
   refine zb (zs0 L hdo' W ak (hh hx) ?_)
   rw[hx,Vf ys [] (by simpa using af)] at hQ
   split
   ·have hz : ac.size <= sizeLine + 1 := by lia
    refine zb (wpAny_updateDictKeysTo O J (zf (hQ _ ⟨_,_,ax+1,xT _ O (Obj.isFreed_of_dict (Obj.data_mapDictKeys J _)),aw.mapDictKeys _,Obj.data_mapDictKeys J _,by simpa using W,λx hm=>?_,by simpa using af⟩ (Heap.SameBut.update ..))) hz)
    exact knd.keeps (aj x (by simpa using hm)) O J (Heap.SameBut.update ..)
   ·rename_i aq
    have h0:ac=#[]:=Array.isEmpty_iff.mp (by simpa using aq)
    have hy:ys=[]:=zX.mp (by rw[<- Y,h0];rfl)
    rw[hy] at hQ;rw[hx] at hd;exact zf (hQ _ hd (Heap.SameBut.refl _ _))
 all_goals
  refine zb (wpAny_dictEpoch L hdo' (zb (xW L hdo' (zb ?_))));rw[Std.Legacy.Range.forIn_eq_forIn_range'];simp only[Std.Legacy.Range.size,Nat.sub_zero,Nat.add_sub_cancel,Nat.div_one]
  refine wpAny_forIn_list _ (λrest _ s'=>∃h' i,s'={ s with heap:=h' }/\rest=List.range' i (ys.length-i)/\i<=ys.length/\h'.DictOfH knd d (km xs (ys.take i))/\Heap.SameBut d s.heap h') _ ?_ ?_ _ _ ⟨s.heap,0,rfl,by rw[Y];rfl,wo _,by simpa [km] using hd,Heap.SameBut.refl _ _⟩
  ·rintro x rest b s' ⟨h', i, rfl, hr, hi, hd', hs'⟩
   have ah:i<ys.length:=by
    rcases Nat.lt_or_ge i ys.length with h |h
    ·exact h
    ·rw[Nat.sub_eq_zero_of_le h] at hr;exact nomatch hr
   have e0:ys.length-i=(ys.length-(i+1))+1:=w5
   rw[e0,List.range'_succ] at hr;injection hr with am al;subst am al;have hoo':=walk x h' hi hd' hs';obtain⟨y,hy⟩:∃y,ys[x]?=some y:=⟨ys[x],zd ah⟩;refine zb (xW hoo' hdo' ?_);rw[entry_at W x,hy];have ag:y∈ys:=zQ hy;have ai:knd.is h' y.1 y.2.1:=knd.keeps (aj y ag) O J hs'
   have hm:(km xs (ys.take x)).length<=sizeLine:=by
    have q:=XS (ys.take x) xs;rw[xt] at q;lia
   refine zb (xp (zc2 (s:={ s with heap:=h' }) hu ai hd' hm λh2 av ad=>?_));have ae:h2.get? o=some oo:=(ad.2 o (Ne.symm aa)).trans hoo';refine zb (wpAny_dictEpoch (s:={ s with heap:=h2 }) ae hdo' ?_)
   rw[if_neg (by simp)]
   exact zf ⟨h2,x+1,rfl,rfl,ah,by rw[JJ hy];exact av,hs'.trans ad⟩
  ·rintro b s' ⟨h', i, rfl, hr, hi, hd', hs'⟩
   have ar:i=ys.length:=by
    rcases Nat.lt_or_ge i ys.length with h |h
    ·rw[show ys.length-i=(ys.length-(i+1))+1 by lia,List.range'_succ] at hr;exact nomatch hr
    ·exact Nat.le_antisymm hi h
   subst ar;rw[wj] at hd';exact zf (hQ h' hd' hs')
theorem zM4{Q:QqV}(hu:knd.room A.in1)(W:d≠o)(O:(o == sysModules)=false)(hd:s.heap.DictOfH knd d xs)(J:s.heap.DictOfH knd o ys)
  (L:∀y∈ys,s.TypeIs (.ref y.2.1) "tuple") (hh:xs=[]->(ys.map λy=>knd.hash y.1).Nodup) (hsz:xs.length+ys.length<=sizeLine)
  (hQ:∀h',h'.DictOfH knd d (km xs ys)->Heap.SameBut d s.heap h'->Q .none { s with heap:=h' }):wpAny (model prog w) A (call (.builtin "dict.update") [.ref d,.ref o]) Q E s:=by
 refine call_meetsIn PySem.F.slot_dict_update hd.typeIs PySem.F.entry_dict_update (PySem.F.args_dict_update_2 _ _) (S:=λB R s'=>s'=s/\B=A/\∀h',h'.DictOfH knd d (km xs ys)->Heap.SameBut d s.heap h'->R (.ok (.ret .none)) { s with heap:=h' }) (.of_wp ?_) ⟨rfl,rfl,λh' h1 Y=>hQ h' h1 Y⟩;rintro B R s' ⟨rfl,rfl,h⟩;unfold Builtin.«dict.update» Builtin.Dict.selfAndRest;refine zb (zb (wpAny_notOrdered_dict hd.typeIs ?_));show wpAny _ _ (pure (d,[Value.ref o])) _ _ s';refine zf ?_;show wpAny _ _ (Builtin.Dict.updateFrom "dict.update" d (.ref o) [] .none) _ _ s';unfold Builtin.Dict.updateFrom;refine zb (wpAny_typeOf J.typeIs ?_)
 rw[if_neg w6]
 refine zb ?_;unfold Builtin.Dict.merge;refine zb ?_;unfold Builtin.Dict.readDirectly;refine zb (wpAny_isInstance J.typeIs isSubtype_dict_dict ?_);simp only[Bool.not_true,zZ,if_false];refine zb (wpAny_specialOf J.typeIs F.slot_dict_iter.lookup (zf ?_));simp only[beq_self_eq_true,if_true];refine zb (zf (ze2 hu W O hd J L hh hsz λh' h1 Y=>?_));show wpAny _ _ (Builtin.Dict.addKeywords d [] >>= _) _ _ _;exact zb (zf (zf ⟨.none,rfl,h h' h1 Y⟩))
end
def KT.drop{H:Hp}{J:List (List Key × V)}{xs:List (List Key × Addr × Value)}(r:KT H J xs)(k:List Key):KT H (WL J k) (Wg xs k):=by
 induction r with
 |nil=>exact .nil
 | @cons p q ps qs L t O =>
  by_cases e:p.1=k
  ·have e' : q.1 = k := L.1 ▸ e;unfold WL Wg
   rw[xh (by simpa using e),xh (by simpa using e')]
   exact O
  ·have e' : ¬ q.1 = k := L.1 ▸ e;unfold WL Wg
   rw[zY (by simpa using e),zY (by simpa using e')]
   exact .cons L O
def zL4{P:Program}{w:World}{H':Hp}{h':Heap}{a:Addr}{J:List (List Key × V)}{xs:List (List Key × Addr × Value)}(z:J.length<=sizeLine)(hd:(a == sysModules)=false)(L:KT H' J xs)(dd:h'.DictOfH (tupleKind (wP P w)) a xs) :
  ObjOk P w H' h' a (.dT J):=let ⟨o,es,ep,h1,h2,Y,W,_,O⟩:=dd;⟨z,hd,xs,L,o,es,ep,h1,h2,Y,W,O⟩
section
variable {X:Cx}{pins:QqL}{σ:St}{H:Hp}{s:Shared}{a b:Addr}{A:Around}{E:QqV}{kvs more:List (List Key × V)}{k:List Key}{v:V}
def KT.over{J:HO}(e:H a=some (.dT kvs)){l:List (List Key × V)}{xs:List (List Key × Addr × Value)}(r:KT H l xs):KT (upd H a J) l xs:=
 r.keeps λc ys q=>by rw[xZ (λz=>by rw[z,e] at q;cases q)];exact q
def QQ(I:Inv X pins σ H s)(h:SqT X.K H b (k.map kV)):(tupleKind (wP X.prog X.w)).is s.heap k b:=by
 obtain⟨its,r,⟨o,h1,L,n,J⟩,_⟩:=I.tuple h
 exact⟨o,its.toArray,n,h1,L,J,by simpa using XZ r⟩
def xm1{Q:QqV}(hu:A.units+1<cLine)(I:Inv X pins σ H s)(e:H a=some (.dT kvs))(eb:SqT X.K H b (k.map kV))(l:YK kvs k=some v)
  (h:∀w' s',Inv X pins σ (upd H a (.dT (WL kvs k))) s'->RelV v w'->Q w' s'):wpAny (model X.prog X.w) A (call (.builtin "dict.pop") [.ref a,.ref b]) Q E s:=by
 obtain⟨z,hd,xs,J,dd⟩:=zf2 I.hok e
 obtain⟨w',L,rw'⟩:=RelO.some_of (v:=v) (o:=(atKey xs k).map (·.2)) (by rw[<- l];exact J.val k)
 obtain⟨p,W,rfl⟩:=Option.map_eq_some_iff.mp L
 refine xU3 (tupleKind_room_in1 hu) (QQ I eb) dd W (by rw[<- J.length];exact z) λh' t' d' hs=>h _ _ ?_ rw'
 have Y:∃q,h'.get? a=some q:=let ⟨q,_,_,O,_⟩:=d';⟨q,O⟩
 exact zt0 I (by rw[e];exact True.intro) hs Y (zL4 (zD (wV _ _) z) hd ((J.drop k).over e) d')
def KT.mem{l:List (List Key × V)}{xs:List (List Key × Addr × Value)}(r:KT H l xs):∀x∈xs,∃ks,H x.2.1=some (.tup ks):=by
 induction r with
 |nil=>intro x hx;cases hx
 |@cons p q ps qs L t J=>
  intro x hx
  rcases zk.mp hx with e |hx
  ·subst e;exact⟨_,L.2.1⟩
  ·exact J x hx
def YT(kvs more:List (List Key × V)):List (List Key × V):=more.foldl (λJ L=>zc6 J L.1 L.2) kvs
def KT.merge{more:List (List Key × V)}{ys:List (List Key × Addr × Value)}(r:KT H more ys):∀{kvs:List (List Key × V)}{xs:List (List Key × Addr × Value)},KT H kvs xs->KT H (YT kvs more) (km xs ys):=by
 induction r with
 |nil=>exact λq=>q
 |@cons p q ps qs L t J=>
  intro kvs xs r';obtain⟨k,v⟩:=p;obtain⟨k',b,u⟩:=q;obtain⟨rfl,W,O⟩:=L;exact J (r'.put k W O)
def KT.keys{l:List (List Key × V)}{xs:List (List Key × Addr × Value)}(r:KT H l xs):l.map (·.1)=xs.map (·.1):=by
 induction r with
 |nil=>rfl
 |@cons p q ps qs L t J=>rw[zE,zE,J,L.1]
def zs5{Q:QqV}(hu:A.units+1<cLine)(I:Inv X pins σ H s)(e:H a=some (.dT kvs))(eb:H b=some (.dT more))(Y:a≠b)(hz:kvs.length+more.length<=sizeLine)
  (hh:kvs=[]->(more.map λO=>(tupleKind (wP X.prog X.w)).hash O.1).Nodup) (h:∀s',Inv X pins σ (upd H a (.dT (YT kvs more))) s'->Q .none s'):wpAny (model X.prog X.w) A (call (.builtin "dict.update") [.ref a,.ref b]) Q E s:=by
 obtain⟨z,hd,xs,L,dd⟩:=zf2 I.hok e;obtain⟨z2,W,ys,J,aa⟩:=zf2 I.hok eb
 refine zM4 (tupleKind_room_in1 hu) Y W dd aa (λy hy=>?_) (λq=>?_) (by rw[<- L.length,<- J.length];exact hz) λh' d' hs=>h _ ?_
 ·obtain⟨ks,hk⟩:=J.mem y hy;obtain⟨_,its,_,o,h1,h2,_⟩:=(show ObjOk X.prog X.w H s.heap y.2.1 (.tup ks) from I.hok _ _ hk);exact⟨o,h1,h2⟩
 ·have e0 : kvs = [] := zX.mp (by rw [L.length, q]; rfl)
  have t:=hh e0
  have k1:(more.map λO=>(tupleKind (wP X.prog X.w)).hash O.1)=(more.map (·.1)).map (tupleKind (wP X.prog X.w)).hash:=by simp
  have k2:(ys.map λO=>(tupleKind (wP X.prog X.w)).hash O.1)=(ys.map (·.1)).map (tupleKind (wP X.prog X.w)).hash:=by simp
  rw[k1,J.keys,<- k2] at t;exact t
 ·have he : ∃ q, h'.get? a = some q := let ⟨q, _, _, hq, _⟩ := d'; ⟨q, hq⟩
  have r3:=J.merge L
  refine zt0 I (by rw[e];exact True.intro) hs he (zL4 ?_ hd (r3.over e) d')
  rw[r3.length];have q:=XS ys xs;rw[<- L.length,<- J.length] at q;lia
def zZ4(K:W.Frag)(O ty:TE):TE:=λσ H Q=>O σ H λx L=>∃a,x=.ref a/\IsD L a/\ty σ L λy J=>∃kvs k b v,J a=some (.dT kvs)/\y=.ref b/\SqT K J b (k.map kV)/\YK kvs k=some v/\Q v (upd J a (.dT (WL kvs k)))
def zB4{o e:Expr}{L J:Pos}{O ty:TE}(hu:X.A.units+1<cLine)(ho:PE X o O)(he:PE X e ty)(m:M1 X o "pop" L e J):PE X (.Call (.Attribute o "pop" L) [e] [] J) (zZ4 X.K O ty):=by
 intro pins s σ H Q I h;refine wpAny_Call_method m.base m.few m.line PySem.F.plainAttrs_dict PySem.F.slot_dict_pop PySem.F.type_dict_pop (thn (ho pins s σ H _ I h) λu s1 ⟨x,H1,W,rx,a,ex,d,q1⟩=>?_);subst ex;cases(show u=Value.ref a from rx);obtain⟨t1,Y,_⟩:=zq7 W d;refine⟨t1,Y,?_⟩;rw[m.trees];refine Calls.callWith_builtin rfl (Calls.evalArgs_plain (Calls.spliced_cons (thn (he pins s1 σ H1 _ W q1) λiv s2 ⟨y,H2,I2,ry,kvs,k,b,v,ea,ey,sq,l,q2⟩=>Calls.spliced_nil ?_)));subst ey;cases(show iv=Value.ref b from ry);exact xm1 hu I2 ea sq l λw' s3 I3 rw'=>⟨v,_,I3,rw',q2⟩
def zZ3(P:Program)(w:World)(O ty:TE):TE:=λσ H Q=>O σ H λx L=>∃a,x=.ref a/\IsD L a/\ty σ L λy J=>∃kvs more b,J a=some (.dT kvs)/\y=.ref b/\a≠b/\J b=some (.dT more)/\kvs.length+more.length<=sizeLine /\
 (kvs=[]->(more.map λW=>(tupleKind (wP P w)).hash W.1).Nodup)/\Q .non (upd J a (.dT (YT kvs more)))
def zB3{o e:Expr}{L J:Pos}{W ty:TE}(hu:X.A.units+1<cLine)(ho:PE X o W)(he:PE X e ty)(m:M1 X o "update" L e J):PE X (.Call (.Attribute o "update" L) [e] [] J) (zZ3 X.prog X.w W ty):=by
 intro pins s σ H Q I h;refine wpAny_Call_method m.base m.few m.line PySem.F.plainAttrs_dict PySem.F.slot_dict_update PySem.F.type_dict_update (thn (ho pins s σ H _ I h) λu s1 ⟨x,H1,Y,rx,a,ex,d,q1⟩=>?_);subst ex;cases(show u=Value.ref a from rx);obtain⟨t1,t2,_⟩:=zq7 Y d;refine⟨t1,t2,?_⟩;rw[m.trees];refine Calls.callWith_builtin rfl (Calls.evalArgs_plain (Calls.spliced_cons (thn (he pins s1 σ H1 _ Y q1) λiv s2 ⟨y,H2,I2,ry,kvs,more,b,ea,ey,O,eb,hz,hh,q2⟩=>Calls.spliced_nil ?_)));subst ey;cases(show iv=Value.ref b from ry);exact zs5 hu I2 ea eb O hz hh λs3 I3=>⟨.non,_,I3,rfl,q2⟩
end
def atP{α:Type}:List (Int × Int)->List α->Int × Int->Option α
 |k::ks,e::es,x=>if k=x then some e else atP ks es x
 |_,_,_=>none
def Xa(ks:List (Int × Int))(x:QqP):List (Int × Int):=ks.filter λk=>decide (k≠x)
def dropE{α:Type}:List (Int × Int)->List α->Int × Int->List α
 |k::ks,e::es,x=>if k=x then dropE ks es x else e::dropE ks es x
 |_,_,_=>[]
def QR{x y:QqP}(h:kP x=kP y):x=y:=by
 obtain⟨a,b⟩:=x;obtain⟨c,d⟩:=y;unfold kP at h;injection h with h1 J;injection J with J _;injection h1 with h1;injection J with J;simp only at h1 J;rw[h1,J]
theorem Qb:∀(ks:List (Int × Int)) (xs:List V) (x:QqP),YK (qx ks xs) (kP x)=atP ks xs x
 |[],_,_=>by simp[qx,YK,atP]
 |_::_,[],_=>by simp[qx,YK,atP]
 |k::ks,y::xs,x=>by
  have J:=Qb ks xs x
  by_cases e:k=x
  ·subst e;simp[qx,YK,atP]
  ·have e':¬ kP k=kP x:=λz=>e (QR z);simp only[qx,xD,YK,wg,zN e',atP,if_neg e];exact J
theorem KD:∀(ks:List (Int × Int)) (xs:List V) (x:QqP),WL (qx ks xs) (kP x)=qx (Xa ks x) (dropE ks xs x)
 |[],_,_=>by simp[qx,WL,Xa]
 |_::_,[],_=>by simp[qx,WL,dropE]
 | k :: ks, y :: xs, x => by
  have J:=KD ks xs x
  by_cases e:k=x
  ·have e' : kP k = kP x := congrArg kP e;simp only[qx,xD,WL,Xa,dropE,if_pos e]
   rw[xh (by simpa using e'),xh (by simpa using e)]
   exact J
  ·have e' : ¬ kP k = kP x := λz => e (QR z);simp only[qx,xD,WL,Xa,dropE,if_neg e]
   rw[zY (by simpa using e'),zY (by simpa using e),xD]
   exact congrArg _ J
theorem KH{α:Type}:∀(ks:List (Int × Int)) (xs:List α) (x:QqP),ks.length=xs.length->(Xa ks x).length=(dropE ks xs x).length
  |[],[],_,_=>rfl
  | k :: ks, y :: xs, x, h => by
    have J:=KH ks xs x (by simpa using h)
    by_cases e:k=x
    · simp only [Xa, dropE, if_pos e]
      rw[xh (by simpa using e)]
      exact J
    · simp only [Xa, dropE, if_neg e]
      rw[zY (by simpa using e),zI,zI]
      exact congrArg (·+1) J
section
variable {K:W.Frag}{G:QqE}{Z:QqA}{H:Hp}
theorem Reps.dropE:∀{ks:List (Int × Int)}{es:List D}{xs:List V} (x:QqP),Reps K G Z H es xs->Reps K G Z H (L2.dropE ks es x) (L2.dropE ks xs x)
 |[],es,xs,x,h=>by
  cases es<;>cases xs<;>exact .nil
 |k::ks,[],xs,x,h=>by rw[h.nil_inv];exact .nil
 |k::ks,e::es,xs,x,h=>by
  obtain⟨v,r,rfl,q,t⟩:=h.split;have J:=Reps.dropE (ks:=ks) x t
  by_cases c:k=x
  ·simp only[L2.dropE,if_pos c];exact J
  ·simp only[L2.dropE,if_neg c];exact .cons q J
theorem Reps.atP:∀{ks:List (Int × Int)}{es:List D}{xs:List V}{x:QqP}{d:D},Reps K G Z H es xs->L2.atP ks es x=some d->∃v,L2.atP ks xs x=some v/\Rep K G Z H d v
 |[],es,xs,x,d,_,e=>by simp[L2.atP] at e
 |k::ks,[],xs,x,d,_,e=>by simp[L2.atP] at e
 |k::ks,c::es,xs,x,d,h,e=>by
  obtain⟨v,r,rfl,q,t⟩:=h.split
  by_cases z:k=x
  ·simp only[L2.atP,if_pos z] at e ⊢;cases e;exact⟨v,rfl,q⟩
  ·simp only[L2.atP,if_neg z] at e ⊢;exact Reps.atP t e
end
section
variable {A:AC}{os:List (Nat × Addr)}{n:Nat}{rho:Rho}{sg:St}{H:Hp}{ds es:List D}{vs:List V}{i:Nat}{ks:List (Int × Int)}
def AmO.ownT(I:AmO A os n rho sg H ds vs)(hi:rho[i]?=some (some (.owT ks es))) :
  ∃a xs,sg[i]?=some (some (.ref a))/\H a=some (.dT (qx ks xs))/\ks.length=xs.length/\Reps A.K A.G (Zof A os) H es xs /\
   ∀ks' es' xs',ks'.length=xs'.length->Reps A.K A.G (Zof A os) H es' xs'->AmO A os n (rho.set i (some (.owT ks' es'))) sg (upd H a (.dT (qx ks' xs'))) ds vs:=by
 obtain⟨v,J,a,xs,rfl,W,hH,hl,rs⟩:=I.slot i _ hi;have aa:i<rho.length:=(zu.mp hi).1;have za:Zof A os a:=.inr ⟨_,W,rfl⟩
 have hf:∀(o:HO) b u,¬ Zof A os b->H b=some u->upd H a o b=some u:=λo b u nz e=>by
  rw[xZ λz=>nz (by rw[z];exact za)];exact e
 have uniq:∀j,(j,a)∈os->j=i:=λj O=>by
  by_cases L:j=i
  ·exact L
  ·have key : ∀ (l : List (Nat × Addr)), l.Pairwise (λp q => p.1 ≠ q.1 /\ p.2 ≠ q.2) -> (j, a) ∈ l -> (i, a) ∈ l -> False := by
    intro l
    induction l with
    |nil=>intro _ h;simp at h
    |cons c l ih=>
     intro hp h1 Y;obtain⟨p1,p2⟩:=wb.mp hp
     rcases zk.mp h1 with J |h1<;>rcases zk.mp Y with e2 |Y
     ·rw[<- e2] at J;exact L (Prod.mk.inj J).1
     ·exact(p1 _ Y).2 (by rw[<- J])
     ·exact(p1 _ h1).2 (by rw[<- e2])
     ·exact ih p2 h1 Y
   exact(key os I.nd O W).elim
 obtain⟨ad,ac,ae⟩:=I.fresh _ W
 refine⟨a,xs,J,hH,hl,rs,λks' es' xs' hl' r=>⟨by simp[I.len],λj c e=>?_,Reps.mono (λ_ _ z=>z) (hf _) _ _ I.pend,I.nd,λq hq=>?_,λb e=>?_,I.gz,λb u h e=>?_,I.z0⟩⟩
 ·by_cases O : j = i
  ·subst O;rw[zW aa] at e;cases e;exact⟨.ref a,J,a,xs',rfl,W,wX,hl',Reps.mono (λ_ _ z=>z) (hf _) _ _ r⟩
  ·rw [xb (Ne.symm O)] at e;obtain⟨u,e2,e3⟩:=I.slot j c e
   exact⟨u,e2,SlotR.mono (λ_ _ z=>z) (hf _) (λb ys m q=>⟨m,by rw[xZ λz=>O (uniq j (by rw[<- z];exact m))];exact q⟩) _ _ e3⟩
 ·obtain ⟨f1, f2, f3⟩ := I.fresh q hq;refine⟨f1,f2,?_⟩
  by_cases e:q.2=a
  ·rw[e,wX];exact Hot.dT
  ·rw[xZ e];exact f3
 ·obtain ⟨x, y, z, q, rr⟩ := I.st b e
  exact⟨x,y,z,by rw[xZ λw=>ac (by rw[<- w];exact I.gz b e)];exact q,rr⟩
 ·rw [xZ λw => by rw [w, ad] at e; cases e]
  exact I.fr b u h e
end
theorem QP:∀{ks:List (Int × Int)}{xs ys:List V},ks.length=xs.length->ks.length=ys.length->qx ks xs=qx ks ys->xs=ys
 |[],[],[],_,_,_=>rfl
 |k::ks,x::xs,y::ys,h1,O,h=>by
  simp only[qx,xD] at h;injection h with J L;injection J with _ J
  rw[J,QP (by simpa using h1) (by simpa using O) L]
section
variable {A:AC}{X:Cx}{e:Expr}{te:TD}{pos:Pos}
def Zr{K:W.Frag}{G:QqE}{Z:QqA}{H:Hp}{v:V}{k:QqP}(r:Rep K G Z H (.tup [.int k.1,.int k.2]) v):∃b,v=.ref b/\SqT K H b ((kP k).map kV):=by
 obtain⟨b,ys,rfl,sq,J⟩:=r.tup_inv;obtain⟨u1,Y,rfl,O,L⟩:=VP J;rw[O.int_inv,L.int_inv] at sq;exact⟨b,rfl,sq.sq⟩
def zN4(i:Nat)(te:TD)(g:TGD):TSD:=λF rho n=>∃ks es,rho[i]?=some (some (.owT ks es))/\te rho n λd J=>∃(k:QqP) (c:D),d=.tup [.int k.1,.int k.2]/\atP ks es k=some c /\
 g c (rho.set i (some (.owT (Xa ks k) (dropE ks es k)))) λrho'=>F.nx rho' J
@[simp] theorem xy3{i te g F rho n}:zN4 i te g F rho n=∃ks es,rho[i]?=some (some (.owT ks es))/\te rho n λd J=>∃(k:QqP) (c:D),d=.tup [.int k.1,.int k.2]/\atP ks es k=some c /\
 g c (rho.set i (some (.owT (Xa ks k) (dropE ks es k)))) λrho'=>F.nx rho' J:=rfl
def zA6{i m l:Nat}{x:Str}{W:Expr}{g:TGD}{px O L:Pos}(hr:Room l X.A)(hK:X.K=A.K)(he:PD A X e te)(hg:PGD A X m W g)(hN:X.N[i]?=some x:=by rfl)(hv:Vis X.env.scope x:=by first |exact Or.inl rfl |exact Or.inr (Or.inl rfl) |exact Or.inr (Or.inr rfl))(hd:(x == ("__debug__" : Str))=false:=by decide)
  (ae:(x == ("__classdict__" : Str))=false:=by decide) (mm:M1 X (.Name x px) "pop" O e L:=by exact⟨rfl,rfl,rfl,rfl⟩)
  (hs:swapsWithSole [W] (.Call (.Attribute (.Name x px) "pop" O) [e] [] L) pos.line X.env=pure false:=by rfl) (hw:swappedStores [W] (.Call (.Attribute (.Name x px) "pop" O) [e] [] L) X.env=pure none:=by rfl)
  (h1:(assignEach [W] X.env).map (·.2)=[assign W X.env]:=by rfl):PSD A X (.Assign [W] (.Call (.Attribute (.Name x px) "pop" O) [e] [] L) pos) (zN4 i te g):=by
 exists (zl3 (zB4 (by have:=hr.un;lia) (qC hN hv hd ae) he mm) hg hs hw h1).imp λE sg H h=>by
   obtain⟨rho,n,F,ds,vs,⟨os,I⟩,⟨ks,es,hi,ht⟩,ok⟩:=h;obtain⟨a,xs,e1,hH,hl,rs,_⟩:=I.ownT hi;refine⟨.ref a,e1,a,rfl,.inr ⟨_,.inl hH⟩,rho,n,_,ds,vs,⟨os,I⟩,ht,λv H' n' d ⟨os',J⟩ k=>?_⟩;obtain⟨k,c,rfl,hc,k2⟩:=k;obtain⟨J1,r⟩:=J.pop;obtain⟨a',xs',e2,hH',hl',rs',_⟩:=J1.ownT hi;rw[e1] at e2;cases e2;obtain⟨b,rfl,sq⟩:=Zr r;obtain⟨w,hw',rw'⟩:=rs'.atP hc
   refine⟨qx ks xs',kP k,b,w,hH',rfl,by rw[hK];exact sq,by rw[Qb];exact hw',?_⟩
   obtain⟨a3,aa,e3,Y,ad,ac,up⟩:=(J1.push rw').ownT hi;rw[e1] at e3;cases e3;rw[hH'] at Y
   have hx:xs'=aa:=QP hl' ad (by injection Y with z;injection z)
   subst hx;rw[KD];exact⟨_,n',_,c,ds,vs,⟨os',up _ _ _ (KH _ _ _ hl') (ac.dropE k)⟩,k2,λrho' sg' J' _ k'=>ok.nx _ _ _ _ J' k'⟩
end
section
variable {prog:Program}{w:World}{A:Around}{E:QqV}{s:Shared}{it d:Addr}{i ep:Nat}{od:Obj}{es:Array DictEntry}
def zJ9:Builtin.Dict_items.ownsTuple "dict_keyiterator" = false:=w6
def zd6{Q:QqS}(J:s.heap.IsKeyIter it d i es.size ep)(L:s.heap.get? d=some od)(W:od.data=.dict es ep)(hi:i<es.size)
  (hQ:∀h',h'.IsKeyIter it d (i+1) es.size ep->Heap.SameBut it s.heap h'->Q (some es[i].key) { s with heap:=h' }):wpAny (model prog w) A (pyNext (.ref it)) Q E s:=by
 obtain⟨o,Y,hc,O⟩:=id J
 have up:(s.heap.update it (Obj.mapFields (·.setIfInBounds 1 (rawInt ((i:Int)+1))))).IsKeyIter it d (i+1) es.size ep:=⟨_,xT _ Y (Obj.isFreed_of_fields (Obj.data_mapFields O _)),(Obj.cls_mapFields ..).trans hc,by rw[Obj.data_mapFields O];simp[rawInt]⟩
 unfold pyNext;refine zb (wpAny_attempt (xO (name:=Str.ofString "__next__") J.typeIs F.slot_dict_keyiterator_next (wz F.slot_dict_keyiterator_next J.typeIs F.entry_dict_keyiterator_next (zb (zf (zb (zb ?_)))) (F.args_dict_keyiterator_next_1 _))))
 first |refine zb (wY J.typeIs (zf (zb (wpAny_fieldsOf Y O ?_)))) |refine zb (yC J.typeIs (zf (zb (wpAny_fieldsOf Y O ?_))))
 simp only[zJ9,zZ,if_false]
 show wpAny _ _ (if (Value.ref d == Value.none)=true then _ else _) _ _ s
 rw[if_neg (show ¬ ((Value.ref d == Value.none)=true) from λz=>zJ z)];refine zb (zf (zb (xW L W ?_)))
 rw[if_neg (by simp)];refine zb (zf (zb (wpAny_dictEpoch L W ?_)))
 rw[if_neg (by simp)];refine zf ?_
 simp only[show ¬ ((i:Int)<0) by lia,if_false,yP,xC hi]
 refine zb ?_
 first |refine zb (wY J.typeIs (zf (zb (wpAny_isOneOf_keyiter J.typeIs ?_)))) |refine zb (yC J.typeIs (zf (zb (wpAny_isOneOf_keyiter J.typeIs ?_))))
 show wpAny _ _ (setField (.ref it) 1 (rawInt ((i:Int)+1)) >>= _) _ _ s
 refine zb (wpAny_setField Y O (by simp) (zb (xp (zb (wpAny_isOneOf_keyiter (s:={ s with heap:=s.heap.update it (Obj.mapFields (·.setIfInBounds 1 (rawInt ((i:Int)+1)))) }) up.typeIs ?_)))))
 exact zf (zf ⟨_,rfl,zf (hQ _ up (Heap.SameBut.update ..))⟩)
def zo1{Q:QqS}(hh:A.handled=none)(J:s.heap.IsKeyIter it d es.size es.size ep)(L:s.heap.get? d=some od)(O:od.data=.dict es ep)
  (hQ:∀h',Heap.ExtBut it s.heap h'->Q none { s with heap:=h' }):wpAny (model prog w) A (pyNext (.ref it)) Q E s:=by
 obtain⟨o,W,hc,Y⟩:=id J;unfold pyNext;refine zb (wpAny_attempt (xO (name:=Str.ofString "__next__") J.typeIs F.slot_dict_keyiterator_next (wz F.slot_dict_keyiterator_next J.typeIs F.entry_dict_keyiterator_next (zb (zf (zb (zb ?_)))) (F.args_dict_keyiterator_next_1 _))))
 first |refine zb (wY J.typeIs (zf (zb (wpAny_fieldsOf W Y ?_)))) |refine zb (yC J.typeIs (zf (zb (wpAny_fieldsOf W Y ?_))))
 simp only[zJ9,zZ,if_false]
 show wpAny _ _ (if (Value.ref d == Value.none)=true then _ else _) _ _ s
 rw[if_neg (show ¬ ((Value.ref d == Value.none)=true) from λz=>zJ z)];refine zb (zf (zb (xW L O ?_)))
 rw[if_neg (by simp)];refine zb (zf (zb (wpAny_dictEpoch L O ?_)))
 rw[if_neg (by simp)];refine zf ?_
 simp only[show ¬ ((es.size:Int)<0) by lia,if_false,yP,wB (zn es.size)]
 refine zb ?_
 first |refine zb (wY J.typeIs (zf ?_)) |refine zb (yC J.typeIs (zf ?_))
 show wpAny _ _ (setField (.ref it) 0 .none >>= _) _ _ s
 refine zb (wpAny_setField W Y (by simp) ?_)
 show wpAny _ _ (newExc (.type "StopIteration") [] >>= _) _ _ _;simp only[newExc,newTuple]
 refine zb (zb (xz (zb (m:=firstArgMember _ _) (wpAny_of_eq (a:=Value.none) (by first |rfl |(simp only[firstArgMember];rfl)) (xz ?_ (by size_fits)))) (by size_fits)))
 simp only[raiseNew];refine zb (wpAny_handled ?_);rw[show A.in1.handled=none from hh];refine zb (zf (wpAny_throw ?_));exact zb (wpAny_isInstance (T := "StopIteration") (b:=true) ⟨_,zr _ rfl,rfl⟩ isSubtype_stop (zf (hQ _ (((Heap.SameBut.update ..).extBut.push _).push _))))
end
def EntAt(h:Heap)(d:Addr)(es:Array DictEntry)(ep:Nat):Prop:=∃o,h.get? d=some o/\o.ExactDict/\o.data=.dict es ep
section
variable {prog:Program}{w:World}{A:Around}{E:QqV}{s:Shared}{d:Addr}{ep:Nat}{es:Array DictEntry}
def EntAt.at{h h':Heap}(x:EntAt h d es ep)(hk:∀o,h.get? d=some o->h'.get? d=some o):EntAt h' d es ep:=let ⟨o,J,r⟩:=x;⟨o,hk o J,r⟩
def EntAt.typeIs(x:EntAt s.heap d es ep):s.TypeIs (.ref d) "dict" := let ⟨o,J,L,_⟩:=x;⟨o,J,L.1⟩
def zY1(Y:A.handled=none)(I d:Addr)(W:d≠I)(es:Array DictEntry)(ep:Nat) :
  Walks prog w A I [I,d] [I] es.size (λi v=>∃x,es[i]?=some x/\v=x.key) (λi h=>h.IsKeyIter I d i es.size ep/\EntAt h d es ep) where
 sub:=λb J=>by simp at J;simp[J]
 frame:=λ_ _ _ st hk=>⟨st.1.at λo e=>hk I (by simp) o e,st.2.at λo e=>hk d (by simp) o e⟩
 item:=λi s Q E hi st L=>by
  obtain⟨o,O,hc,hd⟩:=id st.2
  exact zd6 st.1 O hd hi λh' hit' hs'=>L _ h' s.toks ⟨es[i],xC hi,rfl⟩ ⟨hit',st.2.at λo e=>hs'.extBut d o W e⟩ λb o J e=>hs'.extBut b o (λh=>J (by simp[h])) e
 done:=λs Q E st L=>by
  obtain⟨o,O,hc,hd⟩:=id st.2
  exact zo1 Y st.1 O hd λh' he'=>L h' s.toks λb o J e=>he' b o (λh=>J (by simp[h])) e
 self:=λ_ _ _ _ st L=>wpAny_pyIter_keyiter st.1 L
def xF7{Q:QqV}(hd:(d == sysModules)=false)(L:EntAt s.heap d es ep)
  (W:Q (.ref s.heap.objs.size) { s with heap:=s.heap.push { cls:=.type "dict_keyiterator",data:=.fields #[.ref d,.int 0 0,.int es.size 0,.int ep 0] } }):wpAny (model prog w) A (pyIter (.ref d)) Q E s:=by
 obtain⟨o,O,Y,J⟩:=id L;refine wpAny_pyIter_slot L.typeIs F.slot_dict_iter (wz F.slot_dict_iter L.typeIs F.entry_dict_iter ?_ (F.args_dict_iter_1 _));unfold Builtin.«dict.__iter__» Builtin.Dict.dictSlotNone;refine zb (zb (wpAny_notOrdered_dict L.typeIs ?_));show wpAny _ _ (pure (Value.ref d)) _ _ s;refine zf ?_;show wpAny _ _ (Builtin.Dict.showsAll d >>= _) _ _ s;unfold Builtin.Dict.showsAll
 rw[if_neg (by rw[hd];exact zJ)]
 refine zb (zf (zb (xW O J (zb (wpAny_dictEpoch O J (zb (xz (zf ⟨_,rfl,"dict_keyiterator",_,⟨_,zr _ rfl,rfl⟩,F.slot_dict_keyiterator_next.lookup,?_⟩))))))))
 simpa [rawInt] using W
def xQ4(lo:(d == sysModules)=false):W.KdlSrc prog w "dict" d d es.size (λi v=>∃x,es[i]?=some x/\v=x.key) (λh=>EntAt h d es ep) where
 type:=λ_ J=>J.typeIs
 there:=λ_ J=>let ⟨_,L,_⟩:=J;⟨zo L,zo L⟩
 keep:=λ_ _ J hk=>J.at λo e=>hk d (.inl rfl) o e
 notList:=w6
 notTuple:=w6
 hint:=λ_ _ _ _ J O=>W.kdl_hint_dict J.typeIs O
 iter:=λ_ _ Y J=>⟨_,_,(λ_ _ O=>xF7 lo J O),zY1 Y _ d (zx (let ⟨_,L,_⟩:=J;zo L)) es ep,⟨⟨_,zr _ rfl,rfl,rfl⟩,J.at λo e=>ze _ e⟩⟩
end
def KeyAts(H:Hp):List (List Key × V)->List Addr->Prop:=Paired λp b=>H b=some (.tup (p.1.map kV))
def KT.ats{H:Hp}{J:List (List Key × V)}{xs:List (List Key × Addr × Value)}(r:KT H J xs):KeyAts H J (xs.map (·.2.1)):=by
 induction r with
 |nil=>exact .nil
 |@cons p q ps qs O t L=>exact .cons O.2.1 L
theorem UD:∀(bs:List Addr),Vals (bs.map V.ref) (bs.map Value.ref)
 |[]=>.nil
 |b::bs=>.cons rfl (UD bs)
section
variable {X:Cx}{A:AC}{pos p:Pos}
def Qa(hh:X.A.handled=none):kW X (.type "list") (λxs H Q=>∃a Y,xs=[.ref a]/\H a=some (.dT Y)/\∀l bs,H l=none->KeyAts H Y bs->Q (.ref l) (upd H l (.lst (bs.map V.ref)))):=by
 intro ae s σ H xs us Q I r h;obtain⟨a,Y,rfl,e,q⟩:=h;obtain⟨u,rfl,rx⟩:=Ye r;cases rx;obtain⟨z,hd,ys,ac,dd⟩:=zf2 I.hok e;obtain⟨o,es,ep,ho,hc,ad,L,af,hn⟩:=dd;have hsz:es.size=ys.length:=size_of_entries L;have hl:=ac.length
 refine W.kdl_call (xQ4 (es:=es) (ep:=ep) hd) hh ⟨o,ho,hc,ad⟩ (by rw[hsz,<- hl];exact z) λh' tk J c' hk hS O=>?_
 have aa:J.toList=(ys.map (·.2.1)).map Value.ref:=by
  refine ext_getElem? λj=>?_;rw[yu]
  rcases Nat.lt_or_ge j J.size with hj |hj
  ·obtain ⟨x, hx, hv⟩ := O.2 j J[j] (xC hj);rw[xC hj,hv];rw[entry_at L j] at hx
   cases hy:ys[j]? with
   |none=>rw[hy] at hx;cases hx
   |some y=>
    rw[hy] at hx;cases hx;simp[hy,entryOfKey]
  ·rw[wB hj,wW (by rw[O.1,hsz] at hj;simpa using hj)]
 refine⟨.ref s.heap.objs.size,_,I.laid (t':=tk) (o:=.lst ((ys.map (·.2.1)).map V.ref)) hk (zn _) ?_,rfl,q _ _ (I.hok.fresh (zn _)) ac.ats⟩
 exact⟨by simp only[zg];rw[<- hl];exact z,J.toList,c',by rw[aa];exact UD _,by rw[yM];exact hS⟩
theorem KeyAts.reps{K:W.Frag}{G:QqE}{Z:QqA}{H:Hp}(hz:∀b ys,H b=some (.tup ys)->¬ Z b):∀{ks:List (Int × Int)}{xs:List V}{bs:List Addr},ks.length=xs.length->KeyAts H (qx ks xs) bs->Reps K G Z H (ks.map λk=>.tup [.int k.1,.int k.2]) (bs.map V.ref)
 |[],[],bs,_,h=>by
  unfold KeyAts qx at h;cases h;exact .nil
 | k :: ks, x :: xs, bs, J, h => by
  unfold KeyAts qx at h;rw[xD] at h
  cases h with
  |@cons _ b _ bs' h1 L=>
   refine .cons (.tup_mk (.inl ⟨hz b _ h1,.inl h1⟩) ?_) (KeyAts.reps hz (by simpa using J) L)
   exact .cons (Rep.ofS (d:=.int k.1) rfl) (.cons (Rep.ofS (d:=.int k.2) rfl) .nil)
def zL7(i:Nat):TD:=λrho n P=>∃ks es,rho[i]?=some (some (.owT ks es))/\P (.lst (ks.map λk=>.tup [.int k.1,.int k.2])) n
@[simp] theorem xs5{i rho n P}:zL7 i rho n P=∃ks es,rho[i]?=some (some (.owT ks es))/\P (.lst (ks.map λk=>.tup [.int k.1,.int k.2])) n:=rfl
def AmO.tupZ{os:List (Nat × Addr)}{n:Nat}{rho:Rho}{sg:St}{H:Hp}{ds:List D}{vs:List V}(I:AmO A os n rho sg H ds vs):∀b ys,H b=some (.tup ys)->¬ Zof A os b:=λb ys e z=>by
 obtain⟨u,e',t⟩:=I.zHot b z;rw[e] at e';cases e';exact t ys rfl
def QH{i l:Nat}{x:Str}{J:Pos}(hr:Room l X.A)(hm:X.mg "list" = none)(hN:X.N[i]?=some x:=by rfl)(Y:Vis X.env.scope x:=by first |exact Or.inl rfl |exact Or.inr (Or.inl rfl) |exact Or.inr (Or.inr rfl))(hd:(x == ("__debug__" : Str))=false:=by decide)
  (O:(x == ("__classdict__" : Str))=false:=by decide) (hg:Gl X "list" := by rfl)
  (W:starEach [.Name x J] X.env=(false,eval (.Name x J) X.env)::starEach [] X.env:=by rfl) (L:(backTo pos (starEach [] X.env)).any (·.1)=false:=by rfl):PD A X (.Call (.Name "list" p) [.Name x J] [] pos) (zL7 i):=by
 exists (ZO (Qa hr.hd) hg hm Ut (jr (qC hN Y hd O) YS W) w6 w6 W L).imp λsg H Q h=>by
   obtain⟨rho,n,P,ds,vs,⟨os,I⟩,⟨ks,es,hi,k⟩,hQ⟩:=h;obtain⟨a,xs,e1,hH,hl,rs,_⟩:=I.ownT hi;exact⟨.ref a,e1,a,_,rfl,hH,λl bs hl' hb=>hQ _ _ n _ ⟨os,I.newLst (hb.reps I.tupZ hl) hl'⟩ k⟩
def lenT{w:World}{prog:Program}{B:Around}{E:QqV}{s:Shared}{d:Addr}{es:Array DictEntry}{ep:Nat}{Q:QqV}(hd:(d == sysModules)=false)(L:EntAt s.heap d es ep)(O:(es.size:Int)<2^63)
  (h:Q (.int es.size (s.toks+1)) { s with toks:=s.toks+1+1 }):wpAny (model prog w) B (call (.builtin "len") [.ref d]) Q E s:=by
 refine Calls.call_function_entry kind_len plain_len entry_len (args_len1 _) ?_;obtain⟨o,W,Y,J⟩:=id L;unfold Builtin.«len»
 refine zb (m:=oneArg "len" _) (zf (zb (m:=callSpecial? (.ref d) (Str.ofString "__len__")) (xO (name:=Str.ofString "__len__") L.typeIs F.slot_dict_len
  (call_meetsIn F.slot_dict_len L.typeIs F.entry_dict_len (F.args_dict_len_1 _) (S:=λ_ R s'=>s'=s/\R (.ok (.ret (.int es.size s.toks))) { s with toks:=s.toks+1 }) (.of_wp ?_) ⟨rfl,?_⟩))))
 ·rintro C R s' ⟨rfl,q⟩;show wpAny _ _ (dictSize d >>= _) _ _ s';unfold dictSize;refine zb (zb (xW W J (zf ?_)));show wpAny _ _ (Builtin.Dict.pendingCount d >>= _) _ _ s';refine zb (wpAny_pendingCount_other hd (wpAny_ret_mkInt ?_));rw[Nat.add_zero];exact q
 ·show wpAny _ _ _ _ _ { s with toks := s.toks + 1 };refine zb (xp (zf (zb (yx ?_))))
  show wpAny _ _ (if ((es.size:Nat):Int)<0 then _ else _) _ _ _
  rw[if_neg w5]
  show wpAny _ _ (if ((es.size:Nat):Int)>=2^63 then _ else _) _ _ _
  rw[if_neg w5]
  exact zb (wpAny_mkInt (zf ⟨_,rfl,h⟩))
def zf8:kW X (.builtin "len") (λxs H Q=>∃a J,xs=[.ref a]/\H a=some (.dT J)/\Q (.int J.length) H):=by
 intro Y s σ H xs us Q I r h;obtain⟨a,J,rfl,e,q⟩:=h;obtain⟨u,rfl,rx⟩:=Ye r;cases rx;obtain⟨z,hd,ys,W,o,es,ep,ho,hc,O,L,aa,hn⟩:=zf2 I.hok e
 have hsz:es.size=J.length:=by rw[size_of_entries L,W.length]
 have hn:=Vg
 exact lenT hd ⟨o,ho,hc,O⟩ w5 ⟨.int J.length,H,I.tok _,⟨s.toks+1,by rw[hsz]⟩,q⟩
def xm5(i:Nat):TD:=λrho n P=>∃ks es,rho[i]?=some (some (.owT ks es))/\P (.int ks.length) n
@[simp] theorem xD0{i rho n P}:xm5 i rho n P=∃ks es,rho[i]?=some (some (.owT ks es))/\P (.int ks.length) n:=rfl
def Uf{ks:List (Int × Int)}{xs:List V}(h:ks.length=xs.length):(qx ks xs).length=ks.length:=by simp[qx,h]
def zQ4{i:Nat}{x:Str}{J:Pos}(hm:X.mg "len" = none)(hN:X.N[i]?=some x:=by rfl)(Y:Vis X.env.scope x:=by first |exact Or.inl rfl |exact Or.inr (Or.inl rfl) |exact Or.inr (Or.inr rfl))(hd:(x == ("__debug__" : Str))=false:=by decide)
  (O:(x == ("__classdict__" : Str))=false:=by decide) (hg:Gl X "len" := by rfl)
  (W:starEach [.Name x J] X.env=(false,eval (.Name x J) X.env)::starEach [] X.env:=by rfl) (L:(backTo pos (starEach [] X.env)).any (·.1)=false:=by rfl):PD A X (.Call (.Name "len" p) [.Name x J] [] pos) (xm5 i):=by
 exists (Xg zf8 hg hm ki (jr (qC hN Y hd O) YS W) w6 w6 W L).imp λsg H Q h=>by
   obtain⟨rho,n,P,ds,vs,⟨os,I⟩,⟨ks,es,hi,k⟩,hQ⟩:=h;obtain⟨a,xs,e1,hH,hl,rs,_⟩:=I.ownT hi
   exact⟨.ref a,e1,a,_,rfl,hH,by rw[Uf hl];exact hQ _ H n _ ⟨os,I.push (Rep.ofS (d:=.int ks.length) rfl)⟩ k⟩
end
section
variable {X:Cx}{pins:QqL}{σ:St}{H:Hp}{s:Shared}{a b:Addr}{B:Around}{E:QqV}{kvs:List (List Key × V)}{k:List Key}{v:V}
def zf3{Q:QqV}(hu:B.units+1<cLine)(I:Inv X pins σ H s)(e:H a=some (.dT kvs))(W:SqT X.K H b (k.map kV))(l:YK kvs k=some v)
  (h:∀w' s',Inv X pins σ H s'->RelV v w'->Q w' s'):wpAny (model X.prog X.w) B (getItem (.ref a) (.ref b)) Q E s:=by
 obtain⟨z,hd,xs,J,Y⟩:=zf2 I.hok e
 obtain⟨w',L,rw'⟩:=RelO.some_of (v:=v) (o:=(atKey xs k).map (·.2)) (by rw[<- l];exact J.val k)
 obtain⟨p,O,rfl⟩:=Option.map_eq_some_iff.mp L;exact wpAny_getItem_heap (tupleKind_room_in1 hu) (QQ I W) Y O (h _ _ (I.tok _) rw')
def zZ5(K:W.Frag)(L ty:TE):TE:=λσ H Q=>L σ H λx O=>ty σ O λy J=>∃a b kvs k v,x=.ref a/\y=.ref b/\J a=some (.dT kvs)/\SqT K J b (k.map kV)/\YK kvs k=some v/\Q v J
def zB5{o i:Expr}{J ty:TE}{pos:Pos}(hu:X.A.units+1<cLine)(ho:PE X o J)(hi:PE X i ty)(hs:zX0 i):PE X (.Subscript o i pos) (zZ5 X.K J ty):=by
 intro pins s σ H Q I h;refine Jq PySem.F.slot_dict_getitem.lookup hs (thn (ho pins s σ H _ I h) λu O ⟨x,H1,I1,Y,q1⟩=>thn (hi pins O σ H1 _ I1 q1) λiv s2 ⟨y,H2,L,W,a,b,kvs,k,v,ex,ey,e,sq,l,q2⟩=>?_);subst ex ey;cases(show u=Value.ref a from Y);cases(show iv=Value.ref b from W);exact⟨(zq7 L (.inr ⟨_,.inl e⟩)).1,zf3 hu L e sq l λw' s3 I3 rw'=>⟨v,H2,I3,rw',q2⟩⟩
end
section
variable {A:AC}{X:Cx}{b:Expr}{tb:TD}{pos:Pos}
def xO2(i:Nat)(tb:TD):TD:=λrho n P=>∃ks es,rho[i]?=some (some (.owT ks es))/\tb rho n λd J=>∃(k:QqP) (c:D),d=.tup [.int k.1,.int k.2]/\atP ks es k=some c/\P c J
@[simp] theorem xL2{i tb rho n P}:xO2 i tb rho n P=∃ks es,rho[i]?=some (some (.owT ks es))/\tb rho n λd J=>∃(k:QqP) (c:D),d=.tup [.int k.1,.int k.2]/\atP ks es k=some c/\P c J:=rfl
def xf9{i l:Nat}{x:Str}{px:Pos}(hr:Room l X.A)(hK:X.K=A.K)(hb:PD A X b tb)(hs:zX0 b)(hN:X.N[i]?=some x:=by rfl)(hv:Vis X.env.scope x:=by first |exact Or.inl rfl |exact Or.inr (Or.inl rfl) |exact Or.inr (Or.inr rfl))(hd:(x == ("__debug__" : Str))=false:=by decide)
  (L:(x == ("__classdict__" : Str))=false:=by decide):PD A X (.Subscript (.Name x px) b pos) (xO2 i tb):=by
 exists (zB5 (by have:=hr.un;lia) (qC hN hv hd L) hb hs).imp λsg H Q h=>by
   obtain⟨rho,n,P,ds,vs,⟨os,I⟩,⟨ks,es,hi,ht⟩,hQ⟩:=h;obtain⟨a,xs,W,hH,hl,rs,_⟩:=I.ownT hi;refine⟨.ref a,W,rho,n,_,ds,vs,⟨os,I⟩,ht,λv H' n' d ⟨os',J⟩ k=>?_⟩;obtain⟨k,c,rfl,hc,k2⟩:=k;obtain⟨Y,r⟩:=J.pop;obtain⟨a',xs',O,hH',hl',rs',_⟩:=Y.ownT hi;rw[W] at O;cases O;obtain⟨b',rfl,sq⟩:=Zr r;obtain⟨w,hw',rw'⟩:=rs'.atP hc
   exact⟨a,b',_,kP k,w,rfl,rfl,hH',by rw[hK];exact sq,by rw[Qb];exact hw',hQ w H' n' c ⟨os',Y.push rw'⟩ k2⟩
end
abbrev TFT:=List D->Nat->(List (Int × Int)->List D->Nat->Prop)->Prop
def spT(K:W.Frag)(k:Nat)(t:TFT):Sp:=λvs H Q _=>∃(G:QqE) (Z:QqA) (n:Nat) (P:List (Int × Int)->List D->Nat->Prop) (ds:List D),ds.length=k/\Reps K G Z H ds vs/\zx1 G n H/\(∀a,G=some a->Z a)/\ZOk K G Z H/\t ds n P /\
 ∀p H' n' ks es xs,(∀a o,G≠some a->H a=some o->H' a=some o)->zx1 G n' H'->H' p=none->ks.length=xs.length->Reps K G Z H' es xs->P ks es n'->Q (.ref p) (upd H' p (.dT (qx ks xs)))
structure FnT(P:Program)(w:World)(K:W.Frag)(mg:QqM)(base:Heap)(x:Str)(kk k:Nat)(t:TFT):Prop where
 ex:∃f fd ps,FnOk P w K mg base CX0 kk f fd ps (spT K k t)/\mg x=some (.ref f)/\W.keepIn K (.ref f)=true/\Binds K fd ps []
section
variable {A:AC}{X:Cx}{e:Expr}{es:List Expr}{t1:TAD}{pos p pos2:Pos}
def AmO.setOwnT{os:List (Nat × Addr)}{n:Nat}{rho:Rho}{sg:St}{H:Hp}{ds es:List D}{vs xs:List V}{i:Nat}{p:Addr}{ks:List (Int × Int)}(I:AmO A os n rho sg H ds vs)(hi:i<rho.length)(L:H p=none)(hl:ks.length=xs.length)(r:Reps A.K A.G (Zof A os) H es xs) :
  ∃os',AmO A os' n (rho.set i (some (.owT ks es))) (sg.set i (some (.ref p))) (upd H p (.dT (qx ks xs))) ds vs:=by
 have O:∀a u,H a=some u->upd H p (.dT (qx ks xs)) a=some u:=λa u e=>by rw[xZ (yc e L)];exact e
 refine⟨(i,p)::os.filter λq=>decide (q.1≠i),?_⟩
 have Y:∀a,H a≠none->Zof A ((i,p)::os.filter λq=>decide (q.1≠i)) a->Zof A os a:=λa ha z=>by
  rcases z with z |⟨q,J,e⟩
  ·exact .inl z
  ·rcases zk.mp J with rfl | J
   ·exact absurd (by rw[<- e];exact L) ha
   ·exact .inr ⟨q,(zt.mp J).1,e⟩
 have h0:A.H0 p=none:=by
  cases q:A.H0 p with
  |none=>rfl
  |some o=>
   by_cases e:A.G=some p
   ·obtain⟨x,y,z,w,_⟩:=I.st p e;rw[w] at L;cases L
   ·have:=I.fr p o e q;rw[this] at L;cases L
 refine⟨by simp[I.len],λj c e=>?_,Reps.mono Y (λa u _ e=>O a u e) _ _ I.pend,?_,λq J=>?_,λa e=>?_,I.gz,λa u h e=>O a u (I.fr a u h e),I.z0⟩
 ·by_cases W : j = i
  ·subst W;rw[zW hi] at e;cases e
   exact⟨.ref p,zW (by rw[<- I.len];exact hi),p,xs,rfl,xo,wX,hl,Reps.mono Y (λa u _ e=>O a u e) _ _ r⟩
  ·rw [xb (Ne.symm W)] at e;obtain⟨u,e1,e2⟩:=I.slot j c e
   exact⟨u,by rw[xb (Ne.symm W)];exact e1,SlotR.mono Y (λa u _ e=>O a u e) (λa ys m q=>⟨zj _ (zt.mpr ⟨m,by simpa using W⟩),O a _ q⟩) _ _ e2⟩
 ·refine wb.mpr ⟨λq J => ?_, I.nd.filter _⟩;obtain⟨m1,m2⟩:=zt.mp J
  refine⟨λz=>by simp[<- z] at m2,λz=>(I.fresh q m1).2.2.ne ?_⟩
  have z':p=q.2:=z;rw[<- z'];exact L
 ·rcases zk.mp J with rfl | J
  ·exact⟨h0,λz=>(I.z0.1 p z).ne h0,by show Hot (upd H p _ p);rw[wX];exact Hot.dT⟩
  ·obtain⟨f1,f2,f3⟩:=I.fresh q (zt.mp J).1;exact⟨f1,f2,f3.of λu w=>O _ _ w⟩
 ·obtain⟨x,y,z,q,rr⟩:=I.st a e;exact⟨x,y,z,O _ _ q,rr⟩
def xa0(i k:Nat)(t:TFT)(t1:TAD):TSD:=λF rho n=>i<rho.length/\t1 rho n λes L=>es.length=k/\t es L λks vs J=>F.nx (rho.set i (some (.owT ks vs))) J
@[simp] theorem xy1{i k t t1 F rho n}:xa0 i k t t1 F rho n=(i<rho.length/\t1 rho n λes L=>es.length=k/\t es L λks vs J=>F.nx (rho.set i (some (.owT ks vs))) J):=rfl
def zA5{i kk k:Nat}{x y:Str}{pos':Pos}{t:TFT}(F:FnT X.prog X.w X.K X.mg X.base y kk k t)(hr:Room kk X.A)(hK:X.K=A.K)(hN:X.N.Nodup)(hi:X.N[i]?=some x)(hx:Loc X.env.scope x)(ha:PAD A X (e::es) t1)(hg:Gl X y:=by rfl)(aa:(y == ("__debug__" : Str))=false:=by decide)
  (he:starEach (e::es) X.env=(false,eval e X.env)::starEach es X.env:=by rfl) (O:(backTo pos (starEach es X.env)).any (·.1)=false:=by rfl) (hf:X.fn x=true\/X.env.scope.names.lookup x=some .local:=by first |exact .inl rfl |exact .inr rfl |assumption)
  (hs:swapsWith (.Call (.Name y p) (e::es) [] pos) (some (.Name x pos')) pos2.line X.env=pure false:=by rfl):PSD A X (.Assign [.Name x pos'] (.Call (.Name y p) (e::es) [] pos) pos2) (xa0 i k t t1):=by
 obtain⟨f,fd,ps,F,hm,hk,hb⟩:=F.ex
 exists (UQ hN hi hx (VT F hr hg hm hk hb .nil zC0 ha aa he O) hs hf).imp λE sg H h=>by
   obtain⟨rho,n,R,ds,vs,I,⟨hl,ht⟩,ok⟩:=h;refine⟨rho,n,_,ds,vs,I,ht,λws H' n' es' ⟨os,J⟩ Y k=>?_⟩;obtain⟨L,rs⟩:=J.split Y;rw[ww,hK];exact⟨A.G,Zof A os,n',_,es',k.1,rs,L.st,λa z=>.inl (L.gz a z),L.zO,k.2,λp H2 n2 ks ac xs fr st hp W r q=>ok.nx _ _ _ _ ((L.called fr st).setOwnT hl hp W r) q⟩
end
def WI(k:QqP):Int:=reduceHash (Builtin.Tuple.tupleHashOf [hashInt k.1,hashInt k.2])
def zF0{P:Program}{w:World}(k:QqP):(tupleKind (wP P w)).hash (kP k)=WI k:=rfl
theorem Zy:∀{ks ks2:List (Int × Int)}{xs xs2:List V},ks.length=xs.length->qx (ks++ks2) (xs++xs2)=qx ks xs++qx ks2 xs2
 |[],_,[],_,_=>rfl
 |k::ks,ks2,x::xs,xs2,h=>by
  have J:=Zy (ks:=ks) (ks2:=ks2) (xs:=xs) (xs2:=xs2) (by simpa using h)
  simp only[qx,List.cons_append,xD] at J ⊢;rw[J]
theorem XV:∀{ks:List (Int × Int)}{xs:List V},ks.length=xs.length->(qx ks xs).map (·.1)=ks.map kP
 |[],[],_=>rfl
 |k::ks,x::xs,h=>by
  have J:=XV (ks:=ks) (xs:=xs) (by simpa using h)
  simp only[qx,xD,zE] at J ⊢;rw[J]
def zA0{J:List (List Key × V)}{k:List Key}{v:V}(h:k ∉ J.map (·.1)):zc6 J k v=J++[(k,v)]:=by
 unfold zc6;rw[if_neg];intro z;obtain⟨x,hx,e⟩:=List.any_eq_true.mp z
 exact h (zi.mpr ⟨x,hx,by simpa using e⟩)
theorem Ve:∀(more J:List (List Key × V)),((J++more).map (·.1)).Nodup->YT J more=J++more
 |[],J,_=>by simp[YT]
 | m :: more, J, h => by
  have h0:m.1 ∉ J.map (·.1):=by
   rw[zK,xG] at h
   exact λz=>h.2.2 _ z _ (by simp) rfl
  have e:YT J (m::more)=YT (zc6 J m.1 m.2) more:=rfl
  rw[e,zA0 h0,Ve more (J++[(m.1,m.2)]) (by simpa using h)]
  simp
def zD3{ks:List (Int × Int)}(h:ks.Nodup):(ks.map kP).Nodup:=by
 induction ks with
 |nil=>exact nodup_nil
 |cons k ks J=>
  obtain⟨h1,O⟩:=xu.mp h;refine xu.mpr ⟨λz=>?_,J O⟩;obtain⟨y,L,e⟩:=zi.mp z;exact h1 (QR e ▸ L)
def zT1{α β γ:Type}(f:α->γ)(l:List (α × β)):(l.map λx=>f x.1)=(l.map (·.1)).map f:=by simp
def zT2{α β γ:Type}(f:β->γ)(g:α->β)(h:α->γ)(e:∀x,f (g x)=h x)(l:List α):(l.map g).map f=l.map h:=by
 induction l with
 |nil=>rfl
 |cons x l J=>rw[zE,zE,zE,J,e]
def xl2{P:Program}{w:World}{ks:List (Int × Int)}{xs:List V}(h:ks.length=xs.length):((qx ks xs).map λJ=>(tupleKind (wP P w)).hash J.1)=ks.map WI:=by
 rw[zT1 (tupleKind (wP P w)).hash (qx ks xs),XV h];exact zT2 _ _ _ zF0 ks
def ze1{ks ks2:List (Int × Int)}{xs xs2:List V}(nd:(ks++ks2).Nodup)(h:ks.length=xs.length)(J:ks2.length=xs2.length):YT (qx ks xs) (qx ks2 xs2)=qx (ks++ks2) (xs++xs2):=by
 rw[Ve _ _ (by rw[<- Zy h,XV (by rw[zy,zy,h,J])];exact zD3 nd),Zy h]
section
variable {A:AC}{X:Cx}{e:Expr}{es:List Expr}{t1:TAD}{pos p pos2:Pos}
def zZ9(i k:Nat)(t:TFT)(t1:TAD):TSD:=λF rho n=>∃ks es,rho[i]?=some (some (.owT ks es))/\t1 rho n λL W=>L.length=k/\t L W λks2 J O=>(ks++ks2).Nodup/\ks.length+ks2.length<=sizeLine/\(ks=[]->(ks2.map WI).Nodup) /\
 F.nx (rho.set i (some (.owT (ks++ks2) (es++J)))) O
@[simp] theorem xy0{i k t t1 F rho n}:zZ9 i k t t1 F rho n=∃ks es,rho[i]?=some (some (.owT ks es))/\t1 rho n λL W=>L.length=k/\t L W λks2 J O=>(ks++ks2).Nodup/\ks.length+ks2.length<=sizeLine/\(ks=[]->(ks2.map WI).Nodup) /\
 F.nx (rho.set i (some (.owT (ks++ks2) (es++J)))) O:=rfl
def zA4{i kk k:Nat}{x y:Str}{px O L cp:Pos}{t:TFT}(F:FnT X.prog X.w X.K X.mg X.base y kk k t)(hr:Room kk X.A)(hK:X.K=A.K)(ha:PAD A X (e::es) t1)(hN:X.N[i]?=some x:=by rfl)(hv:Vis X.env.scope x:=by first |exact Or.inl rfl |exact Or.inr (Or.inl rfl) |exact Or.inr (Or.inr rfl))
  (hd:(x == ("__debug__" : Str))=false:=by decide) (ai:(x == ("__classdict__" : Str))=false:=by decide) (hg:Gl X y:=by rfl) (ah:(y == ("__debug__" : Str))=false:=by decide)
  (he:starEach (e::es) X.env=(false,eval e X.env)::starEach es X.env:=by rfl) (af:(backTo cp (starEach es X.env)).any (·.1)=false:=by rfl)
  (mm:M1 X (.Name x px) "update" O (.Call (.Name y p) (e::es) [] cp) L:=by exact⟨rfl,rfl,rfl,rfl⟩)
  (ae:swapsWith (.Call (.Attribute (.Name x px) "update" O) [.Call (.Name y p) (e::es) [] cp] [] L) none pos.line X.env=pure false:=by rfl) :
  PSD A X (.Expr (.Call (.Attribute (.Name x px) "update" O) [.Call (.Name y p) (e::es) [] cp] [] L) pos) (zZ9 i k t t1):=by
 obtain⟨f,fd,ps,F,hm,hk,hb⟩:=F.ex
 exists (JC (zB3 (by have:=hr.un;lia) (qC hN hv hd ai) (VT F hr hg hm hk hb .nil zC0 ha ah he af) mm) ae).imp λE sg H h=>by
   obtain⟨rho,n,R,ds,vs,⟨os,I⟩,⟨ks,es,hi,ht⟩,ok⟩:=h;obtain⟨a,xs,e1,hH,hl,rs,_⟩:=I.ownT hi;refine⟨.ref a,e1,a,rfl,.inr ⟨_,.inl hH⟩,rho,n,_,ds,vs,⟨os,I⟩,ht,λws H' n' es' ⟨os',J⟩ ag k=>?_⟩;obtain⟨J1,rs'⟩:=J.split ag;rw[ww,hK];refine⟨A.G,Zof A os',n',_,es',k.1,rs',J1.st,λa z=>.inl (J1.gz a z),J1.zO,k.2,λp H2 n2 ks2 al xs2 fr st hp W r q=>?_⟩;obtain⟨nd,hz,hh,q⟩:=q;have J2:=J1.called fr st;obtain⟨a4,am,e4,ac,_⟩:=J2.ownT hi;obtain⟨a3,aa,e3,ak,Y,ad,up⟩:=(J2.grow (o:=.dT (qx ks2 xs2)) hp).ownT hi;rw[e1] at e3 e4;cases e3;cases e4
   have aj:a≠p:=λz=>by rw[z,hp] at ac;cases ac
   have z1:=Uf Y;have z2:=Uf W
   refine⟨qx ks aa,qx ks2 xs2,p,ak,rfl,aj,wX,by rw[z1,z2];exact hz,λe0=>?_,?_⟩
   ·have e5 : ks = [] := zX.mp (by rw [<- z1, e0]; rfl)
    rw[xl2 W];exact hh e5
   ·rw [ze1 nd Y W]
    refine ok.nx _ _ _ _ ⟨os',up (ks++ks2) (es++al) (aa++xs2) (by rw[zy,zy,Y,W]) (ad.append ?_)⟩ q
    exact Reps.mono (λ_ _ z=>z) (λa u _ e=>by rw[xZ (yc e hp)];exact e) _ _ r
end
def zW9(J:List (List Key × Addr × V)):List (List Key × V):=J.map λx=>(x.1,x.2.2)
def xO7(P:Program)(w:World)(J:Obj)(xs:List (List Key × Addr × Value)):Prop:=J.ExactDict/\∃es ep,J.data=.dict es ep/\es.toList=xs.map (entryOfKey (tupleKind (wP P w)))/\(xs.map (·.1)).Nodup
abbrev KA:List (List Key × Addr × V)->List (List Key × Addr × Value)->Prop:=Paired λp q=>p.1=q.1/\p.2.1=q.2.1/\RelV p.2.2 q.2.2
def KA.kt{H:Hp}{J:List (List Key × Addr × V)}{xs:List (List Key × Addr × Value)}(r:KA J xs):(∀x∈J,H x.2.1=some (.tup (x.1.map kV)))->KT H (zW9 J) xs:=by
 induction r with
 |nil=>exact λ_=>.nil
 |@cons p q ps qs L t O=>exact λh=>.cons ⟨L.1,by rw[<- L.2.1];exact h p xo,L.2.2⟩ (O λx hx=>h x (zj _ hx))
def KA.back{J:List (List Key × Addr × V)}{xs:List (List Key × Addr × Value)}(r:KA J xs):∀x∈xs,∃p∈J,p.1=x.1/\p.2.1=x.2.1:=by
 induction r with
 |nil=>intro x hx;cases hx
 |@cons p q ps qs L t O=>
  intro x hx
  rcases zk.mp hx with e |hx
  ·subst e;exact⟨p,xo,L.1,L.2.1⟩
  ·obtain⟨p',h1,W⟩:=O x hx;exact⟨p',zj _ h1,W⟩
def KA.keys{J:List (List Key × Addr × V)}{xs:List (List Key × Addr × Value)}(r:KA J xs):J.map (·.1)=xs.map (·.1):=by
 induction r with
 |nil=>rfl
 |@cons p q ps qs O t L=>rw[zE,zE,L,O.1]
def KA.put{J:List (List Key × Addr × V)}{xs:List (List Key × Addr × Value)}(r:KA J xs)(k:List Key)(b:Addr){v:V}{u:Value}(h:RelV v u):KA (J++[(k,b,v)]) (xs++[(k,b,u)]):=by
 induction r with
 |nil=>exact .cons ⟨rfl,rfl,h⟩ .nil
 |@cons p q ps qs O t L=>exact .cons O L
section
variable {X:Cx}{scope:Scope}{own M:List Str}{pins:QqL}{σ:St}{H2:Hp}{s2:Shared}{tg iter kx vx:Expr}{ifs:List Expr}{pos:Pos}{g:TG}{tt:TT}{tk tv:TE}
def JU(ok:CompOk X scope M)(aL:X.A.units<cLine)(hc:X.calm=true)(hg:∀C s2 H2 O,PG (wS X scope own M C s2 H2 O) tg g)(ht:∀C s2 H2 O,PTs (wS X scope own M C s2 H2 O) ifs tt)(aQ:∀C s2 H2 O,PE (wS X scope own M C s2 H2 O) kx tk)(he:∀C s2 H2 O,PE (wS X scope own M C s2 H2 O) vx tv)
  (I2:Inv X pins σ H2 s2) {it:Addr}{O:List Addr}{tn:Nat->Heap->Prop}{J:It} (T:Turn X.prog X.w X.K tg J O it tn) (au:tn 0 s2.heap) (f2:∀b∈O,FpOk X pins H2 b)
  {W:Nat->Nat->List (List Key × Addr × V)->Hp->Prop} (w0:∃m,W 0 m [] H2) (wk:∀i m L H,W i m L H->∀x∈L,H x.2.1=some (.tup (x.1.map kV))) {Qf:V->Hp->Prop}
  (turn : ∀ i m L H, W i m L H -> (J.stop i H /\ L.length <= sizeLine /\ ∀ D, H D = none -> Qf (.ref D) (upd H D (.dT (zW9 L)))) \/
   (J.go i H /\ L.length < sizeLine /\ ∀ x H', J.yld i H x H' -> g x (List.replicate own.length none ++ σ) H' λσ2 H2 => σ2.drop own.length = σ /\ tt σ2 H2 λc H3 =>
    if c=true then tk σ2 H3 λy H4=>tv σ2 H4 λv H5=>∃k b m',y=.ref b/\k ∉ L.map (·.1)/\m'<m/\W (i+1) m' (L++[(k,b,v)]) H5 else ∃m',m'<m/\W (i+1) m' L H3))
  {RR:Value->Addr->Result->Shared->Prop}{E:QqV}
  (fin:∀D C H' s' m,Inv X pins σ H' s'->Qf (.ref D) H'->s'.heap.Ns C m->H' C=none->C≠X.env.locals->X.s₀.heap.objs.size<=C->(∀x c,X.env.cells.lookup x=some c->c≠C)->(∀p∈X.pn++pins,p.1≠C)->RR (.ref D) C (.ok .next) s') :
  wpAny (model X.prog X.w) X.A newDict (λL s3=>wpAny (model X.prog X.w) X.A (newFunctionEnv scope X.env.globals (qi X.env scope.names []) [] X.env.qual none .none (some X.env)) (λag s4=>
   codeAny (model X.prog X.w) X.A (.compStart (.DictComp kx vx [⟨tg,iter,ifs,0⟩] scope pos) 0 (.ref it) L { ag with scope:=relabel scope X.env }) (RR L ag.locals) s4) E s3) E s2:=by
 refine xz (Zu ?_);have zC:(s2.heap.push { cls:=.type "dict",dict:=none,data:=.dict #[] }).objs.size=s2.heap.objs.size+1:=wc ..;dsimp only;rw[zC];generalize hC:s2.heap.objs.size+1=C;generalize hh:pushCells ((s2.heap.push { cls:=.type "dict",dict:=none,data:=.dict #[] }).push { cls:=.type "dict",data:=.dict #[] }) scope.names=h4
 have aE:∀b∈O,FpOk X pins H2 b/\b<s2.heap.objs.size:=λb Y=>by
  obtain⟨o,e,_⟩:=T.obj 0 _ au b Y;exact⟨f2 b Y,zo e⟩
 have I4:Inv (wS X scope own M C s2 H2 O) [] (replicate own.length none++σ) H2 { s2 with heap:=h4 }:=Ku (o0:={ cls:=.type "dict",dict:=none,data:=.dict #[] }) ok hc I2 aE hC.symm hh.symm;generalize hX:wS X scope own M C s2 H2 O=X' at I4
 have aj:∀b o,s2.heap.get? b=some o->h4.get? b=some o:=λb o e=>by
  rw[<- hh];exact pushCells_keeps _ _ _ _ (ze _ (ze _ e))
 have aC:h4.get? s2.heap.objs.size=some { cls:=.type "dict",dict:=none,data:=.dict #[] }:=by
  rw[<- hh];exact pushCells_keeps _ _ _ _ (ze _ (zr _ rfl))
 have ay:xO7 X.prog X.w { cls:=.type "dict",dict:=none,data:=.dict #[] } []:=⟨⟨rfl,rfl,rfl⟩,#[],0,rfl,rfl,nodup_nil⟩;have aF:(s2.heap.objs.size == sysModules)=false:=(Uq (P:=X.prog) (w:=X.w) (H:=H2) s2.heap I2.big).2.1;have aq:tn 0 h4:=T.keep _ _ _ au λb Y o e=>aj b o e
 have gg:PG X' tg g:=by rw[<- hX];exact hg C s2 H2 O
 have gt:PTs X' ifs tt:=by rw[<- hX];exact ht C s2 H2 O
 have gk:PE X' kx tk:=by rw[<- hX];exact aQ C s2 H2 O
 have ge:PE X' vx tv:=by rw[<- hX];exact he C s2 H2 O
 have xP:X'.prog=X.prog:=by rw[<- hX];rfl
 have xw:X'.w=X.w:=by rw[<- hX];rfl
 have xK:X'.K=X.K:=by rw[<- hX];rfl
 have xA:X'.A=X.A:=by rw[<- hX];rfl
 have xc:X'.calm=true:=by rw[<- hX];exact hc
 have aa:X'.pn=[]:=by rw[<- hX];rfl
 have xs:X'.s₀=s2:=by rw[<- hX];rfl
 have xH:X'.H₀=H2:=by rw[<- hX];rfl
 have xL:X'.env.locals=C:=by rw[<- hX];rfl
 have aI:X'.fs=frs X.stack:=by rw[<- hX];rfl
 have ac:X'.ex=O:=by rw[<- hX];rfl
 have xe:X'.xe=λ_ _=>False:=by rw[<- hX];rfl
 have ao:({ newEnv scope C X.env.globals (cellsFrom (C+1) scope.names (qi X.env scope.names [])) X.env.qual none .none (some X.env) builtinsNs with scope:=relabel scope X.env }:Env)=X'.env:=by rw[<- hX];rfl
 have aG:s2.heap.objs.size<C:=by rw[<- hC];exact Nat.lt_succ_self _
 have al:∀{pl:QqL}{H:Hp},(∀b∈O,H b=none)->(∀p∈pl,p.1 ∉ O)->∀b∈O,FpOk X' pl H b:=λ{pl H} hn aM b Y=>by
  refine⟨hn b Y,?_,?_,.inl (by rw[ac];exact Y),λx c e=>(I4.ok.exf b (by rw[ac];exact Y)).2 x c e,λp hp z=>?_⟩
  ·exact(I4.ok.exf b (by rw[ac];exact Y)).1
  ·exact I4.ok.exfs b (by rw[ac];exact Y)
  ·rw [aa, wf] at hp
   exact aM p hp (by rw[z];exact Y)
 have aH:s2.heap.objs.size ∉ O:=λz=>xj _ (aE _ z).2;have DC:s2.heap.objs.size≠C:=zx aG
 have am:∀x c,X'.env.cells.lookup x=some c->c≠s2.heap.objs.size:=λx c e z=>by
  obtain⟨v,o,q,hd⟩:=I4.cell x c e;rw[z] at q;have q':h4.get? s2.heap.objs.size=some o:=q;rw[aC] at q';cases q';cases hd
 have aX:s2.heap.objs.size ∉ X'.fs:=λz=>by
  obtain⟨_,o,ho,_⟩:=I4.ok.funs.mem (by exact z)
  rw[xs] at ho;exact xj _ (zo ho)
 rw[ao]
 have af:∀s5:Shared,s5={ s2 with heap:=h4 }->codeAny (model X.prog X.w) X.A (.compLoop (.DictComp kx vx [⟨tg,iter,ifs,0⟩] scope pos) 0 (.ref it) (.ref s2.heap.objs.size) X'.env) (RR (.ref s2.heap.objs.size) C) s5:=by
  rintro s5 rfl;obtain⟨m0,w0⟩:=w0
  refine Vo (λn s'=>∃i L σ' H' ob vs,Inv X' [] σ' H' s'/\σ'.drop own.length=σ/\tn i s'.heap/\(∀b∈O,H' b=none)/\H' s2.heap.objs.size=none /\
   s'.heap.get? s2.heap.objs.size=some ob/\xO7 X.prog X.w ob vs/\KA L vs/\W i n L H') ?_ m0
   ⟨0,[],_,H2,_,[],I4,by simp,aq,λb Y=>(f2 b Y).1,I2.hok.fresh (zn _),aC,ay,.nil,w0⟩
  rintro n s3 ⟨i,L,σ3,H3,ob,vs,I3,hσ,ar,aD,hD,aR,ad,rv,w3⟩
  have aJ:∀v,ob.data≠.cell v:=λv z=>by
   obtain⟨_,es,ep,e,_⟩:=ad;rw[e] at z;cases z
  have av:∀{H:Hp}{s:Shared}{σ:St},Inv X' [] σ H s->H s2.heap.objs.size=none->s.heap.get? s2.heap.objs.size=some ob ->
    Inv X' [(s2.heap.objs.size,ob)] σ H s:=λ{H s σ} I hn ho=>I.pins_of λp hp=>by
   have e:p=(s2.heap.objs.size,ob):=by simpa using hp
   subst e
   exact⟨ho,hn,by rw[xL];exact DC,aX,aJ⟩
  have ai:∀p∈[((s2.heap.objs.size,ob):Addr × Obj)],p.1 ∉ O:=λp hp=>by
   have e:p=(s2.heap.objs.size,ob):=by simpa using hp
   subst e;exact aH
  have I3':=av I3 hD aR
  rcases turn i n L H3 w3 with ⟨stop,hsz,q⟩ |⟨go,hsz,step⟩
  ·have := T.done X' xP xw xK xc i _ s3 σ3 H3 (λ_ _ => False) I3' (al aD ai) ar stop;rw[xA] at this;refine thn this λr s4 ⟨hr,I5⟩=>?_;subst hr
   have aB:=(I5.pin (s2.heap.objs.size,ob) (by rw[aa];simp)).1
   have un:Un (frs X.stack) O H2 H3 s2.heap s4.heap:=by
    have:=I5.base;rw[aI,ac,xH,xs] at this;exact this
   have os:s4.os=s2.os:=by rw[I5.os,xs]
   have hok:HOk X.prog X.w H3 s4.heap:=by have:=I5.hok;rw[xP,xw] at this;exact this
   have IX:Inv X pins σ H3 s4:=I2.call' os un hok I5.bare λb Y=>by
    obtain⟨_,f1,_,f3,f4,f5⟩:=f2 b Y;exact⟨f3,f1,f4,f5⟩
   have aw:∀{b:Addr},s2.heap.objs.size<=b->(X.s₀.heap.objs.size<=b/\b≠X.env.locals/\(∀x c,X.env.cells.lookup x=some c->c≠b)/\∀p∈X.pn++pins,p.1≠b):=λ{b} Y=>by
    obtain⟨_,f1,_,f3,f4,f5⟩:=I2.fpOk (H':=λ_=>none) Y rfl;exact⟨zD I2.sz Y,f1,f4,f5⟩
   obtain⟨d1,d2,d3,d4⟩:=aw (zn s2.heap.objs.size);obtain⟨c1,c2,c3,c4⟩:=aw (b:=C) (yI aG)
   have IY:Inv X pins σ (upd H3 s2.heap.objs.size (.dT (zW9 L))) s4:=IX.track hD d1 d2 d3 d4 ⟨by unfold zW9;rw[zg];exact hsz,aF,vs,rv.kt λx hx=>by rw[xZ (λz=>by have:=wk i n L H3 w3 x hx;rw[z,hD] at this;cases this)];exact wk i n L H3 w3 x hx,(let ⟨hc,es,ep,h1,h2,h3⟩:=ad;⟨ob,es,ep,aB,hc,h1,h2,h3⟩)⟩
   obtain⟨m,hm,_⟩:=I5.loc;rw[xL] at hm
   have aS:H3 C=none:=by have:=I5.free;rw[xL] at this;exact this
   exact fin _ C _ s4 m IY (q _ hD) hm (by rw[xZ (Ne.symm DC)];exact aS) c2 c1 c3 c4
  ·have := T.item X' xP xw xK xc i _ s3 σ3 H3 (λ_ _ => False) I3' (al aD ai) ar go;rw[xA] at this;refine thn this λr s4 ⟨u,hr,h4⟩=>?_;subst hr;refine thn h4 λ_ s5 ⟨x,H5,I5,r5,y5,ah,aT⟩=>?_
   have aK:∀(j:Nat) v,(replicate own.length none++σ)[j]?=some (some v)->σ3[j]?=some (some v):=λj v e=>by
    by_cases ak:j<own.length
    ·rw [xB (by simpa using ak), xl, if_pos ak] at e
     cases e
    ·have aN := ym ak
     rw[xk (by simpa using aN),xN,<- hσ,yp] at e
     rw[show own.length+(j-own.length)=j by lia] at e
     exact e
   have aA:(replicate own.length none++σ).length=σ3.length:=by
    have e1:σ3.length=X'.N.length:=I5.len;have e2:=I4.len;exact e2.trans e1.symm
   have aU:Inv X' _ (replicate own.length none++σ) H5 s5:=I5.weak aA aK;have aV:=aU.pinned (al aT ai) (T.obj _ _ ah);have a1:=gg _ s5 _ H5 x u _ aV r5 (step x H5 y5);rw[xP,xw,xA,xe] at a1;refine thn a1 λ_ s6 ⟨σ6,H6,I6,d6,q6⟩=>?_;have a2:=gt _ s6 σ6 H6 _ I6 q6;rw[xP,xw,xA,xe] at a2;refine thn a2 λb s7 ⟨H7,I7,q7⟩=>?_
   have ae:∀{H:Hp}{s:Shared},Inv X' ([((s2.heap.objs.size,ob):Addr × Obj)]++XC O s5.heap) σ6 H s ->
     (tn (i+1) s.heap/\(∀b∈O,H b=none)/\H s2.heap.objs.size=none/\s.heap.get? s2.heap.objs.size=some ob/\Inv X' [] σ6 H s):=λ{H s} I=>by
    refine⟨T.keep _ _ _ ah λb Y o e=>(I.pin (b,o) (zp _ (zp _ (vZ Y e)))).1,λb Y=>?_,?_,?_,I.pins_of λp hp=>by simp at hp⟩
    ·obtain⟨o,e,d⟩:=T.obj _ _ ah b Y;exact(I.pin (b,o) (zp _ (zp _ (vZ Y e)))).2.1
    ·exact(I.pin (s2.heap.objs.size,ob) (by rw[aa];simp)).2.1
    ·exact(I.pin (s2.heap.objs.size,ob) (by rw[aa];simp)).1
   cases b with
   |false=>
    obtain⟨p1,p2,p3,p4,p5⟩:=ae I7;obtain⟨m',hm,w7⟩:=q7;exact⟨m',hm,i+1,L,σ6,H7,ob,vs,p5,d6,p1,p2,p3,p4,ad,rv,w7⟩
   | true =>
    rw[if_pos rfl] at q7 ⊢;have a3:=gk _ s7 σ6 H7 _ I7 q7;rw[xP,xw,xA,xe] at a3;refine thn a3 λy s8 ⟨v,H8,I8,r8,q8⟩=>?_;have a4:=ge _ s8 σ6 H8 _ I8 q8;rw[xP,xw,xA,xe] at a4;refine thn a4 λy2 s9 ⟨v2,H9,I9,r9,q9⟩=>?_;obtain⟨p1,p2,p3,p4,p5⟩:=ae I9;obtain⟨kk,kb,m',ek,az,hm,w8⟩:=q9;subst ek;cases(show y=Value.ref kb from r8);have hl:=rv.length;obtain⟨hc,es,ep,h1,h2,h3⟩:=ad;have tup:∀x∈L++[(kk,kb,v2)],H9 x.2.1=some (.tup (x.1.map kV)):=wk _ _ _ _ w8
    have ax:HOk X.prog X.w H9 s9.heap:=by have:=I9.hok;rw[xP,xw] at this;exact this
    have aP:∀x∈vs,(tupleKind (wP X.prog X.w)).is s9.heap x.1 x.2.1:=λx hx=>by
     obtain⟨p,hp,e1,e2⟩:=rv.back x hx;have:=tup p (zR _ hp);rw[e1,e2] at this;exact Ks ax this
    have aO:(tupleKind (wP X.prog X.w)).is s9.heap kk kb:=Ks ax (tup (kk,kb,v2) (by simp))
    refine wpAny_dictSet_heap (hsz:=by lia) (knd:=tupleKind (wP X.prog X.w)) (by show X.A.units<cLine;exact aL) aO ⟨ob,es,ep,p4,hc,h1,h2,aP,h3⟩ λh' dd' hs=>?_
    obtain⟨ob',es',ep',ho',hc',hd',he',hi',hn'⟩:=dd'
    have no:atKey vs kk=none:=za9 (by rw[<- rv.keys];exact az)
    rw[storedH_new no] at he' hi' hn'
    have aW:Inv X' [] σ6 H9 { s9 with heap:=h',toks:=s9.toks+(tupleKind (wP X.prog X.w)).draws kk }:=p5.turned (t':=s9.toks+(tupleKind (wP X.prog X.w)).draws kk) (λb o Y e=>hs.extBut b o Y e) p3 (by rw[xL];exact DC) (.inr (by rw[xs];exact zn _)) am (λp hp=>by rw[aa] at hp;simp at hp)
    exact⟨m',hm,i+1,L++[(kk,kb,v2)],σ6,H9,ob',_,aW,d6,T.keep _ _ _ p1 λb Y o e=>hs.extBut b o (λz=>aH (by rw[<- z];exact Y)) e,p2,p3,ho',⟨hc',es',ep',hd',he',hn'⟩,rv.put kk kb r9,w8⟩
 exact codeAny_compStart_dict (af _ rfl) (T.self _ 0 _ _ _ aq (af _ rfl))
def zi7(wi:TI)(own:Nat)(g:TG)(tt:TT)(tk tv:TE):TE:=λσ H Q=>wi σ H λJ H1=>∃W:Nat->Nat->List (List Key × Addr × V)->Hp->Prop,(∃m,W 0 m [] H1)/\(∀i m L H,W i m L H->∀x∈L,H x.2.1=some (.tup (x.1.map kV)))/\∀i m L H,W i m L H ->
 (J.stop i H/\L.length<=sizeLine/\∀D,H D=none->Q (.ref D) (upd H D (.dT (zW9 L)))) \/
 (J.go i H /\ L.length < sizeLine /\ ∀ x H', J.yld i H x H' -> g x (List.replicate own none ++ σ) H' λO H2 => O.drop own = σ /\ tt O H2 λc Y =>
  if c=true then tk O Y λy H4=>tv O H4 λv H5=>∃k b m',y=.ref b/\k ∉ L.map (·.1)/\m'<m/\W (i+1) m' (L++[(k,b,v)]) H5 else ∃m',m'<m/\W (i+1) m' L Y)
def zm0{wi:TI}(ok:CompOk X scope M)(Y:X.A.units<cLine)(hc:X.calm=true)(hi:PI X tg iter wi)(hg:∀C s2 H2 L,PG (wS X scope own M C s2 H2 L) tg g)(ht:∀C s2 H2 L,PTs (wS X scope own M C s2 H2 L) ifs tt)
  (aa:∀C s2 H2 L,PE (wS X scope own M C s2 H2 L) kx tk) (he:∀C s2 H2 L,PE (wS X scope own M C s2 H2 L) vx tv) (hs:∀x,foldedSetIterable iter X.env x=pure x:=by intro _;rfl) :
  PE X (.DictComp kx vx [⟨tg,iter,ifs,0⟩] scope pos) (zi7 wi own.length g tt tk tv):=by
 intro pins s σ H Q I h;rw[Vn]
 refine yF (use:=none) rfl hs (Xm (ok.cells I)) ok.kind (λx hx hl=>by rw[ok.uniq x hx,hl]) ?_
 refine thn (hi pins s σ H _ I h) λv s1 h1=>thn h1 λad s2 h2=>?_;obtain⟨it,L,tn,J,H2,e,I2,T,O,f2,W,w0,wk,turn⟩:=h2;subst e;refine JU (Qf:=Q) ok Y hc hg ht aa he I2 T O f2 w0 wk turn λD C H' s' m IY q hm ac c2 c1 c3 c4=>⟨m,hm,λh' hs'=>?_⟩;exact⟨.ref D,H',IY.turned (t':=s'.toks) (λb o hb e=>hs'.extBut b o hb e) ac c2 (.inr c1) c3 c4,rfl,q⟩
end
abbrev TDT:=Rho->Nat->(List (Int × Int)->List D->Nat->Prop)->Prop
def xH7(A:AC)(t:TDT):TE:=λsg H Q=>∃rho n P ds vs,Am A n rho sg H ds vs/\t rho n P /\
 ∀p H' n' ks es xs os,AmO A os n' rho sg H' ds vs->Reps A.K A.G (Zof A os) H' es xs->H' p=none->ks.length=xs.length->P ks es n'->Q (.ref p) (upd H' p (.dT (qx ks xs)))
@[irreducible] def PDT(A:AC)(X:Cx)(e:Expr)(t:TDT):Prop:=PE X e (xH7 A t)
def zb4:List (Int × Int)->List Addr->List V->List (List Key × Addr × V)
 |k::ks,b::bs,x::xs=>(kP k,b,x)::zb4 ks bs xs
 |_,_,_=>[]
theorem zb2:∀{ks:List (Int × Int)}{bs:List Addr}{xs:List V},ks.length=bs.length->ks.length=xs.length->(zb4 ks bs xs).length=ks.length
 |[],[],[],_,_=>rfl
 |k::ks,b::bs,x::xs,h1,J=>by
  show(zb4 ks bs xs).length+1=ks.length+1
  rw[zb2 (by simpa using h1) (by simpa using J)]
theorem Jb:∀{ks:List (Int × Int)}{bs:List Addr}{xs:List V},ks.length=bs.length->ks.length=xs.length->(zb4 ks bs xs).map (·.1)=ks.map kP
 |[],[],[],_,_=>rfl
 |k::ks,b::bs,x::xs,h1,J=>by
  show kP k::(zb4 ks bs xs).map (·.1)=kP k::ks.map kP
  rw[Jb (by simpa using h1) (by simpa using J)]
theorem zb3:∀{ks:List (Int × Int)}{bs:List Addr}{xs:List V},ks.length=bs.length->ks.length=xs.length->zW9 (zb4 ks bs xs)=qx ks xs
 |[],[],[],_,_=>rfl
 |k::ks,b::bs,x::xs,h1,J=>by
  show(kP k,x)::zW9 (zb4 ks bs xs)=(kP k,x)::qx ks xs
  rw[zb3 (by simpa using h1) (by simpa using J)]
theorem Ja:∀{ks:List (Int × Int)}{bs:List Addr}{xs:List V} (k:QqP) (b:Addr) (x:V),ks.length=bs.length->ks.length=xs.length->zb4 (ks++[k]) (bs++[b]) (xs++[x])=zb4 ks bs xs++[(kP k,b,x)]
 |[],[],[],_,_,_,_,_=>rfl
 |k'::ks,b'::bs,x'::xs,k,b,x,h1,J=>by
  show(kP k',b',x')::zb4 (ks++[k]) (bs++[b]) (xs++[x])=(kP k',b',x')::(zb4 ks bs xs++[(kP k,b,x)])
  rw[Ja k b x (by simpa using h1) (by simpa using J)]
def Rep.prT_inv{K:W.Frag}{G:QqE}{Z:QqA}{H:Hp}{v:V}{k:QqP}(h:Rep K G Z H (.prT k) v):∃b,v=.ref b/\¬ Z b/\H b=some (.tup [.int k.1,.int k.2]):=by unfold Rep at h;exact h
theorem zb1{K:W.Frag}{G:QqE}{Z:QqA}{H:Hp}:∀{ks:List (Int × Int)}{bs:List Addr}{xs:List V},Reps K G Z H (ks.map D.prT) (bs.map V.ref)->∀x∈zb4 ks bs xs,H x.2.1=some (.tup (x.1.map kV))
 |[],_,_,_,x,hx=>by cases hx
 |_::_,[],_,_,x,hx=>by cases hx
 |_::_,_::_,[],_,x,hx=>by cases hx
 |k::ks,b::bs,y::xs,r,x,hx=>by
  obtain⟨v,r',e,q,t⟩:=Reps.split r;rw[zE] at e;cases e
  rcases zk.mp hx with e |hx
  ·subst e;obtain⟨b',e,_,h⟩:=q.prT_inv;cases e;exact h
  ·exact zb1 t x hx
def QW(own:Nat)(g:TGD)(W:TBD)(Y O:TD)(rho:Rho)(P:List (Int × Int)->List D->Nat->Prop)(items:List D)(n1:Nat):Prop:=items.length<=sizeLine/\∃J:Nat->List (Int × Int)->List D->Nat->Prop,J 0 [] [] n1 /\
 (∀i d ks es n,items[i]?=some d->J i ks es n->g d (replicate own none++rho) λrho'=>rho'.drop own=rho/\W rho' n λc L=>if c=true then Y rho' L λdk n3=>O rho' n3 λdv n4=>∃k,dk=.prT k/\k ∉ ks/\J (i+1) (ks++[k]) (es++[dv]) n4 else J (i+1) ks es L) /\
 ∀ks es n,J items.length ks es n->P ks es n
def JV(it:TID)(own:Nat)(g:TGD)(L:TBD)(O J:TD):TDT:=λrho n P=>it rho n (QW own g L O J rho P)
section
variable {A:AC}{X:Cx}{it:TID}{g:TGD}{tt:TBD}{tk tv:TD}{tg iter kx vx:Expr}{ifs:List Expr}{scope:Scope}{own M:List Str}{pos:Pos}
def zb9{sg:St}{H:Hp}{Q:VK}{m:Nat}(h:xH7 A (JV it m g tt tk tv) sg H Q):zi7 (iOf A it) m (gOf A m g) (zb8 A tt) (tOf A tk) (tOf A tv) sg H Q:=by
 obtain⟨rho,n,P,ds,vs,I,ht,hQ⟩:=h;refine⟨rho,n,_,ds,vs,I,ht,λJ H' n' items es ws I1 hl hJ k=>?_⟩;obtain⟨hsz,W,w0,turn,fin⟩:=k
 refine⟨λi mm ae H=>mm=items.length-i/\i<=items.length/\∃ks bs L xs n,ae=zb4 ks bs xs/\ks.length=bs.length/\ks.length=xs.length/\ks.length<=i/\xs.length=L.length/\Am A n rho sg H (es++(ks.map D.prT++(L++ds))) (ws++(bs.map V.ref++(xs++vs)))/\W i ks L n,
  ⟨items.length,rfl,wo _,[],[],[],[],n',rfl,rfl,rfl,zn _,rfl,I1,w0⟩,?_,?_⟩
 ·rintro i mm ae H3 ⟨rfl, hi, ks, bs, L, xs, n3, rfl, O, Y, al, ac, ⟨os, I3⟩, w3⟩ x hx;obtain⟨I4,r1⟩:=I3.split hl
  obtain⟨I5,r2⟩:=I4.split (by simpa using O.symm)
  exact zb1 r2 x hx
 rintro i mm ae H3 ⟨rfl,hi,ks,bs,L,xs,n3,rfl,O,Y,al,ac,⟨os,I3⟩,w3⟩;have ay:(zb4 ks bs xs).length=ks.length:=zb2 O Y
 have ag:(bs.map V.ref).length=(ks.map D.prT).length:=by simpa using O.symm
 obtain⟨j1,j2⟩:=hJ n3 rho sg H3 (ks.map D.prT++(L++ds)) (bs.map V.ref++(xs++vs)) i ⟨os,I3⟩
 by_cases aa:i<items.length
 ·refine .inr ⟨(j1 items[i] (by simp [aa])).1, by lia, λx H4 y => ?_⟩
  obtain⟨ax,I4⟩:=(j1 items[i] (by simp[aa])).2 x H4 y
  refine⟨replicate m none++rho,n3,_,items[i],_,_,⟨_,I4.front m⟩,turn i items[i] ks L n3 (by simp[aa]) w3,λrho' sg' ⟨ak,I5⟩ e5 k5=>?_⟩
  obtain⟨k5,k6⟩:=k5
  have e6:sg'.drop m=sg:=by rw[e5,yL (by simp)]
  refine⟨e6,rho',n3,_,_,_,⟨ak,I5⟩,k6,λc H6 n6 ⟨aj,I6⟩ k7=>?_⟩
  cases c with
  |false=>
   obtain⟨ai,I7⟩:=I6.back k5 e6
   exact⟨items.length-(i+1),w5,rfl,aa,ks,bs,L,xs,n6,rfl,O,Y,w5,ac,⟨ai,I7⟩,k7⟩
  | true =>
   rw[if_pos rfl] at k7 ⊢;refine⟨rho',n6,_,_,_,⟨aj,I6⟩,k7,λvk H8 n8 dk I8 k8=>?_⟩;refine⟨rho',n8,_,_,_,I8,k8,λv H9 n9 d ⟨aw,I9⟩ k9=>?_⟩;obtain⟨kk,rfl,af,w9⟩:=k9;obtain⟨ad,av⟩:=I9.back k5 e6;obtain⟨au,rv⟩:=av.pop;obtain⟨ar,rk⟩:=au.pop;obtain⟨aq,r1⟩:=ar.split hl;obtain⟨ao,r2⟩:=aq.split ag;obtain⟨am,r3⟩:=ao.split ac;obtain⟨b,rfl,_⟩:=rk.prT_inv
   refine⟨kP kk,b,items.length-(i+1),rfl,?_,w5,rfl,aa,ks++[kk],bs++[b],L++[d],xs++[v],n9,(Ja kk b v O Y).symm,by simp[O],by simp[Y],by simp;lia,by simp[ac],⟨ad,?_⟩,w9⟩
   ·rw[Jb O Y];intro z;obtain⟨y,hy,e⟩:=zi.mp z;exact af (QR e ▸ hy)
   ·have ah : Reps A.K A.G (Zof A ad) H9 ((ks ++ [kk]).map D.prT) ((bs ++ [b]).map V.ref) := by
     rw[zK,zK];exact r2.append (.cons rk .nil)
    exact((am.join (r3.append (.cons rv .nil))).join ah).join r1
 ·have e : i = items.length := by lia
  subst e
  refine .inl ⟨j2 (zn _),w5,λp hp=>?_⟩
  obtain⟨I4,r1⟩:=I3.split hl;obtain⟨I5,r2⟩:=I4.split ag;obtain⟨I6,r3⟩:=I5.split ac;rw[zb3 O Y];exact hQ p H3 n3 ks L xs os I6 r3 hp Y (fin ks L n3 w3)
def zm4{l:Nat}(W:Room l X.A)(ok:CompOk X scope M)(hc:X.calm=true)(hi:PID A X tg iter it)(Y:∀C J O L,PGD A (wS X scope own M C J O L) own.length tg g)(ht:∀C J O L,PTs (wS X scope own M C J O L) ifs (zb8 A tt))
  (hk:∀C J O L,PD A (wS X scope own M C J O L) kx tk) (he:∀C J O L,PD A (wS X scope own M C J O L) vx tv) (hs:∀x,foldedSetIterable iter X.env x=pure x:=by intro _;rfl):PDT A X (.DictComp kx vx [⟨tg,iter,ifs,0⟩] scope pos) (JV it own.length g tt tk tv):=by exists (zm0 ok (by have:=W.un;lia) hc hi Y ht hk he hs).imp λ_ _ _=>zb9
end
section
variable {A:AC}{X:Cx}{es:List Expr}{t1:TAD}{pos:Pos}
def dPr(t:TAD):TD:=λrho n P=>t rho n λds J=>∃k:Int × Int,ds=[.int k.1,.int k.2]/\P (.prT k) J
@[simp] theorem xT2{t rho n P}:dPr t rho n P=t rho n λds J=>∃k:Int × Int,ds=[.int k.1,.int k.2]/\P (.prT k) J:=rfl
def xf7{W}(h:PAD A X es t1):PD A X (.Tuple es W pos) (dPr t1):=by
 exists (zJ5 h).imp λsg H Q h=>by
   obtain⟨rho,n,P,ds,vs,I,ht,hQ⟩:=h;refine⟨rho,n,_,ds,vs,I,ht,λws H' n' es' ⟨os,J⟩ hl k=>?_⟩;obtain⟨k,rfl,q⟩:=k;obtain⟨O,Y⟩:=J.split hl;obtain⟨v1,v2,rfl,r1,r2⟩:=VP Y;have e1:=r1.int_inv;have e2:=r2.int_inv;subst e1 e2
   refine⟨wU (show 2<=1000 by decide),λp L=>hQ _ _ n' _ ⟨os,(O.grow L).push ?_⟩ q⟩
   unfold Rep;exact⟨p,rfl,λz=>O.zH p z L,wX⟩
end
section
variable {P:Program}{w:World}{K:W.Frag}{mg:QqM}{base:Heap}
def Fun.okT{x J:Str}{st:Stmt}{f:Addr}{fd:FuncData}{N ps:List Str}{k:Nat}{t:TFT}{tb:TDT}{e:Expr}{pos:Pos}(F:Fun K x J st f fd)(S:FnScope N ps (xi st))(hb:vP st=[.Return (some e) pos])
  (body : ∀ (L : Value) (W : Around) (outer : List Env) (s : Shared) (H : Hp) (E : XK) (G : Option Addr) (Z : Addr -> Prop), Room k (W.deeper (envOfC J (xi st) s.heap.objs.size f L)) ->
   PDT ⟨K,G,Z,H⟩ (zx0 CX0 P w K mg base N J (xi st) f L W outer s H E).nox e tb)
  (O:∀ds n Q,ds.length=ps.length->t ds n Q->tb (startD N ds) n Q):FnOk P w K mg base CX0 (k+1) f fd ps (spT K ps.length t):=by
 exists (by
   refine F.ok S (λvs H Q E h=>?_) (λL W outer s H vs Q E hr h=>?_)
   ·obtain⟨G,Z,n,R,ds,hl,Y,_⟩:=h;rw[Y.length];exact hl
   ·obtain ⟨G, Z, n, R, ds, hl, Y, aa, gz, z0, ht, hQ⟩ := h;rw[hb];refine⟨_,VR (zJ2 (body L W outer s H E G Z hr)) zl0,startD N ds,n,R,[],[],⟨[],jD Y aa gz z0⟩,O ds n R hl ht,λp H' n' ks es xs os I r hp ac q=>?_⟩
    exact hQ p H' n' ks es xs I.fr I.st hp ac (Reps.mono (λa _ z=>.inl z) (λ_ _ _ e=>e) _ _ r) q)
end
section
variable {prog:Program}{w:World}{A:Around}{R:Result->Shared->Prop}{I:Addr}{fp wr:List Addr}{n:Nat}{P:Nat->Value->Prop}{St:Nat->Heap->Prop}
def zX2(prog:Program)(w:World)(A:Around)(P:Nat->Value->Prop)(St:Nat->Heap->Prop)(bt:Nat->Nat->Bool):Prop:=
 ∀t i j vi vj (s:Shared) (Q:QqV) (E:QqV),St t s.heap->P i vi->P j vj->Q (.bool (bt i j)) s->wpAny (model prog w) A (richCompare .Lt vi vj) Q E s
def Walks.more{bs:List Addr}{Ok:Heap->Prop}(W:Walks prog w A I fp wr n P St)(O:∀b∈bs,b ∉ wr)(hk:∀h h',Ok h->(∀b∈bs,∀o,h.get? b=some o->h'.get? b=some o)->Ok h'):Walks prog w A I (fp++bs) wr n P (λi h=>St i h/\Ok h) where
 sub:=λb h=>zR _ (W.sub b h)
 frame:=λi h h' st k=>⟨W.frame i h h' st.1 λb m o e=>k b (zR _ m) o e,hk h h' st.2 λb m o e=>k b (zp _ m) o e⟩
 item:=λi s Q E hi st J=>W.item i s Q E hi st.1 λv h' L Y st' k=>J v h' L Y ⟨st',hk _ _ st.2 λb m o e=>k b o (O b m) e⟩ k
 done:=λs Q E st J=>W.done s Q E st.1 J
 self:=λi s Q E st J=>W.self i s Q E st.1 J
def zo9(W:Walks prog w A.in1 I fp wr n P St)(bt:Nat->Nat->Bool)(ae:zX2 prog w A.in1 P St bt)(S:Addr)(ag:S ∉ fp):∀(k j:Nat) (s:Shared) (O:Value) (c:Nat),n-(j+1)=k->j+1<=n->St (j+1) s.heap->P (argBest bt j) O ->
  s.heap.get? S=some (seqObj "list" #[O,O] c)->(∀v h' tk,P (argBest bt (n-1)) v->(∀b o,b ∉ wr->b≠S->s.heap.get? b=some o->h'.get? b=some o)->R (.ok (.ret v)) { s with heap:=h',toks:=tk }) ->
  codeAny (model prog w) A (.builtin "min.loop" ⟨[.ref I,.none,.ref S],[]⟩) R s:=by
 have af:S ∉ wr:=λh=>ag (W.sub _ h)
 have nm:(toString "min" ++ toString ".loop" : String) = "min.loop" := by decide
 intro k
 induction k with
 |zero=>
  intro j s O c hk hj aa Y hS hR
  have ad:j+1=n:=w5
  refine codeAny_builtin F.entry_min_loop ?_;rw[Around.under_plainId F.plain_min_loop _];refine zb (m:=seqItems? (.ref S)) (wu hS rfl (zb (m:=tryCatch (pyNext (.ref I)) _) (wpAny_tryCatch (W.done s _ _ (ad ▸ aa) λh' tk hk'=>?_))));have hS':=hk' S _ af hS
  refine zb (m:=updateSeq S (λ_=>#[])) (wpAny_updateSeq hS' rfl (zb (yx (zf (hR O _ tk (by rw[<- ad];exact Y) λb o J L e=>(wA _ _ (Ne.symm L)).trans (hk' b o J e))))))
 | succ k ih =>
  intro j s O c hk hj aa Y hS hR
  have ac:j+1<n:=w5
  refine codeAny_builtin F.entry_min_loop ?_;rw[Around.under_plainId F.plain_min_loop _];refine zb (m:=seqItems? (.ref S)) (wu hS rfl (zb (m:=tryCatch (pyNext (.ref I)) _) (wpAny_tryCatch (W.item (j+1) s _ _ ac aa λv h' tk hP hst' hk'=>?_))));have hS':=hk' S _ af hS;refine zb (m:=tryCatch (holding [v,v] (richCompare .Lt v O >>= _)) _) (wpAny_tryCatch (xp (zb (ae (j+1+1) (j+1) (argBest bt j) v O _ _ _ hst' hP Y (zb (xp (wE (zb (yx (zf ?_))))))))))
  cases hb:bt (j+1) (argBest bt j) with
  |true=>
   simp only[if_true];refine zb (wpAny_updateSeq hS' rfl (zb (yx ?_)));rw[nm]
   refine zf ⟨plainId_quiet F.plain_min_loop _,ih (j+1) _ v _ w5 ac (W.frame _ _ _ hst' λb ah o e=>(wA _ _ (λh:S=b=>ag (by rw[h];exact ah))).trans e) (by simp only[argBest,hb,if_true];exact hP) (xT _ hS' rfl) λv' h'' tk'' hP' hk''=>?_⟩
   exact hR v' h'' tk'' hP' λb o J L e=>hk'' b o J L ((wA _ _ (Ne.symm L)).trans (hk' b o J e))
  |false=>
   simp only[zZ,if_false];refine zb (yx ?_);rw[nm]
   refine zf ⟨plainId_quiet F.plain_min_loop _,ih (j+1) _ O c w5 ac hst' (by simp only[argBest,hb,zZ,if_false];exact Y) hS' λv' h'' tk'' hP' hk''=>?_⟩
   exact hR v' h'' tk'' hP' λb o J L e=>hk'' b o J L (hk' b o J e)
def ze0(W:Walks prog w A.in1 I fp wr n P St)(bt:Nat->Nat->Bool)(L:zX2 prog w A.in1 P St bt)(S:Addr)(J:S ∉ fp)(hn:0<n){s:Shared}{c:Nat}(aa:St 0 s.heap)(hS:s.heap.get? S=some (seqObj "list" #[] c))
  (hR:∀v h' tk,P (argBest bt (n-1)) v->(∀b o,b ∉ wr->b≠S->s.heap.get? b=some o->h'.get? b=some o)->R (.ok (.ret v)) { s with heap:=h',toks:=tk }):codeAny (model prog w) A (.builtin "min.loop" ⟨[.ref I,.none,.ref S],[]⟩) R s:=by
 have ad:S ∉ wr:=λh=>J (W.sub _ h)
 have nm:(toString "min" ++ toString ".loop" : String) = "min.loop" := by decide
 refine codeAny_builtin F.entry_min_loop ?_;rw[Around.under_plainId F.plain_min_loop _];refine zb (m:=seqItems? (.ref S)) (wu hS rfl (zb (m:=tryCatch (pyNext (.ref I)) _) (wpAny_tryCatch (W.item 0 s _ _ hn aa λv h' tk hP hst' hk'=>?_))));have hS':=hk' S _ ad hS;refine zb (m:=updateSeq S (λ_=>#[v,v])) (wpAny_updateSeq hS' rfl ?_);rw[nm]
 refine zf ⟨plainId_quiet F.plain_min_loop _,zo9 W bt L S J _ 0 _ v _ rfl hn (W.frame _ _ _ hst' λb ac o e=>(wA _ _ (λh:S=b=>J (by rw[h];exact ac))).trans e) hP (xT _ hS' rfl) λv' h'' tk'' hP' hk''=>?_⟩
 exact hR v' h'' tk'' hP' λb o O Y e=>hk'' b o O Y ((wA _ _ (Ne.symm Y)).trans (hk' b o O e))
def zo8{E:QqV}{s:Shared}{x:Value}{Q:QqV}
  (h : wpAny (model prog w) A.in1 (pyIter x) (λit J => ∃ I fp wr n P St bt, it = .ref I /\ Walks prog w A.in1 I fp wr n P St /\ St 0 J.heap /\ (∀ b ∈ fp, b < J.heap.objs.size) /\ 0 < n /\ zX2 prog w A.in1 P St bt /\
   ∀v h' O,P (argBest bt (n-1)) v->(∀b o,b ∉ wr->J.heap.get? b=some o->h'.get? b=some o)->Q v { J with heap:=h',toks:=O }) E s):wpAny (model prog w) A (call (.builtin "min") [x]) Q E s:=by
 have nm:(toString "min" ++ toString ".loop" : String) = "min.loop" := by decide
 refine call_function_tree F.kind_min F.plain_min F.entry_min (F.args_min1 _) ?_;refine zb (m:=Builtin.Builtins.bindParams "min" ["key","default"] 0 ⟨[],[]⟩) (wpAny_of_eq (show Builtin.Builtins.bindParams "min" ["key","default"] 0 ⟨[],[]⟩=pure [none,none] from rfl) (zb (zf (zb (wM h (λit J h₂=>?_) λ_ _ e=>e)))));obtain⟨I,fp,wr,n,P,St,bt,rfl,W,Y,aa,hn,L,hQ⟩:=h₂;refine zb (xz ?_);rw[nm];refine zf ⟨plainId_quiet F.plain_min_loop _,ze0 W bt L J.heap.objs.size (λhm=>xj _ (aa _ hm)) hn (W.frame _ _ _ Y λb _ o e=>ze _ e) (zr _ rfl) λv h' O hP hk=>?_⟩;exact hQ v h' O hP λb o ac e=>hk b o ac (zx (zo e)) (ze _ e)
end
def ltP(a b:QqP):Bool:=HT.ku [a.1,a.2] [b.1,b.2]
def kQ{a b:QqP}:ltP a b=true↔a.1<b.1\/(a.1=b.1/\a.2<b.2):=by
 unfold ltP HT.ku HT.ku HT.ku
 by_cases h:a.1=b.1
 ·by_cases J : a.2 = b.2
  ·simp[h,J]
  ·simp[h,J]
 ·simp[h]
def jx(a:QqP):ltP a a=false:=by
 cases h:ltP a a with
 |false=>rfl
 |true=>rw[kQ] at h;lia
def XT{a b c:QqP}(h1:ltP a b=true)(J:ltP b c=true):ltP a c=true:=by
 rw[kQ] at *;lia
theorem Wo{bt:Nat->Nat->Bool}(hi:∀a,bt a a=false)(ht:∀a b c,bt a b=true->bt b c=true->bt a c=true):∀k,argBest bt k<=k/\∀i,i<=k->bt i (argBest bt k)=false
 |0=>⟨zn _,λi h=>by
  have e:i=0:=w5
  subst e;exact hi 0⟩
 | k + 1 => by
  obtain⟨h1,L⟩:=Wo hi ht k
  cases J:bt (k+1) (argBest bt k) with
  | true =>
   have e:argBest bt (k+1)=k+1:=by simp only[argBest,J,if_true]
   rw[e];refine⟨zn _,λi h=>?_⟩
   by_cases hk:i=k+1
   ·subst hk;exact hi _
   ·cases O : bt i (k + 1) with
    |false=>rfl
    |true=>
     have z:=ht _ _ _ O J
     rw[L i w5] at z
     cases z
  |false=>
   have e:argBest bt (k+1)=argBest bt k:=by simp only[argBest,J,zZ,if_false]
   rw[e]
   refine⟨w5,λi h=>?_⟩
   by_cases hk:i=k+1
   ·subst hk;exact J
   ·exact L i w5
section
variable {X:Cx}{A:AC}
def Uw(h:Heap)(ks:List (Int × Int))(bs:List Addr):Prop:=∀(i:Nat) (k:QqP) (b:Addr),ks[i]?=some k->bs[i]?=some b->∃its:List Value,IsTup h b its.toArray/\Vals [.int k.1,.int k.2] its
def zv1(hc:X.calm=true)(hu:X.A.units+1<cLine):kW X (.builtin "min") (λxs H Q=>∃(p:Addr) (ks:List (Int × Int)) (bs:List Addr),xs=[.ref p]/\SqL X.K H p (bs.map V.ref)/\0<ks.length/\bs.length=ks.length /\
  (∀(i:Nat) (k:QqP) (b:Addr),ks[i]?=some k->bs[i]?=some b->SqT X.K H b [.int k.1,.int k.2])/\∀(j:Nat) (k:QqP) (b:Addr),ks[j]?=some k->bs[j]?=some b->(∀k'∈ks,ltP k' k=false)->Q (.ref b) H):=by
 intro af s σ H xs us Q I r h;obtain⟨p,ks,bs,rfl,hq,hn,J,ad,q⟩:=h
 cases r with
 | cons r rr =>
  cases rr;cases r;obtain⟨its,rv,pl,_⟩:=I.list hq;have hl:=pl.isList
  have ae:p<s.heap.objs.size:=by obtain⟨_,e,_⟩:=hl;exact zo e
  have hsz:its.length=bs.length:=by have:=rv.length;simpa using this.symm
  have aa:∀(i:Nat) (v:Value),its[i]?=some v->∃b,bs[i]?=some b/\v=.ref b:=λi v e=>by
   have hi:i<bs.length:=by rw[<- hsz];exact(zu.mp e).1
   obtain⟨u,L,e2⟩:=rv.get (i:=i) (x:=V.ref bs[i]) (by simp[hi])
   rw[e] at L;cases L;exact⟨bs[i],zd hi,e2⟩
  have ac:Uw s.heap ks bs:=λi k b L e2=>by
   obtain⟨W,r2,p2,_⟩:=I.tuple (ad i k b L e2);exact⟨W,p2,r2⟩
  have O:∀{h h':Heap},Uw h ks bs->(∀b∈bs,∀o,h.get? b=some o->h'.get? b=some o)->Uw h' ks bs:=λ{h h'} ok kp i k b L e2=>by
   obtain⟨W,⟨o,ho,t⟩,r2⟩:=ok i k b L e2;exact⟨W,⟨o,kp b (zQ e2) o ho,t⟩,r2⟩
  have bsz:∀b∈bs,b<s.heap.objs.size:=λb Y=>by
   obtain⟨i,hi⟩:=List.mem_iff_getElem?.mp Y
   have hi':i<ks.length:=by rw[<- J];exact(zu.mp hi).1
   obtain⟨_,⟨o,ho,_⟩,_⟩:=ac i ks[i] b (zd hi') hi;exact zo ho
  refine zo8 (wQ hl ⟨s.heap.objs.size,[s.heap.objs.size,p]++bs,[s.heap.objs.size],its.toArray.size,_,_,λi j=>ltP (ks[i]?.getD (0,0)) (ks[j]?.getD (0,0)),rfl,
   Walks.more (bs:=bs) (Ok:=λh=>Uw h ks bs) (Walks.list (A:=X.A.in1) (I.ok.hd hc) _ p (zx ae) _) (λb Y z=>by rw[zF.mp z] at Y;exact xj _ (bsz _ Y)) (λh h' ok kp=>O ok kp),
   ⟨⟨⟨_,zr _ rfl,rfl,rfl⟩,hl.push _⟩,O ac λb _ o e=>ze _ e⟩,λb Y=>?_,?_,λt i j vi vj s' Q' E' st hi hj hQ=>?_,λv h' tk hP hk=>?_⟩)
  ·rcases zS.mp Y with Y | Y
   ·simp only [zk, xg, or_false] at Y
    rcases Y with rfl |rfl
    ·simp[Heap.push]
    ·exact yH ae (by simp[Heap.push])
   ·exact yH (bsz b Y) (by simp[Heap.push])
  ·rw[zq,hsz,J];exact hn
  ·obtain ⟨b1, L, rfl⟩ := aa i vi (by simpa using hi)
   obtain⟨b2,e2,rfl⟩:=aa j vj (by simpa using hj)
   have h1:i<ks.length:=by rw[<- J];exact(zu.mp L).1
   have h2:j<ks.length:=by rw[<- J];exact(zu.mp e2).1
   obtain⟨i1,p1,r1⟩:=st.2 i ks[i] b1 (zd h1) L;obtain⟨i2,p2,r2⟩:=st.2 j ks[j] b2 (zd h2) e2;dsimp only at hQ;rw[zd h1,zd h2] at hQ;exact(HT.Yz (ns:=[ks[i].1,ks[i].2]) (ms:=[ks[j].1,ks[j].2]) p1 p2 (vy r1) (vy r2) hu hQ:wpAny (model X.prog X.w) X.A.in1 (compareOp .Lt _ _) Q' E' s')
  ·obtain ⟨m1, m2⟩ := Wo (bt := λi j => ltP (ks[i]?.getD (0, 0)) (ks[j]?.getD (0, 0))) (λa => jx _) (λa b c x y => XT x y) (its.toArray.size - 1)
   obtain⟨b,L,rfl⟩:=aa _ v (by simpa using hP)
   generalize argBest (λi j=>ltP (ks[i]?.getD (0,0)) (ks[j]?.getD (0,0))) (its.toArray.size-1)=m at *
   have h1:m<ks.length:=by rw[<- J];exact(zu.mp L).1
   refine⟨.ref b,H,I.kept (UV hk),rfl,q m ks[m] b (zd h1) L λk' hk'=>?_⟩;obtain⟨i,hi,rfl⟩:=yJ.mp hk'
   have z:=m2 i (by rw[zq,hsz,J];lia)
   rw[zd hi,zd h1] at z;exact z
def WU{K:W.Frag}{G:QqE}{Z:QqA}{H:Hp}:∀{ks:List (Int × Int)}{xs:List V},Reps K G Z H (ks.map λk=>.tup [.int k.1,.int k.2]) xs->∃bs:List Addr,xs=bs.map V.ref/\bs.length=ks.length /\
  ∀(i:Nat) (k:QqP) (b:Addr),ks[i]?=some k->bs[i]?=some b->Rep K G Z H (.tup [.int k.1,.int k.2]) (.ref b)
 |[],xs,h=>⟨[],h.nil_inv,rfl,λi k b e _=>by simp at e⟩
 | k :: ks, xs, h => by
  obtain⟨v,r,rfl,q,t⟩:=Reps.split h;obtain⟨bs,rfl,Y,hb⟩:=WU t;obtain⟨b,ys,rfl,sq,O⟩:=q.tup_inv
  refine⟨b::bs,rfl,by rw[zI,zI,Y],λi k' b' L J=>?_⟩
  cases i with
  |zero=>
   rw[List.getElem?_cons_zero] at L J;cases L;cases J;exact .tup_mk sq O
  |succ i=>
   rw[List.getElem?_cons_succ] at L J;exact hb i k' b' L J
def xF3:List D->(D->Prop)->Prop:=λes k=>∃ks:List (Int × Int),es=[.lst (ks.map λk=>.tup [.int k.1,.int k.2])]/\0<ks.length/\∀m∈ks,(∀k'∈ks,ltP k' m=false)->k (.tup [.int m.1,.int m.2])
def zW0:vA A (λxs H Q=>∃(p:Addr) (ks:List (Int × Int)) (bs:List Addr),xs=[.ref p]/\SqL A.K H p (bs.map V.ref)/\0<ks.length/\bs.length=ks.length /\
  (∀(i:Nat) (k:QqP) (b:Addr),ks[i]?=some k->bs[i]?=some b->SqT A.K H b [.int k.1,.int k.2])/\∀(j:Nat) (k:QqP) (b:Addr),ks[j]?=some k->bs[j]?=some b->(∀k'∈ks,ltP k' k=false)->Q (.ref b) H) xF3:=by
 rintro os n rho sg H ds vs es ws k Q I W ⟨ks,rfl,hn,q⟩ hQ;obtain⟨v,rfl,r⟩:=kO W;obtain⟨a,xs,rfl,sq,Y⟩:=r.lst_inv;obtain⟨bs,rfl,hl,O⟩:=WU Y;refine⟨a,ks,bs,rfl,sq.sq,hn,hl,λi k b J L=>?_,λj k b J L hm=>hQ _ _ _ ⟨os,I.push (O j k b J L)⟩ (q k (zQ J) hm)⟩;obtain⟨b',e,sq'⟩:=Zr (O i k b J L);cases e;exact sq'
end
def Jj(x:Nat):Nat:=(x*2147483648)%18446744073709551616+x/8589934592
def zj9{x:Nat}(h:x<18446744073709551616):Jj x<18446744073709551616:=by
 unfold Jj;lia
def zy9{x y:Nat}(hx:x<18446744073709551616)(Y:y<18446744073709551616)(h:Jj x=Jj y):x=y:=by
 unfold Jj at h;have W:(x*2147483648)%18446744073709551616=(x%8589934592)*2147483648:=Nat.mul_mod_mul_right 2147483648 x 8589934592;have O:(y*2147483648)%18446744073709551616=(y%8589934592)*2147483648:=Nat.mul_mod_mul_right 2147483648 y 8589934592;rw[W,O] at h
 have h1:x/8589934592<2147483648:=w5
 have h2:y/8589934592<2147483648:=w5
 generalize hq:x/8589934592=q at *;generalize hq':y/8589934592=q' at *;generalize hr:x%8589934592=r at *;generalize hr':y%8589934592=r' at *
 have L:x=8589934592*q+r:=w5
 have J:y=8589934592*q'+r':=w5
 omega +splitDisjunctions
def zo4{a b:Nat}(ha:a<18446744073709551616)(L:b<18446744073709551616)(h:a*11400714785074694791%18446744073709551616=b*11400714785074694791%18446744073709551616):a=b:=by
 have key:∀c,c<18446744073709551616->(c*11400714785074694791%18446744073709551616)*614540362697595703%18446744073709551616=c:=λc J=>by
  rw[Nat.mod_mul_mod,Nat.mul_assoc]
  have e:11400714785074694791*614540362697595703=18446744073709551616*(11400714785074694791*614540362697595703/18446744073709551616)+1:=w6
  rw[e,Nat.mul_add,Nat.mul_one,<- Nat.mul_assoc,Nat.mul_comm c,Nat.mul_assoc,Nat.mul_add_mod];exact Nat.mod_eq_of_lt J
 rw[<- key a ha,<- key b L,h]
def jy(J h:Nat):Nat:=Jj ((J+h*14029467366897019727)%18446744073709551616)*11400714785074694791%18446744073709551616
def Ue(J h:Nat):jy J h<18446744073709551616:=yG _ w6
def zp6{a b h g:Nat}(e:jy a h=jy b g):(a+h*14029467366897019727)%18446744073709551616=(b+g*14029467366897019727)%18446744073709551616:=
 zy9 (yG _ w6) (yG _ w6) (zo4 (zj9 (yG _ w6)) (zj9 (yG _ w6)) e)
def zD8(m p1 p2 L J:Nat)(a h:Nat):Nat:=(((a+h*p2)%m*L)%m+(a+h*p2)%m/J)*p1%m
def zf1(m J:Nat)(a:Nat):Int:=if a == m-1 then 1546275796 else if a<J then a else(a:Int)-m
def xH3(m p1 p2 W O L J x:Nat)(hs:List Int):Int:=zf1 m J ((hs.foldl (λa h=>zD8 m p1 p2 O L a (h%(m:Int)).toNat) W+(hs.length ^^^ (W ^^^ x)))%m)
def zx9(m p1 p2 W L J O x:Nat)(h g:Int):xH3 m p1 p2 W L J O x [h,g]=zf1 m O ((zD8 m p1 p2 L J (zD8 m p1 p2 L J W (h%(m:Int)).toNat) (g%(m:Int)).toNat+(2 ^^^ (W ^^^ x)))%m):=rfl
def zx8(hs:List Int):Builtin.Tuple.tupleHashOf hs=xH3 (2^64) 11400714785074694791 14029467366897019727 2870177450012600261 (2^31) (2^33) (2^63) 3527539 hs:=rfl
def zp7(a h:Nat):zD8 18446744073709551616 11400714785074694791 14029467366897019727 2147483648 8589934592 a h=jy a h:=rfl
def zI0(h g:Int):Builtin.Tuple.tupleHashOf [h,g]=zf1 18446744073709551616 9223372036854775808 ((jy (jy 2870177450012600261 (h%18446744073709551616).toNat) (g%18446744073709551616).toNat+2870177450013471924)%18446744073709551616):=by
 rw[zx8,zx9,<- zp7,<- zp7]
 have e1:(2^64:Nat)=18446744073709551616:=w6
 have Y:(2^31:Nat)=2147483648:=w6
 have W:(2^33:Nat)=8589934592:=w6
 have O:(2^63:Nat)=9223372036854775808:=w6
 rw[e1,Y,W,O]
 have L:((18446744073709551616:Nat):Int)=18446744073709551616:=w6
 have J:2 ^^^ (2870177450012600261 ^^^ 3527539)=2870177450013471924:=w6
 rw[L,J]
def zF6{a b:Nat}(ha:a<18446744073709551616)(W:b<18446744073709551616)(h:zf1 18446744073709551616 9223372036854775808 a=zf1 18446744073709551616 9223372036854775808 b):a=b\/a=18446744073709551615\/b=18446744073709551615:=by
 unfold zf1 at h
 by_cases h1:a=18446744073709551615
 ·exact .inr (.inl h1)
 ·by_cases J : b = 18446744073709551615
  ·exact .inr (.inr J)
  ·have O : (a == 18446744073709551616 - 1) = false := by simpa using h1
   have L:(b == 18446744073709551616-1)=false:=by simpa using J
   rw[O,L] at h;simp only[zZ,if_false] at h
   split at h<;>split at h<;>lia
def Mid(h:Int):Prop:=-1000000000000000000<h/\h<1000000000000000000
def zk0{x:Nat}(hx:x<18446744073709551616):Jj x=(x%8589934592)*2147483648+x/8589934592:=by
 unfold Jj;rw[show(x*2147483648)%18446744073709551616=(x%8589934592)*2147483648 from Nat.mul_mod_mul_right 2147483648 x 8589934592]
def ze6{x y:Nat}(hx:x<18446744073709551616)(hy:y<18446744073709551616){r:Int}(h0:0<=r)(h1:r<18446744073709551616)(h:∃k:Int,(Jj x:Int)-Jj y=r+18446744073709551616*k) :
  ∃W O:Int,(W=0\/W=1)/\(O=0\/O=1)/\∃k:Int,(x:Int)-y=8589934592*(r%2147483648)+r/2147483648+W-8589934592*O+18446744073709551616*k:=by
 obtain⟨k,h⟩:=h;rw[zk0 hx,zk0 hy] at h
 have hr:r=2147483648*(r/2147483648)+r%2147483648:=w5
 have r1:0<=r%2147483648/\r%2147483648<2147483648:=w5
 have r2:0<=r/2147483648/\r/2147483648<8589934592:=w5
 generalize r/2147483648=B at *;generalize r%2147483648=A at *
 have ex:(x:Int)=8589934592*(x/8589934592:Nat)+(x%8589934592:Nat):=w5
 have ey:(y:Int)=8589934592*(y/8589934592:Nat)+(y%8589934592:Nat):=w5
 have x1:x/8589934592<2147483648:=w5
 have y1:y/8589934592<2147483648:=w5
 have x2:x%8589934592<8589934592:=w5
 have y2:y%8589934592<8589934592:=w5
 generalize x/8589934592=xa at *;generalize y/8589934592=Y at *;generalize x%8589934592=L at *;generalize y%8589934592=J at *
 have e:(L:Int)*2147483648+xa-(J*2147483648+Y)=2147483648*B+A+18446744073709551616*k:=w5
 obtain⟨u,hu⟩:∃u:Int,(xa:Int)-Y-A=2147483648*u:=⟨B+8589934592*k-(L-J),w5⟩
 have aa:u=0\/u=-1:=w5
 have hb:(L:Int)-J=B+8589934592*k-u:=w5
 have ac:k=0\/k=-1:=w5
 exact⟨-u,-k,w5,w5,u,w5⟩
def Yy(N M:Nat):∃q:Int,(N:Int)=M*q+((N%M:Nat):Int):=⟨((N/M:Nat):Int),by
 have:=Nat.div_add_mod N M
 rw[<- Int.natCast_mul,<- Int.natCast_add,this]⟩
def zD6{a b n m M p1 p2:Nat}(h:(a*p1%M+n*p2)%M=(b*p1%M+m*p2)%M):∃k:Int,((a:Int)-b)*p1=((m:Int)-n)*p2+M*k:=by
 obtain⟨Y,e3⟩:=Yy (a*p1) M;obtain⟨W,e4⟩:=Yy (b*p1) M;obtain⟨O,J⟩:=Yy (a*p1%M+n*p2) M;obtain⟨L,e6⟩:=Yy (b*p1%M+m*p2) M;rw[h] at J;simp only[Int.natCast_add,Int.natCast_mul] at e3 e4 J e6;generalize ((a*p1%M:Nat):Int)=ra at *;generalize ((b*p1%M:Nat):Int)=rb at *;generalize (((b*p1%M+m*p2)%M:Nat):Int)=rc at *
 exact⟨Y-W+O-L,by grind⟩
def zq9{d p M k t i q:Int}(h:d*p=t+M*k)(hi:i*p=M*q+1):∃k,d=t*i+M*k:=⟨i*k-q*d,by grind⟩
def zT7{J g h p2 M:Nat}{z k:Int}(e:(((J+g*p2)%M:Nat):Int)-((J+h*p2)%M:Nat)=z+M*k):∃k:Int,((g:Int)-h)*p2=z+M*k:=by
 obtain⟨O,Y⟩:=Yy (J+g*p2) M;obtain⟨L,W⟩:=Yy (J+h*p2) M;simp only[Int.natCast_add,Int.natCast_mul] at Y W;generalize (((J+g*p2)%M:Nat):Int)=ra at *;generalize (((J+h*p2)%M:Nat):Int)=rb at *
 exact⟨k+O-L,by grind⟩
def zh6{d z M k:Int}(h:d=z+M*k):d%M=z%M:=by rw[h,Int.add_mul_emod_self_left]
def xn7(t:Int):Int:=(t*14029467366897019727*614540362697595703)%18446744073709551616
def Xb(t L J:Int):Int:=((8589934592*(xn7 t%2147483648)+xn7 t/2147483648+L-8589934592*J)*839798700976720815)%18446744073709551616
def XU{g h n m:Nat}(e:jy (jy 2870177450012600261 g) n=jy (jy 2870177450012600261 h) m):∃L J:Int,(L=0\/L=1)/\(J=0\/J=1)/\((g:Int)-h)%18446744073709551616=Xb ((m:Int)-n) L J:=by
 have e1:=zp6 e;obtain⟨k,e2⟩:=zD6 (a:=Jj ((2870177450012600261+g*14029467366897019727)%18446744073709551616)) (b:=Jj ((2870177450012600261+h*14029467366897019727)%18446744073709551616)) (n:=n) (m:=m) (M:=18446744073709551616) (p1:=11400714785074694791) (p2:=14029467366897019727) e1
 obtain⟨k2,e3⟩:=zq9 (i:=614540362697595703) (q:=379806830464837242) e2 w6
 have e4:=zh6 e3
 have W:0<=xn7 ((m:Int)-n)/\xn7 ((m:Int)-n)<18446744073709551616:=⟨wJ _ w6,yb _ w6⟩
 obtain⟨L,J,O,hc2,k3,e5⟩:=ze6 (yG _ w6) (yG _ w6) W.1 W.2 ⟨_,by
  have z:=Int.emod_add_mul_ediv ((Jj ((2870177450012600261+g*14029467366897019727)%18446744073709551616):Int)-Jj ((2870177450012600261+h*14029467366897019727)%18446744073709551616)) 18446744073709551616;rw[show(Jj ((2870177450012600261+g*14029467366897019727)%18446744073709551616)-Jj ((2870177450012600261+h*14029467366897019727)%18446744073709551616):Int)%18446744073709551616=xn7 ((m:Int)-n) from e4] at z
  exact z.symm⟩
 obtain⟨k4,e6⟩:=zT7 (M:=18446744073709551616) e5
 obtain⟨k5,Y⟩:=zq9 (i:=839798700976720815) (q:=638699622168397319) e6 w6
 exact⟨L,J,O,hc2,zh6 Y⟩
def xu6(e:Int):Int:=if e<9223372036854775808 then e else e-18446744073709551616
def okC(e:Int):Bool:=decide (20000<(xu6 (e%18446744073709551616)+10000)%1000000000000000)
def xn1(k:Nat):Bool:=okC (Xb k 0 0)&&okC (Xb k 0 1)&&okC (Xb k 1 0)&&okC (Xb k 1 1)
def xn0(k:Nat):Bool:=okC (Xb (-k) 0 0+926380684836714815)&&okC (Xb (-k) 0 1+926380684836714815)&&okC (Xb (-k) 1 0+926380684836714815)&&okC (Xb (-k) 1 1+926380684836714815)
def xn8(f:Nat->Bool):Nat->Bool
 |0=>true
 |n+1=>f n&&xn8 f n
theorem Qi{f:Nat->Bool}:∀{n k:Nat},xn8 f n=true->k<n->f k=true
 |0,k,_,h=>by lia
 |n+1,k,e,h=>by
  unfold xn8 at e;rw[zL] at e
  by_cases hk:k=n
  ·rw[hk];exact e.1
  ·exact Qi e.2 w5
def zS1:xn8 (λk=>xn1 (k+1)) 2000=true:=x3
def zS0:xn8 xn0 2000=true:=x3
def Jz{k:Int}(h:Mid k):rawHash k=if k=-1 then -2 else k:=by
 obtain⟨h1,L⟩:=h
 have e:((k.natAbs:Nat):Int)%((2^61-1:Nat):Int)=(k.natAbs:Int):=Int.emod_eq_of_lt w5 w5
 unfold rawHash;rw[e];dsimp only
 have J:(if k<0 then -(k.natAbs:Int) else(k.natAbs:Int))=k:=by split<;>lia
 rw[J]
 by_cases hk:k=-1
 ·rw[if_pos (by simpa using hk),if_pos hk]
 ·rw[if_neg (by simpa using hk),if_neg hk]
def Wb{k:Int}(h:Mid k):hashInt k=if k=-1 then -2 else k:=by
 unfold hashInt;rw[Jz h]
 by_cases hk:k=-1
 ·rw[if_pos hk];rfl
 ·rw[if_neg hk,if_neg (by simpa using hk)]
def zk1{a:Nat}(ha:a<18446744073709551616):reduceHash (zf1 18446744073709551616 9223372036854775808 a)=zf1 18446744073709551616 9223372036854775808 a:=by
 have b:-9223372036854775808<=zf1 18446744073709551616 9223372036854775808 a/\zf1 18446744073709551616 9223372036854775808 a<9223372036854775808/\zf1 18446744073709551616 9223372036854775808 a≠-1:=by
  unfold zf1
  by_cases h1:a=18446744073709551615
  ·rw[if_pos (by simpa using h1)];decide
  ·rw [if_neg (by simpa using h1)]
   split<;>lia
 generalize zf1 18446744073709551616 9223372036854775808 a=x at b;unfold reduceHash
 have J:(decide (-(2^63:Int)<=x)&&decide (x<2^63))=true:=by
  rw[zL,wF,wF];lia
 rw[if_pos J,if_neg (by simpa using b.2.2)]
def FormK(k:Int):Prop:=(∃a e:Int,k=1000000000000000*a+e/\-4500<=e/\e<=4500)/\-900000000000000000<k/\k<900000000000000000
def zr9{h E a e:Int}(h1:h=1000000000000000*a+e)(h2:-10000<=e)(Y:e<=10000)(W:-9000000000000000000<h)(O:h<9000000000000000000)(J:h%18446744073709551616=E%18446744073709551616)(ok:okC E=true):False:=by
 have o:=of_decide_eq_true ok;rw[<- J] at o
 have L:xu6 (h%18446744073709551616)=h:=by unfold xu6;split<;>lia
 rw[L] at o;lia
def zD7{a b:Nat}(ha:a<18446744073709551616)(J:b<18446744073709551616)(h:(a+2870177450013471924)%18446744073709551616=(b+2870177450013471924)%18446744073709551616):a=b:=w5
def FormK.hash{k:Int}(h:FormK k):∃a e:Int,hashInt k=1000000000000000*a+e/\-4501<=e/\e<=4501/\-900000000000000001<hashInt k/\hashInt k<900000000000000001:=by
 obtain⟨⟨a,e,h1,W,O⟩,L,J⟩:=h
 rw[Wb ⟨w5,w5⟩]
 by_cases hk:k=-1
 ·rw [if_pos hk]
  exact⟨0,-2,w5,w5,w5,w5,w5⟩
 ·rw [if_neg hk]
  exact⟨a,e,h1,w5,w5,w5,w5⟩
def Kh{n:Int}(h0:0<=n)(h1:n<2000):(((hashInt n)%18446744073709551616).toNat:Int)=n:=by
 rw[Wb ⟨w5,w5⟩,if_neg w5]
 lia
def zu9{g h:Nat}{t:Nat}{x y:Int}(hx:(g:Int)=x%18446744073709551616)(hy:(h:Int)=y%18446744073709551616){W O:Int}(Y:W=0\/W=1)(hc2:O=0\/O=1)(e:((g:Int)-h)%18446744073709551616=Xb ((t+1:Nat):Int) W O)(ht:t<2000)
  {a b L J:Int} (h1:x=1000000000000000*a+L) (h2:-4501<=L) (h3:L<=4501) (h4:-900000000000000001<x) (h5:x<900000000000000001) (g1:y=1000000000000000*b+J) (g2:-4501<=J) (g3:J<=4501) (g4:-900000000000000001<y) (g5:y<900000000000000001):False:=by
 have o:=Qi zS1 ht;unfold xn1 at o;simp only[zL] at o;obtain⟨⟨⟨o1,o2⟩,o3⟩,o4⟩:=o
 have ok:okC (Xb ((t+1:Nat):Int) W O)=true:=by
  rcases Y with rfl |rfl<;>rcases hc2 with rfl |rfl
  ·exact o1
  ·exact o2
  ·exact o3
  ·exact o4
 refine zr9 (h:=x-y) (a:=a-b) (e:=L-J) w5 w5 w5 w5 w5 ?_ ok
 rw[<- e,hx,hy];lia
def zr4{k l n m:Int}(hk:FormK k)(hl:FormK l)(n0:0<=n)(n1:n<2000)(m0:0<=m)(m1:m<2000)(Y:n≠m):WI (k,n)≠WI (l,m):=λe=>by
 obtain⟨a,O,h1,h2,h3,h4,h5⟩:=hk.hash;obtain⟨b,eb,g1,g2,g3,g4,g5⟩:=hl.hash;have e':reduceHash (Builtin.Tuple.tupleHashOf [hashInt k,hashInt n])=reduceHash (Builtin.Tuple.tupleHashOf [hashInt l,hashInt m]):=e
 rw[zI0,zI0,zk1 (yG _ w6),zk1 (yG _ w6)] at e'
 have en:=Kh n0 n1;have em:=Kh m0 m1
 have ek:((((hashInt k)%18446744073709551616).toNat:Nat):Int)=hashInt k%18446744073709551616:=Int.toNat_of_nonneg (wJ _ w6)
 have el:((((hashInt l)%18446744073709551616).toNat:Nat):Int)=hashInt l%18446744073709551616:=Int.toNat_of_nonneg (wJ _ w6)
 generalize (hashInt n%18446744073709551616).toNat=n' at *;generalize (hashInt m%18446744073709551616).toNat=m' at *;generalize (hashInt k%18446744073709551616).toNat=k' at *;generalize (hashInt l%18446744073709551616).toNat=l' at *
 have W:∀(g L:Nat) (x:Int) (a O:Int),(g:Int)=x%18446744073709551616->L<2000->x=1000000000000000*a+O->-4501<=O->O<=4501->-900000000000000001<x->x<900000000000000001->(jy (jy 2870177450012600261 g) L+2870177450013471924)%18446744073709551616=18446744073709551615->False:=λg L x a O hx hn i1 i2 i3 i4 i5 z=>by
  have z1:jy (jy 2870177450012600261 g) L=15576566623696079691:=by
   have:=Ue (jy 2870177450012600261 g) L;lia
  have z2:jy (jy 2870177450012600261 926380684836714815) 0=15576566623696079691:=x3
  obtain⟨c1,c2,J,hc2,z3⟩:=XU (z1.trans z2.symm);have o:=Qi zS0 hn;unfold xn0 at o;simp only[zL] at o;obtain⟨⟨⟨o1,o2⟩,o3⟩,o4⟩:=o
  have et:((0:Nat):Int)-(L:Int)=-(L:Int):=w5
  rw[et] at z3
  have ok:okC (Xb (-(L:Int)) c1 c2+926380684836714815)=true:=by
   rcases J with rfl |rfl<;>rcases hc2 with rfl |rfl
   ·exact o1
   ·exact o2
   ·exact o3
   ·exact o4
  refine zr9 i1 w5 w5 w5 w5 ?_ ok
  rw[<- z3,<- hx]
  have:((926380684836714815:Nat):Int)=926380684836714815:=w6
  rw[this];lia
 rcases zF6 (yG _ w6) (yG _ w6) e' with z |z |z
 ·have z1 := zD7 (Ue ..) (Ue ..) z
  rcases Int.lt_or_gt_of_ne Y with aa |ac
  ·obtain ⟨c1, c2, J, hc2, z3⟩ := XU z1
   obtain⟨t,ht⟩:∃t:Nat,(m':Int)-n'=((t+1:Nat):Int):=⟨(m-n-1).toNat,w5⟩
   rw[ht] at z3
   exact zu9 ek el J hc2 z3 w5 h1 h2 h3 h4 h5 g1 g2 g3 g4 g5
  ·obtain ⟨c1, c2, J, hc2, z3⟩ := XU z1.symm
   obtain⟨t,ht⟩:∃t:Nat,(n':Int)-m'=((t+1:Nat):Int):=⟨(n-m-1).toNat,w5⟩
   rw[ht] at z3
   exact zu9 el ek J hc2 z3 w5 g1 g2 g3 g4 g5 h1 h2 h3 h4 h5
 ·exact W k' n' _ a O ek w5 h1 h2 h3 h4 h5 z
 ·exact W l' m' _ b eb el w5 g1 g2 g3 g4 g5 z
end L2
namespace HT
def ZS(ns ms:List Int):Bool:=!ku ms ns
def Ud:ZS [] []=true:=rfl
def WG{c:Int}{ms:List Int}:ZS [] (c::ms)=true:=rfl
def WH{a:Int}{ns:List Int}:ZS (a::ns) []=false:=rfl
def ze4{a c:Int}{ns ms:List Int}:ZS (a::ns) (c::ms)=if a=c then ZS ns ms else decide (a<=c):=by
 unfold ZS;rw[kZ]
 by_cases h:a=c
 ·rw[if_pos h.symm,if_pos h]
 ·rw [if_neg (Ne.symm h), if_neg h]
  by_cases l:c<a
  ·rw[xm l,zN w5];rfl
  ·rw[zN l,xm w5];rfl
def zz7(A:Around)(s:Shared)(a:Int)(t:Tok)(c:Int)(u:Tok)(prog:Program)(w:World)(E:QqV)(Q:QqV)(h:Q (.bool (decide (a<=c))) s) :
  wpAny (model prog w) A (richCompare .LtE (.int a t) (.int c u)) Q E s:=
 (PyProof.Rows.le_int h:wpAny (model prog w) A (compareOp .LtE (.int a t) (.int c u)) Q E s)
section
open PySem.SeqAt
open PySem.AutoSeq1 (wpAny_loadPart')
open PySem.MeetsSeq PySem.MeetsSeq2 PySem.MeetsSeq3
def Vv(l b:Addr)(items J:Array Value)(n n2:Nat)(dd ag:QqE)(sl ad:Array (Option Value))(ns ms:List Int)(hi:IntsAre items.toList ns)(hj:IntsAre J.toList ms) :
  Meets (Builtin.«tuple.__le__» ⟨[.ref l,.ref b],[]⟩)
   (λ_ R s => s.heap.get? l = some { cls := .type "tuple", dict := dd, data := .seq items n, slots := sl } /\ s.heap.get? b = some { cls := .type "tuple", dict := ag, data := .seq J n2, slots := ad } /\
    R (.ok (.ret (.bool (ZS ns ms)))) s):=
 .of_wp λprog w A R s h=>by
  obtain⟨hp,g,d,tk,os⟩:=s;obtain⟨hl,hb,h⟩:=h;have f2:=AutoSeq1.sub_tuple_tuple
  have z1:items.size=ns.length:=by rw[<- hi.length];simp
  have z2:J.size=ms.length:=by rw[<- hj.length];simp
  wp_walk using wpAny_loadPart' hl,wpAny_loadPart' hb,wpAny_forIn_list _ (λrest b s'=>b.1=none/\s'=⟨hp,g,d,tk,os⟩/\∃(vs ws:QqW) (ns' ms':List Int),rest=vs.zip ws /\
   IntsAre vs ns'/\IntsAre ws ms'/\ns'.length+J.size=ms'.length+items.size/\R (.ok (.ret (.bool (ZS ns' ms')))) ⟨hp,g,d,tk,os⟩) _
  case turn=>
   rintro⟨y,x⟩ rest b s' ⟨hb',rfl,vs,ws,ns',ms',hz,aa,O,L,Y⟩
   cases aa with
   |nil=>rw[List.zip_nil_left] at hz;cases hz
   | cons a t hvi' =>
    cases O with
    |nil=>rw[List.zip_nil_right] at hz;cases hz
    | cons c u hwi' =>
     rw[wa] at hz;injection hz with ae ac;injection ae with hy hx;subst hy hx;rw[ze4] at Y;simp only[zI] at L;obtain⟨e,he,W⟩:=QU A.in1 ⟨hp,g,d,tk,os⟩ a t c u;refine zb (he prog w _ _ ?_)
     cases e with
     |true=>
      rw[if_pos (W.mp rfl)] at Y
      wp_walk
      exact⟨rfl,rfl,_,_,_,_,ac,hvi',hwi',w5,Y⟩
     |false=>
      rw[if_neg (λq=>absurd (W.mpr q) zJ)] at Y;have af:=zz7 A.in1 ⟨hp,g,d,tk,os⟩ a t c u prog w
      wp_walk using af
      exact⟨_,rfl,by simpa using Y⟩
  case fin=>
   rintro⟨b1,b2⟩ s' ⟨hb',rfl,vs,ws,ns',ms',hz,aa,O,L,Y⟩;simp only at hb';subst hb'
   have hv:ZS ns' ms'=decide (items.size<=J.size):=by
    cases aa with
    | nil =>
     cases O with
     |nil=>
      simp only[ve] at L;rw[Ud]
      exact(xm w5).symm
     |cons c u hw=>
      simp only[ve,zI] at L;rw[WG]
      exact(xm w5).symm
    | cons a t hv =>
     cases O with
     |nil=>
      simp only[ve,zI] at L;rw[WH]
      exact(zN w5).symm
     |cons c u hw=>
      rw[wa] at hz;cases hz
   rw[hv] at Y
   wp_walk
   exact⟨_,rfl,by simpa [Builtin.Tuple.tupleCompareSizes] using Y⟩
  case h=>
   exact⟨rfl,rfl,items.toList,J.toList,ns,ms,rfl,hi,hj,w5,h⟩
end
section
variable {prog:Program}{w:World}{A:Around}{E:QqV}{s:Shared}
def ze5{l b:Addr}{items J:Array Value}{ns ms:List Int}{Q:QqV}(hl:IsTup s.heap l items)(hb:IsTup s.heap b J)(hi:IntsAre items.toList ns)(hj:IntsAre J.toList ms)
  (hu:A.units<cLine) (h:Q (.bool (ZS ns ms)) s):wpAny (model prog w) A (compareOp .LtE (.ref l) (.ref b)) Q E s:=by
 obtain⟨⟨cls,dd,data,sl⟩,ho,hc,n,hd⟩:=id hl;obtain⟨⟨ac,Y,aa,W⟩,L,hc2,n2,O⟩:=id hb;simp only at hc hd hc2 O;subst hc hd hc2 O
 exact richCompare_meets_room (op:=.LtE) ⟨_,ho,rfl⟩ ⟨_,L,rfl⟩ PySem.F.slot_tuple_le PySem.F.entry_tuple_le (PySem.F.args_tuple_le_2 _ _) (Vv l b items J n n2 dd Y sl W ns ms hi hj)
  ⟨ho,L,show Value.bool (ZS ns ms)≠Value.notImplemented/\Q (.bool (ZS ns ms)) s from⟨(λx=>nomatch x),h⟩⟩ hu
end
end HT
namespace L2
section
variable {X:Cx}{A:AC}
def xI2(K:W.Frag):R2:=λx y H Q=>∃a b ns ms,x=.ref a/\y=.ref b/\SqT K H a (ns.map V.int)/\SqT K H b (ms.map V.int)/\Q (.bl (HT.ZS ns ms)) H
def xg7{n:Nat}(hr:Room n X.A):OpR X (compareOp .LtE) (xI2 X.K):=by
 intro J s σ H x y v u Q I W O h;obtain⟨a,b,ns,ms,rfl,rfl,ha,hb,q⟩:=h;cases W;cases O;obtain⟨its,r1,p1,_⟩:=I.tuple ha;obtain⟨L,Y,p2,_⟩:=I.tuple hb
 exact HT.ze5 p1 p2 (vy r1) (vy Y) (by have:=hr.units;lia) ⟨.bl (HT.ZS ns ms),H,I,rfl,q⟩
def xw1:RD2:=λd1 d2 k=>∃a b:Int × Int,d1=.tup [.int a.1,.int a.2]/\d2=.tup [.int b.1,.int b.2]/\k (.bl (!ltP b a))
def xb2(J:X.K=A.K):ky A (xI2 X.K) xw1:=by
 rintro os n rho sg H ds vs d1 d2 v1 v2 k Q I ⟨a,b,rfl,rfl,q⟩ hQ;obtain⟨I1,W⟩:=I.pop;obtain⟨I2,Y⟩:=I1.pop;obtain⟨x,rfl,O⟩:=Zr Y;obtain⟨y,rfl,L⟩:=Zr W
 exact⟨x,y,[a.1,a.2],[b.1,b.2],rfl,rfl,by rw[J];exact O,by rw[J];exact L,hQ _ H _ ⟨os,I2.push (Rep.ofS rfl)⟩ q⟩
end
end L2
namespace L2
open PySem PySem.Spec PyProof.Rows PySem.SeqAt
section
variable {A:AC}{X:Cx}{pos:Pos}
def xa3(i j k:Nat)(c:Int):TSD:=λF rho n=>i<rho.length/\j<rho.length/\k<rho.length/\F.nx (((rho.set i (some (.own []))).set j (some (.own []))).set k (some (.int c))) n
@[simp] theorem xp0{i j k c F rho n}:xa3 i j k c F rho n=(i<rho.length/\j<rho.length/\k<rho.length/\F.nx (((rho.set i (some (.own []))).set j (some (.own []))).set k (some (.int c))) n):=rfl
end
def zI6:RD2:=λd1 d2 k=>∃es,d1=.lst es/\d2=.lst []/\k (.bl (!es.isEmpty))
def zO2{A:AC}{X:Cx}(hK:X.K=A.K):ky A (xo6 X) zI6:=by
 rintro os n rho sg H ds vs d1 d2 v1 v2 k Q I ⟨es,rfl,rfl,q⟩ hQ;obtain⟨I1,W⟩:=I.pop;obtain⟨I2,Y⟩:=I1.pop;rw[<- hK] at Y W
 have L:okE (.lst []) 20=true:=by unfold okE;rfl
 refine⟨es.isEmpty,λaa s σ v u J rx ry B hu=>?_,hQ _ H _ ⟨os,I2.push (Rep.ofS rfl)⟩ q⟩
 cases es with
 |nil=>exact Kz J 20 _ _ v1 v2 v u B L L Y W rx ry w5
 |cons e es=>
  obtain⟨a,xs,e1,sq,rs⟩:=Y.lst_inv;obtain⟨b,ys,e2,sq',rs'⟩:=W.lst_inv;subst e1 e2;have c1:v=.ref a:=rx;have c2:u=.ref b:=ry;subst c1 c2;obtain⟨its,rv,pl,hz⟩:=J.list sq.sq;obtain⟨its',rv',pl',hz'⟩:=J.list sq'.sq
  have n1:its.toArray.size=es.length+1:=by rw[show its.toArray.size=its.length from rfl,<- rv.length,rs.length];rfl
  have n2:its'.toArray.size=0:=by rw[show its'.toArray.size=its'.length from rfl,<- rv'.length,rs'.length];rfl
  have hs:(its.toArray.size != its'.toArray.size)=true:=by rw[n1,n2];simp
  have R:RcAt B s (.ref a) (.ref b) false:=RcAt.lists_lengths (A:=B) pl.isList pl'.isList hs w5
  have N:RcNeAt B s (.ref a) (.ref b) true:=RcNeAt.lists_lengths (A:=B) pl.isList pl'.isList hs w5
  refine⟨?_,R,N⟩
  by_cases O:a=b
  ·subst O;obtain⟨o,m,g1,_,_,g2⟩:=pl;obtain⟨o',m',g3,_,_,g4⟩:=pl';rw[g1] at g3;cases g3;rw[g2] at g4;injection g4 with g5;rw[g5,n2] at n1;cases n1
  ·exact .of_refs O R
@[simp] theorem xp8{d1 d2 k}:zI6 d1 d2 k=∃es,d1=.lst es/\d2=.lst []/\k (.bl (!es.isEmpty)):=rfl
end L2
namespace L2
def kL(k:List Int):List Key:=k.map Sum.inl
def zq4(k:List Int):(kL k).map kV=k.map V.int:=by unfold kL;rw[zB];rfl
def zq5{x y:List Int}(h:kL x=kL y):x=y:=by
 unfold kL at h
 induction x generalizing y with
 |nil=>cases y with |nil=>rfl |cons=>simp at h
 | cons a x J =>
  cases y with
  |nil=>simp at h
  |cons b y=>
   simp only[zE,List.cons.injEq,Sum.inl.injEq] at h;rw[h.1,J h.2]
def zF1{P:Program}{w:World}(k:List Int):(tupleKind (wP P w)).hash (kL k)=zV0 k:=by
 show reduceHash (Builtin.Tuple.tupleHashOf ((k.map Sum.inl).map (wP P w).hash))=reduceHash (Builtin.Tuple.tupleHashOf (k.map hashInt));rw[zB];rfl
def WO:List (List Int)->List Addr->List Value->List (List Key × Addr × Value)
 |k::ks,b::bs,u::us=>(kL k,b,u)::WO ks bs us
 |_,_,_=>[]
theorem JS{P:Program}{w:World}:∀(ks:QqI) (bs:List Addr) (us:QqW),xt1 ks bs us=(WO ks bs us).map (entryOfKey (tupleKind (wP P w)))
 |[],_,_=>rfl
 |_::_,[],_=>rfl
 |_::_,_::_,[]=>rfl
 |k::ks,b::bs,u::us=>by
  have J:=JS (P:=P) (w:=w) ks bs us;show(⟨zV0 k,.ref b,u⟩:DictEntry)::xt1 ks bs us=entryOfKey (tupleKind (wP P w)) (kL k,b,u)::(WO ks bs us).map (entryOfKey (tupleKind (wP P w)));rw[J]
  congr 1
  unfold entryOfKey;rw[zF1]
theorem ZG:∀{ks:QqI}{bs:List Addr}{us:QqW},ks.length=bs.length->ks.length=us.length->(WO ks bs us).map (·.1)=ks.map kL
 |[],_,_,_,_=>rfl
 |k::ks,[],_,h,_=>by simp at h
 |k::ks,_::_,[],_,h=>by simp at h
 |k::ks,b::bs,u::us,h1,J=>by
  show kL k::(WO ks bs us).map (·.1)=kL k::ks.map kL
  rw[ZG (by simpa using h1) (by simpa using J)]
theorem KeysAt.length{K:W.Frag}{Z:QqA}{H:Hp}:∀{ks:QqI}{bs:List Addr},KeysAt K Z H ks bs->ks.length=bs.length
 |[],_,h=>by unfold KeysAt at h;rw[h];rfl
 |k::ks,_,h=>by
  unfold KeysAt at h;obtain⟨b,r,rfl,_,t⟩:=h;rw[zI,zI,t.length]
def atL{α:Type}:List (List Int)->List α->List Int->Option α
 |k::ks,e::es,x=>if k=x then some e else atL ks es x
 |_,_,_=>none
theorem zw0:∀{ks:QqI}{bs:List Addr}{us:QqW}{k:List Int}{u:Value},ks.length=bs.length->atL ks us k=some u->∃b,atKey (WO ks bs us) (kL k)=some (b,u)
 |[],_,_,_,_,_,h=>by simp[atL] at h
 |_::_,[],_,_,_,h,_=>by simp at h
 |_::_,_::_,[],_,_,_,h=>by simp[atL] at h
 | x :: ks, b :: bs, v :: us, k, u, J, h => by
  unfold atL at h
  by_cases e:x=k
  ·rw[if_pos e] at h;cases h;refine⟨b,?_⟩;unfold atKey;rw[show WO (x::ks) (b::bs) (v::us)=(kL x,b,v)::WO ks bs us from rfl,wg,e];simp
  ·rw [if_neg e] at h
   obtain⟨b',h'⟩:=zw0 (bs:=bs) (by simpa using J) h
   refine⟨b',?_⟩;unfold atKey at h' ⊢;rw[show WO (x::ks) (b::bs) (v::us)=(kL x,b,v)::WO ks bs us from rfl,wg];have:decide ((kL x,b,v).1=kL k)=false:=zN λz=>e (zq5 z);rw[this];exact h'
theorem Vals.atL{k:List Int}{v:V}:∀{xs:List V}{us:QqW}{ks:QqI},Vals xs us->L2.atL ks xs k=some v->∃u,L2.atL ks us k=some u/\RelV v u
 |_,_,[],_,h=>by simp[L2.atL] at h
 |_,_,_::_,.nil,h=>by simp[L2.atL] at h
 |_,_,x::ks,.cons r t,h=>by
  unfold L2.atL at h ⊢
  by_cases e:x=k
  ·rw[if_pos e] at h ⊢;cases h;exact⟨_,rfl,r⟩
  ·rw[if_neg e] at h ⊢;exact Vals.atL t h
theorem Reps.atL{K:W.Frag}{G:QqE}{Z:QqA}{H:Hp}{k:List Int}{d:D}:∀{es:List D}{xs:List V}{ks:QqI},Reps K G Z H es xs->L2.atL ks es k=some d->∃v,L2.atL ks xs k=some v/\Rep K G Z H d v
 |_,_,[],_,h=>by simp[L2.atL] at h
 |[],_,_::_,_,h=>by simp[L2.atL] at h
 |e::es,xs,x::ks,r,h=>by
  obtain⟨v,xs',rfl,q,t⟩:=r.split;unfold L2.atL at h ⊢
  by_cases c:x=k
  ·rw[if_pos c] at h ⊢;cases h;exact⟨v,rfl,q⟩
  ·rw[if_neg c] at h ⊢;exact Reps.atL t h
section
variable {X:Cx}{pins:QqL}{σ:St}{H:Hp}{s:Shared}{a b:Addr}{B:Around}{E:QqV}{ks:QqI}{bs:List Addr}{xs:List V}{k:List Int}{v:V}{Z:QqA}
theorem JN{us:QqW}(I:Inv X pins σ H s):∀{ks:QqI}{bs:List Addr}{us:QqW},KeysAt X.K Z H ks bs->∀x∈WO ks bs us,(tupleKind (wP X.prog X.w)).is s.heap x.1 x.2.1
 |[],_,_,_,x,hx=>by simp[WO] at hx
 |k::ks,_,[],h,x,hx=>by
  unfold KeysAt at h;obtain⟨b,r,rfl,q,t⟩:=h;simp[WO] at hx
 |k::ks,_,u::us,h,x,hx=>by
  unfold KeysAt at h;obtain⟨b,r,rfl,q,t⟩:=h
  rcases zk.mp (show x∈(kL k,b,u)::WO ks r us from hx) with rfl |hx
  ·exact QQ I (by rw[zq4];exact q.sq)
  ·exact JN (us:=us) I t x hx
def zG1(I:Inv X pins σ H s)(e:H a=some (.ext (Ur a ks bs xs)))(hk:KeysAt X.K Z H ks bs)(L:ks.Nodup)(W:ks.length=xs.length):∃us,Vals xs us/\s.heap.DictOfH (tupleKind (wP X.prog X.w)) a (WO ks bs us):=by
 obtain⟨⟨o,es,ep,us,h1,h2,h3,O,Y⟩,_,_⟩:=I.hok a _ e
 refine⟨us,O,o,es,ep,h1,h2,h3,by rw[Y];exact JS ks bs us,JN (us:=us) I hk,?_⟩
 rw[ZG hk.length (by rw[W,O.length])]
 rw[xM] at L ⊢;rw[xn];exact L.imp λJ z=>J (zq5 z)
def zf4{Q:QqV}(hu:B.units+1<cLine)(I:Inv X pins σ H s)(e:H a=some (.ext (Ur a ks bs xs)))(hk:KeysAt X.K Z H ks bs)(W:ks.Nodup)(Y:ks.length=xs.length)(eb:SqT X.K H b (k.map V.int))(l:L2.atL ks xs k=some v)
  (h:∀w' s',Inv X pins σ H s'->RelV v w'->Q w' s'):s.TypeIs (.ref a) "dict" /\ wpAny (model X.prog X.w) B (getItem (.ref a) (.ref b)) Q E s:=by
 obtain⟨us,L,J⟩:=zG1 I e hk W Y;obtain⟨u,hu',O⟩:=Vals.atL (ks:=ks) L l;obtain⟨b',hb'⟩:=zw0 (bs:=bs) hk.length hu'
 exact⟨J.typeIs,wpAny_getItem_heap (tupleKind_room_in1 hu) (QQ I (by rw[zq4];exact eb)) J hb' (h _ _ (I.tok _) O)⟩
def xw7(K:W.Frag):R2:=λx y H Q=>∃a b ks bs xs k v,∃Z:Addr->Prop,x=.ref a/\y=.ref b/\H a=some (.ext (Ur a ks bs xs))/\KeysAt K Z H ks bs/\ks.Nodup/\ks.length=xs.length/\SqT K H b (k.map V.int)/\L2.atL ks xs k=some v/\Q v H
def zB6{o i:Expr}{J ty:TE}{pos:Pos}(hu:X.A.units+1<cLine)(ho:PE X o J)(hi:PE X i ty)(hs:zX0 i):PE X (.Subscript o i pos) (tOp (xw7 X.K) J ty):=by
 intro pins s σ H Q I h;refine Jq PySem.F.slot_dict_getitem.lookup hs (thn (ho pins s σ H _ I h) λu L ⟨x,H1,I1,W,q1⟩=>thn (hi pins L σ H1 _ I1 q1) λiv s2 ⟨y,H2,I2,O,a,b,ks,bs,xs,k,v,Z,ex,ey,e,hk,hn,hl,sq,l,Y⟩=>?_);subst ex ey;cases(show u=Value.ref a from W);cases(show iv=Value.ref b from O);exact zf4 hu I2 e hk hn hl sq l λw' s3 I3 rw'=>⟨v,H2,I3,rw',Y⟩
end
section
variable {A:AC}{X:Cx}{a b:Expr}{ta tb:TD}{pos:Pos}
theorem Ul{K:W.Frag}{G:QqE}{Z:QqA}{H:Hp}:∀{k:List Int}{xs:List V},Reps K G Z H (k.map D.int) xs->xs=k.map V.int
 |[],xs,h=>by unfold List.map at h;exact h.nil_inv
 |i::k,xs,h=>by
  obtain⟨v,r,rfl,q,t⟩:=h.split;rw[q.int_inv,Ul t];rfl
def xc2:RD2:=λd1 d2 c=>∃ks ds k d,d1=.dcL ks ds/\d2=.tup (k.map D.int)/\ks.Nodup/\ks.length=ds.length/\L2.atL ks ds k=some d/\c d
def xb3(O:X.K=A.K):ky A (xw7 X.K) xc2:=by
 rintro os n rho sg H ds vs d1 d2 v1 v2 c Q I ⟨ks,es,k,d,rfl,rfl,hn,hl,hx,q⟩ hQ;obtain⟨I1,Y⟩:=I.pop;obtain⟨I2,L⟩:=I1.pop;unfold Rep at L;obtain⟨a,bs,xs,rfl,⟨hz,hH⟩,kk,J⟩:=L;obtain⟨b,ys,rfl,sq,W⟩:=Y.tup_inv;obtain⟨v,hv,rv⟩:=Reps.atL J hx;have e:=Ul W;subst e
 exact⟨a,b,ks,bs,xs,k,v,_,rfl,rfl,hH,by rw[O];exact kk,hn,by rw[hl,J.length],by rw[O];exact sq.sq,hv,hQ _ _ _ ⟨os,I2.push rv⟩ q⟩
def zQ6{l:Nat}(J:Room l X.A)(O:X.K=A.K)(ha:PD A X a ta)(L:PD A X b tb)(hs:zX0 b):PD A X (.Subscript a b pos) (dOp xc2 ta tb):=by exists (zB6 (by have:=J.un;lia) ha L hs).imp λ_ _ _=>WP (r:=xw7 X.K) (xb3 O)
end
end L2
namespace PySem
open PySem.Sem (wp)
section
variable {prog:Program}{w:World}{K:Type} [DecidableEq K] {knd:KeyKind prog w K}{A:Around}{R:Result->Shared->Prop}
theorem Xh{h h':Heap}{k:List K}{a:Addr}(hx:(tupleKind knd).is h k a)(J:∀o,h.get? a=some o->h'.get? a=some o):(tupleKind knd).is h' k a:=
 let ⟨o,its,n,h1,W,O,L⟩:=hx;⟨o,its,n,J _ h1,W,O,L⟩
theorem jM{h h':Heap}{D:Addr}{xs:List (List K × Addr × Value)}(W:h.DictOfH (tupleKind knd) D xs)(hD:∀o,h.get? D=some o->h'.get? D=some o)(Y:∀x∈xs,∀o,h.get? x.2.1=some o->h'.get? x.2.1=some o):h'.DictOfH (tupleKind knd) D xs:=
 let ⟨o,es,ep,L,hc,hd,he,J,O⟩:=W;⟨o,es,ep,hD _ L,hc,hd,he,λx hx=>Xh (J x hx) (Y x hx),O⟩
theorem jR{D I p:Addr}{items:Array Value}{ps:List (List K × Addr × Value)}(hA:A.handled=none)(hu:A.units+1<cLine)(ad:D≠I)(am:p≠D)(al:p≠I)(aq:ps.length=items.size)(af:(ps.map (·.1)).Nodup)(hsz:items.size<=sizeLine) :
  ∀(k i:Nat) (s:Shared),items.size-i=k->i<=items.size->s.heap.IsListIter I p i->s.heap.IsList p items->s.heap.DictOfH (tupleKind knd) D (ps.take i) ->
  (∀(j:Nat) J x,ps[j]?=some J->items[j]?=some x->∃t,x=.ref t/\t≠D/\t≠I/\s.heap.IsTuple t #[.ref J.2.1,J.2.2])->(∀J∈ps,J.2.1≠D/\J.2.1≠I/\(tupleKind knd).is s.heap J.1 J.2.1) ->
  (∀s' tk,xo0 D I s.heap s'.heap->s'.heap.DictOfH (tupleKind knd) D ps->s'={ s with heap:=s'.heap,toks:=tk }->R (.ok (.ret .none)) s') ->
  codeAny (model prog w) A (.builtin "dict.update.loop" ⟨[.ref D,.ref I,rawInt i,.none],[]⟩) R s:=by
 intro k
 induction k with
 |zero=>
  intro i s hk hi ac hl hd hp hq hR;refine codeAny_builtin F.entry_update_loop ?_;rw[Around.under_plainId F.plain_update_loop _];show wpAny _ A.in1 (pyNext (.ref I) >>= _) _ _ s
  refine zb (wpAny_pyNext_list_end (A:=A.in1) hA ac hl (by rw[wB];lia) λh' hx=>?_)
  have hd':h'.DictOfH (tupleKind knd) D (ps.take i):=jM hd (λo e=>hx D o ad e) λx Y o e=>hx _ o (hq x (List.mem_of_mem_take Y)).2.1 e
  rw[yl w5] at hd'
  have fin:R (.ok (.ret .none)) { s with heap:=h' }:=hR { s with heap:=h' } s.toks (λb o _ hb e=>hx b o hb e) hd' rfl;show wpAny _ _ (Builtin.Dict.addKeywords D [] >>= λ_=>ret .none) _ _ _;refine zb (zf ?_);exact zf fin
 | succ k ih =>
  intro i s hk hi ac hl hd hp hq hR
  have aa:i<items.size:=w5
  obtain⟨J,hkv⟩:∃J,ps[i]?=some J:=⟨_,zd w5⟩
  have ag:J∈ps:=zQ hkv;obtain⟨t,hx,ao,ak,ht⟩:=hp i J items[i] hkv (xC aa);obtain⟨n1,n2,ah⟩:=hq J ag;refine codeAny_builtin F.entry_update_loop ?_;rw[Around.under_plainId F.plain_update_loop _];show wpAny _ A.in1 (pyNext (.ref I) >>= _) _ _ s;refine zb (wpAny_pyNext_list_item ac hl (xC aa) λh' hit' L=>?_);rw[hx];have hl':h'.IsList p items:=hl.extBut L.extBut al;have hd':h'.DictOfH (tupleKind knd) D (ps.take i):=jM hd (λo e=>L.extBut D o ad e) λx Y o e=>L.extBut _ o (hq x (List.mem_of_mem_take Y)).2.1 e;have ht':h'.IsTuple t #[.ref J.2.1,J.2.2]:=ht.extBut L.extBut ak;have hkey':(tupleKind knd).is h' J.1 J.2.1:=Xh ah λo e=>L.extBut _ o n2 e
  have ae:atKey (ps.take i) J.1=none:=by
   unfold atKey;rw[Option.map_eq_none_iff,List.find?_eq_none];intro x Y;simp only[wF];intro e
   have hi':i<ps.length:=w5
   rw[xM,xn,xY] at af;obtain⟨j,hj,ej⟩:=getElem_of_mem Y;rw[xt] at hj;rw[List.getElem_take] at ej
   have:=af j i w5 hi' w5
   rw[ej] at this
   have e3:ps[i]=J:=by
    have:=zd hi';rw[hkv] at this;exact(zP this).symm
   rw[e3] at this;exact this e
  obtain⟨o,ho,hc,n,ai⟩:=ht';refine zb (xp (zb (wpAny_tryCatch ?_)));unfold Builtin.Dict.pairItems;refine zb (wpAny_typeOf (T := "tuple") ⟨o,ho,hc⟩ ?_)
  rw[if_pos w6]
  refine zb (wu (s:={ s with heap:=h' }) ho ai (zf ?_));show wpAny _ _ (holding [Value.ref J.2.1,J.2.2] (dictSet D (.ref J.2.1) J.2.2)) _ _ _
  refine xp (wpAny_dictSet_heap (s:={ s with heap:=h' }) (hsz:=by rw[xt];lia) (tupleKind_room_in1 hu) hkey' hd' λh2 aj O=>?_)
  have W:xo0 D I s.heap h2:=λb o hb hb' e=>O.extBut b o hb (L.extBut b o hb' e)
  rw[storedH_new ae,show ps.take i++[(J.1,J.2.1,J.2.2)]=ps.take (i+1) by rw[xq,hkv];rfl] at aj
  refine zf ⟨plainId_quiet F.plain_update_loop _,?_⟩
  have nx:=ih (i+1) { s with heap:=h2,toks:=s.toks+(tupleKind knd).draws J.1 } w5 aa (hit'.extBut O.extBut (Ne.symm ad)) (hl'.extBut O.extBut am) aj (λj kv' x e1 e2=>by
   obtain⟨t',q1,q2,q3,q4⟩:=hp j kv' x e1 e2
   exact⟨t',q1,q2,q3,(q4.extBut L.extBut q3).extBut O.extBut q2⟩) (λkv' Y=>by
   obtain⟨m1,m2,m3⟩:=hq kv' Y
   exact⟨m1,m2,Xh m3 λo e=>O.extBut _ o m1 (L.extBut _ o m2 e)⟩) (λs' tk k2 d2 e=>hR s' tk (λb o hb hb' e'=>k2 b o hb hb' (W b o hb hb' e')) d2 e)
  have ei:rawInt ((i:Int)+1)=rawInt ((i+1:Nat):Int):=by rw[Int.natCast_succ]
  rw[ei];exact nx
variable {E:QqV}{s:Shared}
theorem Zz{p:Addr}{o:Obj}{items:Array Value}{n:Nat}{ps:List (List K × Addr × Value)}{Q:QqV}(hA:A.handled=none)(hu:A.units+2<cLine)(ho:s.heap.get? p=some o)(hc:o.cls=.type "list")(aa:o.data=.seq items n)(ao:o.dict=none)(ai:ps.length=items.size)(hsz:items.size<=sizeLine)(am:(ps.map (·.1)).Nodup)
  (hp:∀(j:Nat) L x,ps[j]?=some L->items[j]?=some x->∃t,x=.ref t/\s.heap.IsTuple t #[.ref L.2.1,L.2.2]) (hq:∀L∈ps,(tupleKind knd).is s.heap L.1 L.2.1)
  (h:∀h' tk,(∀b o,s.heap.get? b=some o->h'.get? b=some o)->h'.DictOfH (tupleKind knd) s.heap.objs.size ps->Q (.ref s.heap.objs.size) { s with heap:=h',toks:=tk }) :
  wpAny (model prog w) A (call (.type "dict") [.ref p]) Q E s:=by
 refine callType_codes (Q₁:=λobj s₁=>obj=.ref s.heap.objs.size/\s₁={ s with heap:=s.heap.push { cls:=.type "dict",data:=.dict #[] } }) F.kt_called_dict (F.kt_typeCall_dict_1 _) F.entry_dict_init (kt_code_dict_new _ ⟨rfl,rfl⟩) ?_;rintro obj s₁ ⟨rfl,rfl⟩;have Y:(s.heap.push { cls:=.type "dict",data:=.dict #[] }).DictOfH (tupleKind knd) s.heap.objs.size []:=Heap.DictOfH.new s.heap;have ho':(s.heap.push { cls:=.type "dict",data:=.dict #[] }).get? p=some o:=ze _ ho
 have ak:p≠s.heap.objs.size:=λe=>absurd (zo ho) (by rw[e];exact xj _)
 have ac:∀b o,s.heap.get? b=some o->(s.heap.push { cls:=.type "dict",data:=.dict #[] }).get? b=some o:=λb o e=>ze _ e;refine⟨Y.typeIs,F.args_dict_init_2 _ _,?_⟩;unfold Builtin.«dict.__init__»;refine zb ?_;unfold Builtin.Dict.selfAndRest;refine zb (wpAny_notOrdered_dict Y.typeIs ?_);show wpAny _ _ (pure (s.heap.objs.size,[Value.ref p])) _ _ _;refine zf ?_;show wpAny _ _ (Builtin.Dict.updateFrom "dict.__init__" s.heap.objs.size (.ref p) [] .none) _ _ _;unfold Builtin.Dict.updateFrom;refine zb (wpAny_typeOf (T := "list") ⟨o,ho',hc⟩ ?_)
 rw[if_pos w6]
 refine zb (ZW (A:=A.in1.in1) (s:={ s with heap:=s.heap.push { cls:=.type "dict",data:=.dict #[] } }) ho' hc aa ao Km x3 hA λh1 tk e hx=>?_)
 rw[if_pos (by rfl:(none:Option Value).isNone=true)]
 have ae:h1.get? p=some o:=hx.keeps _ _ ho'
 have ag:h1.DictOfH (tupleKind knd) s.heap.objs.size []:=jM Y (λo e=>hx.keeps _ _ e) λx hm=>by simp at hm
 refine zb (yD ?_);have af:h1.IsList p items:=⟨o,ae,hc,n,aa⟩;refine zb (wQ (s:={ s with heap:=h1,toks:=tk }) af ?_);refine zf ⟨plainId_quiet F.plain_update_loop _,?_⟩
 have z1:s.heap.objs.size<h1.objs.size:=by
  obtain⟨oD,_,_,al,_⟩:=ag;exact zo al
 have aq:s.heap.objs.size≠h1.objs.size:=zx z1;have aj:p≠h1.objs.size:=zx (zo ae);have W:∀b o,h1.get? b=some o->(h1.push { cls:=.type "list_iterator",data:=.fields #[.ref p,.int 0 0] }).get? b=some o:=λb o e=>ze _ e;have O:∀b o,s.heap.get? b=some o->(h1.push { cls:=.type "list_iterator",data:=.fields #[.ref p,.int 0 0] }).get? b=some o:=λb o e=>W b o (hx.keeps b o (ac b o e))
 have ah:∀L∈ps,L.2.1<s.heap.objs.size:=λL hm=>by
  obtain⟨ok,_,_,hok,_⟩:=hq L hm;exact zo hok
 refine jR (knd:=knd) (A:=A.in1) (p:=p) (items:=items) (ps:=ps) hA (by show A.units+1+1<cLine;lia) aq ak aj ai am hsz items.size 0 { s with heap:=h1.push { cls:=.type "list_iterator",data:=.fields #[.ref p,.int 0 0] },toks:=tk } w5 (wo _)
  ⟨_,zr _ rfl,rfl,rfl⟩ (af.push _) (jM ag (λo e=>W _ o e) λx hm=>by simp at hm) (λj L x e1 e2=>?_) (λL hm=>?_) (λs' tk' k2 d2 e'=>?_)
 ·obtain⟨t,q1,⟨ot,ad,r⟩⟩:=hp j L x e1 e2;have J:=zo ad;exact⟨t,q1,zx J,zx (yH J z1),⟨ot,O t ot ad,r⟩⟩
 ·have J:=ah L hm;exact⟨zx J,zx (yH J z1),Xh (hq L hm) λo e=>O _ o e⟩
 ·rw[e'];refine⟨rfl,h _ _ (λb o e=>?_) d2⟩;have J:=zo e;exact k2 b o (zx J) (zx (yH J z1)) (O b o e)
end
end PySem
namespace L2
def PairsL(K:W.Frag)(Z:QqA)(H:Hp):List V->List (List Int)->List Addr->List V->Prop
 |[],ks,bs,xs=>ks=[]/\bs=[]/\xs=[]
 |y::ys,ks,bs,xs=>∃t k b x L O J,y=.ref t/\ks=k::L/\bs=b::O/\xs=x::J/\SqT K H t [.ref b,x]/\SqZ K Z H false b (k.map V.int)/\PairsL K Z H ys L O J
section
variable {K:W.Frag}{Z:QqA}{H:Hp}
theorem PairsL.keys:∀{ys:List V}{ks:QqI}{bs:List Addr}{xs:List V},PairsL K Z H ys ks bs xs->KeysAt K Z H ks bs/\ks.length=ys.length/\xs.length=ys.length/\bs.length=ys.length
 |[],_,_,_,h=>by
  obtain⟨rfl,rfl,rfl⟩:=h;exact⟨rfl,rfl,rfl,rfl⟩
 |y::ys,_,_,_,h=>by
  obtain⟨t,k,b,x,kr,W,Y,rfl,rfl,rfl,rfl,s1,J,r⟩:=h;obtain⟨i1,i2,O,L⟩:=r.keys
  exact⟨⟨b,W,rfl,J,i1⟩,by simp[i2],by simp[O],by simp[L]⟩
end
section
variable {X:Cx}{A:AC}
def UT{Z:QqA}{L:QqL}{σ:St}{H:Hp}{s:Shared}(I:Inv X L σ H s):∀{ys:List V}{ks:QqI}{bs:List Addr}{xs:List V}{its:QqW},PairsL X.K Z H ys ks bs xs->Vals ys its ->
  ∃us,Vals xs us/\∀(j:Nat) J x,(WO ks bs us)[j]?=some J->its[j]?=some x->∃t,x=.ref t/\s.heap.IsTuple t #[.ref J.2.1,J.2.2]
 |[],_,_,_,_,h,.nil=>by
  obtain⟨rfl,rfl,rfl⟩:=h
  exact⟨[],.nil,λj J x e _=>by simp[WO] at e⟩
 | y :: ys, _, _, _, _, h, .cons q u => by
  obtain⟨t,k,b,x,kr,br,xr,rfl,rfl,rfl,rfl,s1,s2,r⟩:=h;obtain⟨us,h1,h2⟩:=UT I r u;cases q;obtain⟨its,rv,pl,_⟩:=I.tuple s1
  cases rv with
  | cons r1 O =>
   cases O with
   | cons r2 O =>
    cases O;cases r1;rename_i u2;refine⟨u2::us,.cons r2 h1,λj J x Y W=>?_⟩
    cases j with
    |zero=>
     cases Y;cases W;exact⟨t,rfl,pl⟩
    |succ j=>exact h2 j J x Y W
def zI9(K:W.Frag):List V->Hp->VK->Prop:=λJ H Q=>∃l ys ks bs xs,∃Z:Addr->Prop,J=[.ref l]/\SqL K H l ys/\PairsL K Z H ys ks bs xs/\ks.Nodup/\∀D,H D=none->Q (.ref D) (upd H D (.ext (Ur D ks bs xs)))
def zf9{l:Nat}(hc:X.calm=true)(hr:Room l X.A):kW X (.type "dict") (zI9 X.K):=by
 intro ah s σ H zs us Q I r h;obtain⟨l,ys,ks,bs,xs,Z,rfl,sq,hp,nd,q⟩:=h;obtain⟨u,rfl,ru⟩:=Ye r;cases ru;obtain⟨its,rv,pl,hz⟩:=I.list sq;obtain⟨o,n,ho,ad,ac,J⟩:=pl;obtain⟨us,vu,Y⟩:=UT I hp rv;obtain⟨kk,l1,l2,l3⟩:=hp.keys;have l4:ys.length=its.length:=rv.length;have l5:=vu.length
 have zl:(WO ks bs us).length=its.length:=by
  have e:=congrArg List.length (ZG (ks:=ks) (bs:=bs) (us:=us) w5 w5)
  rw[zg,zg] at e;lia
 have W:((WO ks bs us).map (·.1)).Nodup:=by
  rw[ZG w5 w5]
  rw[xM] at nd ⊢;rw[xn];exact nd.imp λaa z=>aa (zq5 z)
 refine Zz (knd:=wP X.prog X.w) (ps:=WO ks bs us) (I.ok.hd hc) (by have:=hr.units;lia) ho ad J ac (by simp[zl]) (by simp only[zq];lia) W (λj kv x L e2=>Y j kv x L (by simpa using e2)) (JN (us:=us) I kk) λh' tk keeps ag=>?_
 refine⟨.ref s.heap.objs.size,upd H s.heap.objs.size (.ext (Ur s.heap.objs.size ks bs xs)),I.laid (t':=tk) keeps (zn _) ?_,rfl,q _ (I.hok.fresh (zn _))⟩;obtain⟨o2,es,ep,L,e2,e3,e4,e5,e6⟩:=ag
 refine⟨⟨o2,es,ep,us,L,e2,e3,vu,by rw[e4];exact(JS ks bs us).symm⟩,⟨o2,L⟩,λh1 h2 ⟨o3,ae,af,O,f1,f2,f3,f4,f5⟩ hk=>⟨o3,ae,af,O,hk _ f1,f2,f3,f4,f5⟩⟩
def AmO.newDcl{os n rho sg H ds vs}{ks:QqI}{bs:List Addr}{es:List D}{xs:List V}{p:Addr}(I:AmO A os n rho sg H ds vs)(W:KeysAt A.K (Zof A os) H ks bs)(r:Reps A.K A.G (Zof A os) H es xs)(L:H p=none):AmO A os n rho sg (upd H p (.ext (Ur p ks bs xs))) (.dcL ks es::ds) (.ref p::vs):=by
 have J:=(I.grow (o:=.ext (Ur p ks bs xs)) L)
 have O:∀a u,H a=some u->upd H p (.ext (Ur p ks bs xs)) a=some u:=λa u e=>by rw[xZ (yc e L)];exact e
 refine J.push ?_;unfold Rep;exact⟨p,bs,xs,rfl,⟨λz=>absurd L (I.zH p z),wX⟩,W.mono (λ_ _ z=>z) (λa u _ e=>O a u e),Reps.mono (λ_ _ z=>z) (λa u _ e=>O a u e) _ _ r⟩
def zC2(ks:QqI)(ds:List D):List D:=List.zipWith (λk d=>.tup [.tup (k.map D.int),d]) ks ds
def xk2:List D->(D->Prop)->Prop:=λes c=>∃ks ds,es=[.lst (zC2 ks ds)]/\ks.length=ds.length/\ks.Nodup/\c (.dcL ks ds)
theorem WZ{K:W.Frag}{G:QqE}{Z:QqA}{H:Hp}:∀{ks:QqI}{ds:List D}{ys:List V},ks.length=ds.length->Reps K G Z H (zC2 ks ds) ys->∃bs xs,Reps K G Z H ds xs/\PairsL K Z H ys ks bs xs
 |[],[],ys,_,r=>by
  have e:=r.nil_inv;subst e;exact⟨[],[],.nil,rfl,rfl,rfl⟩
 |[],_::_,ys,h,_=>by simp at h
 |_::_,[],ys,h,_=>by simp at h
 |k::ks,d::ds,ys,h,r=>by
  obtain⟨y,yr,rfl,q,t⟩:=r.split
  obtain⟨bs,xs,r1,r2⟩:=WZ (ks:=ks) (ds:=ds) (by simpa using h) t
  obtain⟨p,zs,rfl,sq,O⟩:=q.tup_inv;obtain⟨a,b,rfl,ra,Y⟩:=VP O;obtain⟨c,ws,rfl,J,L⟩:=ra.tup_inv;have e:=Ul L;subst e;exact⟨c::bs,b::xs,.cons Y r1,p,k,c,b,ks,bs,xs,rfl,rfl,rfl,rfl,sq.sq,J,r2⟩
def zG6:vA A (zI9 A.K) xk2:=by
 rintro os n rho sg H ds vs es ws c Q I L ⟨ks,cs,rfl,Y,nd,q⟩ hQ;obtain⟨v,rfl,r⟩:=kO L;obtain⟨a,ys,rfl,sq,O⟩:=r.lst_inv;obtain⟨bs,xs,W,J⟩:=WZ Y O;exact⟨a,ys,ks,bs,xs,_,rfl,sq.sq,J,nd,λD hD=>hQ _ _ _ ⟨os,I.newDcl J.keys.1 W hD⟩ q⟩
end
theorem KI:∀(l J:List Int),(J++l).Nodup->l.foldl step_dedup J=J++l
  |[],J,_=>by simp
  | x :: l, J, h => by
    have hx:J.any (· == x)=false:=by
      rw[List.any_eq_false];intro y L e;rw[xG] at h
      exact h.2.2 y L x (by simp) (by simpa using e)
    rw[List.foldl_cons,show step_dedup J x=J++[x] by unfold step_dedup;rw[hx];rfl,KI l (J++[x]) (by simpa using h),yi]
    rfl
def zT0{ns:List Int}(h:ns.Nodup):firstMet (λi=>ns.getD i 0) ns.length=ns:=by
 have e:(List.range ns.length).map (λi=>ns.getD i 0)=ns:=by
  refine ext_getElem? λi=>?_;rw[zw]
  by_cases hi:i<ns.length
  ·rw[yk hi,zd hi];simp[zM,zd hi]
  ·rw [wW (by simpa using hi), wW w5]
   rfl
 unfold firstMet
 rw[e,KI ns [] (by simpa using h)]
 rfl
section
variable {X:Cx}{A:AC}
def xw4(K:W.Frag):List V->Hp->VK->Prop:=λxs H Q=>∃(l:Addr) (ns:List Int),xs=[.ref l]/\SqL K H l (ns.map V.int)/\ns.Nodup/\ns.length<=1000/\∀p S,H p=none->Q (.ref p) (upd H p (.set S ns.length))
def zv0(Y:X.calm=true):kW X (.type "set") (xw4 X.K):=by
 intro J s σ H xs us Q I r h;obtain⟨l,ns,rfl,sq,nd,hz,q⟩:=h;obtain⟨u,rfl,O⟩:=Ye r;cases O;obtain⟨its,rv,pl,_⟩:=I.list sq
 have W:its.length=ns.length:=by rw[<- rv.length,zg]
 refine call_set_list (I.ok.hd Y) pl.isList (vy rv) (by show its.length+1<4096;lia) λh' L so keeps=>?_
 have e:its.toArray.size=ns.length:=W;rw[e,zT0 nd] at so;exact⟨.ref s.heap.objs.size,upd H s.heap.objs.size (.set _ ns.length),I.laid (t':=L) (λb o e=>keeps b o (zo e) e) (zn _) so,rfl,q _ _ (I.hok.fresh (zn _))⟩
def xw6:List V->Hp->VK->Prop:=λxs H Q=>∃a S n,xs=[.ref a]/\H a=some (.set S n)/\n<=1000/\Q (.int n) H
def zv2:kW X (.builtin "len") xw6:=by
 intro L s σ H xs us Q I r h;obtain⟨a,S,n,rfl,e,hz,q⟩:=h;obtain⟨u,rfl,O⟩:=Ye r;cases O;obtain⟨o,es,ep,t,W,J,hd,_,_,_,hf,Y⟩:=(show s.heap.SetOf (intKind X.prog X.w) a S n from I.hok a _ e);subst Y
 exact call_len_set W J hd hf w5 ⟨.int es.size,H,I.tok _,⟨_,rfl⟩,q⟩
end
section
variable {A:AC}{X:Cx}{e:Expr}{te:TD}{pos:Pos}
def zt5(te:TD):TD:=λrho n P=>te rho n λd J=>∃ns:List Int,d=.lst (ns.map D.int)/\ns.Nodup/\ns.length<=1000/\P (.int ns.length) J
@[simp] theorem xd8{te rho n P}:zt5 te rho n P=te rho n λd J=>∃ns:List Int,d=.lst (ns.map D.int)/\ns.Nodup/\ns.length<=1000/\P (.int ns.length) J:=rfl
def zm2{p1 p2 pos2:Pos}(hc:X.calm=true)(hK:X.K=A.K)(Y:X.mg "len" = none)(hs:X.mg "set" = none)(he:PD A X e te)(hg:Gl X "len" := by rfl)(L:Gl X "set" := by rfl)(h1:starEach [e] X.env=(false,eval e X.env)::starEach [] X.env:=by rfl) :
  PD A X (.Call (.Name "len" p1) [.Call (.Name "set" p2) [e] [] pos2] [] pos) (zt5 te):=by
 exists (Xg (zv2 (X:=X)) hg Y ki (jr (ZO (zv0 hc) L hs x3 (jr he YS h1) w6 w6 h1 rfl) YS (sE rfl)) w6 w6 (sE rfl) rfl).imp λsg H Q h=>by
   obtain⟨rho,n,P,ds,vs,I,ht,hQ⟩:=h;refine⟨rho,n,_,ds,vs,I,ht,λv H' n' d ⟨os,J⟩ k=>?_⟩;obtain⟨ns,rfl,nd,hz,k⟩:=k;obtain⟨J1,r⟩:=J.pop;obtain⟨a,xs,rfl,sq,O⟩:=r.lst_inv;have e:=Ul O;subst e
   refine⟨a,ns,rfl,by rw[hK];exact sq.sq,nd,hz,λp S W=>⟨p,S,ns.length,rfl,wX,hz,?_⟩⟩
   exact hQ _ _ _ _ ⟨os,(J1.grow W).push (Rep.ofS (d:=.int ns.length) rfl)⟩ k
end
section
variable {X:Cx}{A:AC}
def xI1(K:W.Frag):R2:=λx y H Q=>∃a b ns ms,x=.ref a/\y=.ref b/\SqT K H a (ns.map V.int)/\SqT K H b (ms.map V.int)/\Q (.bl (HT.ku ns ms)) H
def xg6{n:Nat}(hr:Room n X.A):OpR X (compareOp .Lt) (xI1 X.K):=by
 intro J s σ H x y v u Q I W O h;obtain⟨a,b,ns,ms,rfl,rfl,ha,hb,q⟩:=h;cases W;cases O;obtain⟨its,r1,p1,_⟩:=I.tuple ha;obtain⟨L,Y,p2,_⟩:=I.tuple hb
 exact HT.Yz p1 p2 (vy r1) (vy Y) (by have:=hr.units;lia) ⟨.bl (HT.ku ns ms),H,I,rfl,q⟩
def xw0:RD2:=λd1 d2 k=>∃a b:Int × Int,d1=.tup [.int a.1,.int a.2]/\d2=.tup [.int b.1,.int b.2]/\k (.bl (ltP a b))
def xb1(J:X.K=A.K):ky A (xI1 X.K) xw0:=by
 rintro os n rho sg H ds vs d1 d2 v1 v2 k Q I ⟨a,b,rfl,rfl,q⟩ hQ;obtain⟨I1,W⟩:=I.pop;obtain⟨I2,Y⟩:=I1.pop;obtain⟨x,rfl,O⟩:=Zr Y;obtain⟨y,rfl,L⟩:=Zr W
 exact⟨x,y,[a.1,a.2],[b.1,b.2],rfl,rfl,by rw[J];exact O,by rw[J];exact L,hQ _ H _ ⟨os,I2.push (Rep.ofS rfl)⟩ q⟩
end
end L2
set_option maxHeartbeats 1000000
open L2
namespace K42
abbrev q0:List Str:=["one","other"]
abbrev q1:List Str:=["_law_left_here","_law_house_here"]
abbrev q2:List Str:=["_law_left_here","_law_d","_law_things","_law_turn"]
abbrev q3:List Str:=["_law_tree_here","_law_path"]
abbrev q4:List Str:=["by_name","trees","plain","kind"]
abbrev q5:List Str:=["house","tree","box","kind","k"]
abbrev q6:List Str:=["_law_plain_here","_law_place"]
abbrev q7:List Str:=["_law_edges","_law_place"]
abbrev q8:List Str:=["_law_house_here","_law_tree_here","_law_kind_here"]
abbrev q9:List Str:=["_law_left_here","_law_house_here","_law_i"]
abbrev q10:List Str:=["gone","house","tree","box","kind","k"]
abbrev q11:List Str:=["_law_house_here","_law_plain_here","_law_kind_here"]
abbrev q12:List Str:=["_law_house_here","_law_kind_here","_law_name"]
abbrev q13:List Str:=["_law_house_here","_law_tree_here","_law_kind_here","_law_names","_law_waiting"]
def top(i:Nat):Stmt:=PySem.Challenge.pw_boxlayers_k42_one_more_each_time.main.body.getD i (.Pass ⟨0,0,0,0⟩)
abbrev End:=Option (Int × Bool)
abbrev Jc:=End × End
def qf:End->D
 |none=>.non
 |some (n,s)=>.tup [.int n,.bl s]
def WK:Option Int->D
 |none=>.non
 |some i=>.int i
def qy(s:Jc):D:=.tup [qf s.1,qf s.2]
def vz(b:List Jc):D:=.tup (b.map qy)
def yd(p:List Int):D:=.tup (p.map D.int)
def Kp:End->Option Int
 |none=>none
 |some (n,s)=>some (if s then n else n+1)
def QT:End->Option Int
 |none=>none
 |some (n,s)=>some (if s then n else n-1)
def liesT(lo hi:Option Int)(x:Int):Bool:=(match lo with |none=>true |some l=>decide (l<=x))&&(match hi with |none=>true |some g=>decide (x<=g))
@[simp] theorem xt3:qf none=.non:=rfl
@[simp] theorem xt2{n:Int}{s:Bool}:qf (some (n,s))=.tup [.int n,.bl s]:=rfl
def XM(e:End):we (qf e)=true:=by rcases e with _ |⟨n,s⟩<;>rfl
section
variable {P:Program}{w:World}{K:W.Frag}{mg:QqM}{base:Heap}{f:Addr}{fd:FuncData}
abbrev Ym:Stmt:=top 2
abbrev zg2:List Str:=["low","number","shut"]
def Zd:FnScope zg2 ["low"] (xi Ym):=⟨rfl,rfl,rfl,x3,rfl,x3,x3⟩
def Yh:TF:=λds n Q=>∃e:End,ds=[qf e]/\Q (WK (Kp e)) n
def JE(F:Fun K "least_of" "least_of" Ym f fd):FnOk P w K mg base CX0 1 f fd ["low"] (spD K 1 Yh):=by
 refine Fun.okD F Zd (λJ W outer s H E G Z L=>(zG (vt (wh jd jc (zh 0) vq (wK _)) (zU (xQ vq)) yj)
  (zG (jo (m:=3) (zh 0) (vh (k:=2) rfl rfl (xf (zV (i:=1) Zd.nd rfl (lo rfl) w6) (xf (zV (i:=2) Zd.nd rfl (lo rfl) w6) yw))))
  (zU (xQ (VU (Zm (zh 2)) (zh 1) (kC (zh 1) zA))))))) ?_
 rintro ds n Q O ⟨e,rfl,q⟩
 rcases e with _ |⟨m,s⟩
 ·simp[startD,qf];exact q
 ·cases s<;>(simp[startD,qf];exact q)
abbrev qL:Stmt:=top 3
abbrev Uy:List Str:=["high","number","shut"]
def qq:FnScope Uy ["high"] (xi qL):=⟨rfl,rfl,rfl,x3,rfl,x3,x3⟩
def qH:TF:=λds n Q=>∃e:End,ds=[qf e]/\Q (WK (QT e)) n
def Ww(F:Fun K "greatest_of" "greatest_of" qL f fd):FnOk P w K mg base CX0 1 f fd ["high"] (spD K 1 qH):=by
 refine Fun.okD F qq (λJ W outer s H E G Z L=>(zG (vt (wh jd jc (zh 0) vq (wK _)) (zU (xQ vq)) yj)
  (zG (jo (m:=3) (zh 0) (vh (k:=2) rfl rfl (xf (zV (i:=1) qq.nd rfl (lo rfl) w6) (xf (zV (i:=2) qq.nd rfl (lo rfl) w6) yw))))
  (zU (xQ (VU (Zm (zh 2)) (zh 1) (qD (zh 1) zA))))))) ?_
 rintro ds n Q O ⟨e,rfl,q⟩
 rcases e with _ |⟨m,s⟩
 ·simp[startD,qf];exact q
 ·cases s<;>(simp[startD,qf];exact q)
abbrev Xw:Stmt:=top 4
abbrev zw6:List Str:=["span","low","high"]
def Yk:FnScope zw6 ["span"] (xi Xw):=⟨rfl,rfl,rfl,x3,rfl,x3,x3⟩
def Xo:TF:=λds n Q=>∃s:Jc,ds=[qy s]/\Q (.tup [WK (Kp s.1),WK (QT s.2)]) n
def zd4(F:Fun K "pair_of" "pair_of" Xw f fd)(F_least_of:Fn P w K mg base "least_of" 1 1 Yh)(F_greatest_of:Fn P w K mg base "greatest_of" 1 1 qH):FnOk P w K mg base CX0 2 f fd ["span"] (spD K 1 Xo):=by
 refine Fun.okD F Yk (λL W outer s H E G Z J=>(zG (jo (m:=3) (zh 0) (vh (k:=2) rfl rfl (xf (zV (i:=1) Yk.nd rfl (lo rfl) w6) (xf (zV (i:=2) Yk.nd rfl (lo rfl) w6) yw))))
  (zU (xQ (yn (zc (yf F_least_of (J.mono w6) rfl (zc (zh 1) zm)) (zc (yf F_greatest_of (J.mono w6) rfl (zc (zh 2) zm)) zm))))))) ?_
 rintro ds n Q O ⟨s,rfl,q⟩;simp[startD,qy,XM];exact⟨s.1,rfl,s.2,rfl,q⟩
end
def zJ4{es:List D}{k:Int}{R:D->Prop}(h0:0<=k)(h1:k<es.length)(h:∀d∈es,R d):WV (.lst es) (.int k) R:=by
 obtain⟨d,e,m⟩:=zw1 h0 h1;exact zO7.mpr ⟨d,e,h d m⟩
def zl6{js:List Int}{k:Int}{R:D->Prop}(lo hi:Int)(h0:0<=k)(h1:k<js.length)(L:∀j∈js,lo<=j/\j<=hi)(h:∀j:Int,lo<=j->j<=hi->R (.int j)):WV (.lst (js.map D.int)) (.int k) R:=by
 refine zJ4 h0 (by simpa using h1) λd hd=>?_
 obtain⟨j,J,rfl⟩:=zi.mp hd;exact h j (L j J).1 (L j J).2
def jn(c:Nat):(zc5 0 c).length=c:=by unfold zc5;rw[zg,List.length_range]
def WT{c i:Nat}{d:D}(h:(zc5 0 c)[i]?=some d):i<c/\d=.int (i:Int):=by
 have hi:i<c:=by have:=(zu.mp h).1;rw[jn] at this;exact this
 refine⟨hi,?_⟩;unfold zc5 at h;rw[zw,yk hi] at h;have:=zP h;rw[<- this];simp
def KJ{own:Nat}{g:TGD}{W:TD}{rho:Rho}{P:D->Nat->Prop}(items:List D)(O:Nat)(J:D->D->Prop)(hz:items.length<=sizeLine)
  (he:∀(i:Nat) (d:D),items[i]?=some d->∀Q:D->Nat->Prop,(∀e,J d e->Q e O)->g d (replicate own none++rho) λrho'=>rho'.drop own=rho/\W rho' O Q)
  (hP:∀es,Paired J items es->P (.lst es) O):QZ own g xn6 W rho P items O:=by
 refine⟨hz,λi L n=>Paired J (items.take i) L/\n=O,⟨.nil,rfl⟩,?_,?_⟩
 ·rintro i d L n e ⟨h1,rfl⟩;refine he i d e (λe Y=>Paired J (items.take (i+1)) (L++[e])/\Y=n) λc hg=>⟨?_,rfl⟩;rw[xq,e];exact Paired.snoc h1 hg
 ·rintro L n ⟨h1,rfl⟩;rw[wj] at h1;exact hP L h1
section
variable {P:Program}{w:World}{K:W.Frag}{mg:QqM}{base:Heap}{f:Addr}{fd:FuncData}
abbrev Zj:Stmt:=top 22
abbrev Qo:List Str:=["_law_script","_law_k","_law_cell","_law_digits"]
def qm:FnScope Qo ["_law_script","_law_k"] (xi Zj):=⟨rfl,rfl,rfl,x3,rfl,x3,x3⟩
def zi2:TF:=λds n Q=>∃(ns:List Int) (j:Int),ds=[wG ns,.int j]/\ns.length<=63/\0<=j/\j<1000/\∀x y:Int,0<=x->0<=y->y<2147483647->Q (.lst [.int x,.int y,.int 0]) n
def zR8(T:Blt mg)(F:Fun K "_law_left" "_law_left" Zj f fd):FnOk P w K mg base CX0 1 f fd ["_law_script","_law_k"] (spD K 2 zi2):=by
 refine Fun.okD F qm (λaa A0 outer s H E G Z hr=>(zG (yS (i:=2) qm.nd rfl (lo rfl) zA)
  (zG (vt (wh XH Xy (wn wL kX T.len ki (zc (zh 0) zm)) zA (wK _)) (zU (yS (i:=2) qm.nd rfl (lo rfl) (wO xJ wN (zh 0) (ZP (zh 1) (wn wL kX T.len ki (zc (zh 0) zm))) (λ_ _=>rfl)))) yj)
  (zG (yS (i:=3) qm.nd rfl (lo rfl) (YR (ZP (wn za7 zL9 T.abs zM1 (zc (zh 2) zm)) (UR zA zA)) (yV ZZ Us T.int za8 (zc (XF xE4 xv8 (wn za7 zL9 T.abs zM1 (zc (zh 2) zm)) (UR zA zA) (wK _)) zm))))
  (zU (xQ (vN (zc (zh 3) (zc (ZP (YR (kC (kC (ZP (zh 2) zA) (YR (YR zA (zh 1)) (zh 1))) zA) zA) zA) (zc zA zm)))))))))) ?_
 rintro ds n Q hl ⟨ns,j,rfl,W,J,Y,q⟩;have O:∀{i j:Int},(-(2^64)<i/\i<2^64)->CMul i j:=λh=>.inl h;have cm':∀{i j:Int},(-(2^64)<j/\j<2^64)->CMul i j:=λh=>.inr h
 have h7:0<=7919*j*j:=Int.mul_nonneg w5 J
 have h8:7919*j*j<=7919*j*1000:=Int.mul_le_mul_of_nonneg_left w5 w5
 generalize hS:Ws (zc4 3 _) _=S
 have cont:∀(x:Int) (F:EndsD),F.rt=Q->S F [some (wG ns),some (.int j),some (.int x),none] n:=λx F hF=>by
  subst hS;simp[hF]
  have ab:0<=(if x<0 then -x else x):=by split<;>lia
  have L:∀c:Prop,[Decidable c]->(0:Int)<=(if c then 1 else 0)/\(if c then 1 else 0)<(2:Int):=λc _=>by split<;>lia
  refine⟨⟨w6,w6,w6⟩,⟨w6,w6,w6⟩,cm' ⟨?_,?_⟩,O ⟨w6,w6⟩,O ⟨w5,w5⟩,cm' ⟨w6,w6⟩,q _ _ (Int.mul_nonneg (wJ _ w6) (L _).1) (wJ _ w6) (yb _ w6)⟩
  ·have:=(L (1000000000000000000<=if x<0 then -x else x)).1;lia
  ·have:=(L (1000000000000000000<=if x<0 then -x else x)).2;lia
 simp[startD,wG]
 split
 ·rename_i h
  refine⟨w5,?_⟩
  obtain⟨d,e,m⟩:=zw1 (xs:=ns.map D.int) (i:=j%ns.length) (wJ _ w5) (by simpa using yb j w5)
  obtain⟨x,_,rfl⟩:=zi.mp m;exact⟨_,e,cont x _ rfl⟩
 ·exact cont 0 _ rfl
abbrev Zi:Stmt:=top 23
abbrev Qn:List Str:=["_law_left_here","_law_many","_law_digit"]
def YM:FnScope Qn ["_law_left_here","_law_many"] (xi Zi):=⟨rfl,rfl,rfl,x3,rfl,x3,x3⟩
def YL:TF:=λds n Q=>∃m:Int,ds=[.st,.int m]/\n=3/\0<m/\m<10000000/\∀k:Int,0<=k->k<m->Q (.int k) n
def zR6(F:Fun K "_law_pick" "_law_pick" Zi f fd):FnOk P w K mg base CX0 1 f fd ["_law_left_here","_law_many"] (spD K 2 YL):=by
 refine Fun.okD F YM (λac A0 outer s H E G Z hr=>(zG (vt (wh XH Xy (jp (i:=0) zA (λ_ _=>rfl)) zA (wK _)) (zG (yS (i:=2) YM.nd rfl (lo rfl) (ZP (jp (i:=0) zA (λ_ _=>rfl)) (zh 1)))
  (zG (XA (i:=0) (zm3 (jp (i:=0) zA (λ_ _=>rfl)) (zh 1)) zA)
  (zU (xQ (zh 2))))) yj)
  (zG (XA (i:=0) (kC (jp (i:=0) zA (λ_ _=>rfl)) zA) zA)
  (zG (XA (i:=0) (ZP (kC (kC (YR (jp (i:=0) zA (λ_ _=>rfl)) zA) zA) (jp (i:=0) zA (λ_ _=>rfl))) zA) zA)
  (zU (xQ (ZP (zm3 (ZP (YR (jp (i:=0) zA (λ_ _=>rfl)) (jp (i:=0) zA (λ_ _=>rfl))) zA) zA) (zh 1)))))))) ?_
 rintro ds n Q hl ⟨m,rfl,rfl,J,aa,q⟩;have W:∀{i j:Int},(-(2^64)<i/\i<2^64)->CMul i j:=λh=>.inl h;simp[startD];intro z0 h0
 split
 ·intro z hz
  exact⟨J,λz1 L=>⟨⟨J,w5⟩,Int.ediv_nonneg L w5,q _ (wJ _ w5) (yb _ J)⟩⟩
 ·intro z hz
  refine⟨w5,λy Y O=>⟨W ⟨w5,w5⟩,λx hx=>⟨wJ _ w6,yb _ w6,λy Y O z1 h1 h1'=>⟨W ⟨w5,w5⟩,⟨w6,w6⟩,J,q _ (wJ _ w5) (yb _ J)⟩⟩⟩⟩
def wC{m:Int}{Q:D->Nat->Prop}(h0:0<m)(h1:m<10000000)(h:∀k:Int,0<=k->k<m->Q (.int k) 3):YL [.st,.int m] 3 Q:=⟨m,rfl,rfl,h0,h1,h⟩
end
abbrev Thing:=Int × List Int × Int
def xI(t:Thing):D:=.tup [.int t.1,yd t.2.1,.int t.2.2]
def wv(d:Nat)(ts:List Thing):D:=.tup [.int d,.tup (ts.map xI)]
def zH7(m x:Int):Prop:=∃a e:Int,x=1000000000000000*a+e/\-m<=e/\e<=m
def jO(x:Int):Prop:=(-100000000000000000<=x/\x<=100000000000000000)/\zH7 500 x
def zd8(x:Int):Prop:=(-100000000000000002<=x/\x<=100000000000000002)/\zH7 502 x
structure GoodT(d:Nat)(ts:List Thing)(top:Int):Prop where
 each:∀t∈ts,0<=t.1/\t.1<top/\t.2.1.length=d/\(∀x∈t.2.1,jO x)/\jO t.2.2
 up:ts.Pairwise λa b=>a.1<b.1
def GoodT.nil(d:Nat)(top:Int):GoodT d [] top:=⟨by simp,.nil⟩
def GoodT.snoc{d:Nat}{ts:List Thing}{x top:Int}(h:GoodT d ts x)(hx:0<=x)(ht:x<top){p:List Int}(O:p.length=d)(hs:∀x∈p,jO x){y:Int}(L:jO y):GoodT d (ts++[(x,p,y)]) top:=by
 refine⟨λt J=>?_,?_⟩
 ·rcases zS.mp J with J | J
  ·have := h.each t J
   exact⟨this.1,w5,this.2.2⟩
  ·rw[zF.mp J];exact⟨hx,ht,O,hs,L⟩
 ·rw [List.pairwise_append]
  refine⟨h.up,by simp,λa ha b W=>?_⟩
  rw[zF.mp W];exact(h.each a ha).2.1
def GoodT.more{d:Nat}{ts:List Thing}{x top:Int}(h:GoodT d ts x)(ht:x<=top):GoodT d ts top:=⟨λt J=>by have:=h.each t J;exact⟨this.1,w5,this.2.2⟩,h.up⟩
def GoodT.nodup{d:Nat}{ts:List Thing}{x:Int}(h:GoodT d ts x):(ts.map λt=>t.1).Nodup:=xn.mpr (h.up.imp λ{a b} h=>by lia)
theorem jq{S:Int->Prop}:∀{l es:List D},Paired (λ_ e=>∃x:Int,S x/\e=.int x) l es->∃xs:List Int,es=xs.map D.int/\∀x∈xs,S x
 |_,_,.nil=>⟨[],rfl,by simp⟩
 |_,_,.cons r t=>by
  obtain⟨x,hx,rfl⟩:=r;obtain⟨xs,rfl,h⟩:=jq t
  exact⟨x::xs,rfl,λy J=>by rcases zk.mp J with rfl |J;exact hx;exact h y J⟩
def Jd(s:Int):Prop:=s=1\/s=3\/s=1000000000000000
def zo3{a s:Int}(h1:-40<=a)(J:a<=40)(hs:Jd s):jO (a*s):=by
 rcases hs with rfl |rfl |rfl
 ·exact⟨⟨w5,w5⟩,0,a,w5,w5,w5⟩
 ·exact⟨⟨w5,w5⟩,0,a*3,w5,w5,w5⟩
 ·exact⟨⟨w5,w5⟩,a,0,w5,w5,w5⟩
def xe7{js:List Int}{k:Int}{R:D->Prop}(h0:0<=k)(h1:k<js.length)(h:∀j∈js,R (.int j)):WV (.lst (js.map D.int)) (.int k) R:=by
 refine zJ4 h0 (by simpa using h1) λd hd=>?_
 obtain⟨j,J,rfl⟩:=zi.mp hd;exact h j J
def Kb(p:List Int)(k:Nat):okE (yd p) (k+1)=true:=qS.mpr λd hd=>by
 obtain⟨x,_,rfl⟩:=zi.mp hd;exact qu
def zn6(t:Thing)(k:Nat):okE (xI t) (k+2)=true:=by
 refine qS.mpr λd hd=>?_;simp only[zk,xg,or_false] at hd
 rcases hd with rfl |rfl |rfl
 ·exact qu
 ·exact Kb _ _
 ·exact qu
def JF(ts:List Thing):okE (.lst (ts.map xI)) 20=true:=zS2.mpr λd hd=>by
 obtain⟨t,_,rfl⟩:=zi.mp hd;exact zn6 t 17
def zr1{d:Nat}{ts:List Thing}{R:D->Prop}(h:R (.int d)):WV (wv d ts) (.int 0) R:=⟨_,0,_,.inr (.inl rfl),rfl,rfl,h⟩
def Vl{d:Nat}{ts:List Thing}{R:D->Prop}(h:R (.tup (ts.map xI))):WV (wv d ts) (.int 1) R:=⟨_,1,_,.inr (.inl rfl),rfl,rfl,h⟩
def vU(d:Nat)(ts:List Thing):we (wv d ts)=true:=id rfl
structure JHs(d:Nat)(wd sc:Int)(i:Nat)(rho:Rho)(n:Nat):Prop where
 e:n=3
 r:∃(ts:List Thing) (x:Int) (a b c:Option D),ts.length=i/\0<=x/\x<=2+41*i/\GoodT d ts x/\rho=[some .st,some (.int d),some (.int wd),some (.int sc),some (.own (ts.map xI)),some (.int x),a,b,c]
section
variable {P:Program}{w:World}{K:W.Frag}{mg:QqM}{base:Heap}{f:Addr}{fd:FuncData}
abbrev jm:Stmt:=top 24
abbrev jH:List Str:=["_law_left_here","_law_d","_law_wide","_law_scale","_law_things","_law_name","_law_k","_law_place","_law_far"]
def va:FnScope jH ["_law_left_here"] (xi jm):=⟨rfl,rfl,rfl,x3,rfl,x3,x3⟩
def XQ:("_law_i" :: jH:List Str).Nodup:=x3
def Jo:TF:=λds n Q=>ds=[.st]/\n=3/\∀(d:Nat) (ts:List Thing),1<=d->d<=4->GoodT d ts 2000->ts.length<=30->Q (wv d ts) 3
def zC7(T:Blt mg)(F:Fun K "_law_house" "_law_house" jm f fd)(Y_pick:Fn P w K mg base "_law_pick" 1 2 YL):FnOk P w K mg base CX0 2 f fd ["_law_left_here"] (spD K 1 Jo):=by
 refine Fun.okD F va (λaz A0 outer s H E G Z J=>(zG (yS (i:=1) va.nd rfl (lo rfl) (wO xJ wN (vN (zc zA (zc zA (zc zA (zc zA (zc zA (zc zA zm))))))) (yf Y_pick (J.mono w6) rfl (zc (zh 0) (zc zA zm))) (λ_ _=>rfl)))
  (zG (jo (m:=9) (yn (zc (wO xJ wN (vN (zc zA (zc zA (zc zA (zc zA (zc zA (zc zA zm))))))) (yf Y_pick (J.mono w6) rfl (zc (zh 0) (zc zA zm))) (λ_ _=>rfl)) (zc (wO xJ wN (vN (zc zA (zc zA (zc zA (zc (UR zA zA) zm))))) (yf Y_pick (J.mono w6) rfl (zc (zh 0) (zc zA zm))) (λ_ _=>rfl)) zm))) (vh (k:=2) rfl rfl (xf (zV (i:=2) va.nd rfl (lo rfl) w6) (xf (zV (i:=3) va.nd rfl (lo rfl) w6) yw))))
  (zG (zA7 (i:=4) (j:=5) rfl va.nd rfl rfl w6 rfl rfl (λZ1 H1=>(yf Y_pick (J.mono w6) rfl (zc (zh 0) (zc zA zm)))))
  (zG (qt (m:=9) PassesOwn.never rfl (Zp T.range (zc (wO xJ wN (vN (zc zA (zc zA (zc zA (zc zA (zc zA (zc zA (zc zA (zc zA (zc zA (zc zA zm))))))))))) (yf Y_pick (J.mono w6) rfl (zc (zh 0) (zc zA zm))) (λ_ _=>rfl)) zm)) (zV (i:=6) va.nd rfl (lo rfl) w6)
  (zG (yS (i:=7) va.nd rfl (lo rfl) (yV yB kg T.tuple kh (zc (vC (own:=["_law_i"]) (M:=jH) (vH (by rfl)) rfl (Zp T.range (zc (zh 1) zm)) (λ_ _ _ _=>(zV (i:=0) XQ rfl (lo rfl) w6)) (λ_ _ _ _=>yU) (λ_ _ _ _=>(YR (qD (yf Y_pick (J.mono w6) rfl (zc (zh 1) (zc (kC (YR zA (zh 3)) zA) zm))) (zh 3)) (zh 4)))) zm)))
  (zG (vt (PWD.pt (qr (zk8 (i:=4) J rfl) (qo (wh Wv Wt (yf Y_pick (J.mono w6) rfl (zc (zh 0) (zc zA zm))) zA (wK _))))) (zU (yS (i:=7) va.nd rfl (lo rfl) (wO xJ wN (zB8 (i:=4) (yf Y_pick (J.mono w6) rfl (zc (zh 0) (zc (US (i:=4) T.len rfl) zm))) (λ_ _=>rfl)) zA (λ_ _=>rfl)))) yj)
  (zG (yS (i:=8) va.nd rfl (lo rfl) (wO xJ wN (vN (zc (UR zA zA) (zc (QG (UR zA zA)) zm))) (yf Y_pick (J.mono w6) rfl (zc (zh 0) (zc zA zm))) (λ_ _=>rfl)))
  (zG (kY (i:=4) (zc (yn (zc (zh 5) (zc (zh 7) (zc (wO xJ wN (vN (zc (qD (yf Y_pick (J.mono w6) rfl (zc (zh 0) (zc zA zm))) zA) (zc (qD (yf Y_pick (J.mono w6) rfl (zc (zh 0) (zc zA zm))) zA) (zc (zh 8) zm)))) (yf Y_pick (J.mono w6) rfl (zc (zh 0) (zc zA zm))) (λ_ _=>rfl)) zm)))) zm) rfl)
  (zU (yS (i:=5) va.nd rfl (lo rfl) (kC (kC (zh 5) zA) (wO xJ wN (vN (zc zA (zc zA (zc zA (zc zA (zc zA zm)))))) (yf Y_pick (J.mono w6) rfl (zc (zh 0) (zc zA zm))) (λ_ _=>rfl))))))))))
  (zU (Zo 4 (xQ (yn (zc (zh 1) (zc (yV yB kg T.tuple kh (zc (zh 4) zm)) zm))))))))))) ?_
 rintro ds n Q hl ⟨rfl,rfl,q⟩;simp[startD]
 refine wC w6 w6 λk h0 h1=>zl6 (js:=[1,2,2,3,3,4]) 1 4 h0 (by simpa using h1) w6 λdd aw av=>?_
 obtain⟨d,rfl⟩:=xV (show 0<=dd by lia)
 refine wC w6 w6 λk2 h2 h3=>zl6 (js:=[1,2,3,5,9,40]) 1 40 h2 (by simpa using h3) w6 λwd am al=>⟨⟨w6,w6,w6⟩,?_⟩
 refine wC w6 w6 λk3 h4 h5=>xe7 (js:=[1,1,3,1000000000000000]) h4 (by simpa using h5) λsc ag=>⟨rfl,?_⟩
 have W:Jd sc:=by
  simp only[zk,xg,or_false] at ag;unfold Jd;lia
 have aq:1<=sc:=by unfold Jd at W;lia
 have ao:sc<=1000000000000000:=by unfold Jd at W;lia
 refine wC w6 w6 λx0 ac aj=>⟨wU w6,?_⟩
 refine wC w6 w6 λk4 h6 h7=>zl6 (js:=[0,1,2,3,4,6,8,12,20,30]) 0 30 h6 (by simpa using h7) w6 λc ay ax=>?_
 refine⟨c,rfl,w5,w5,JHs d wd sc,⟨rfl,[],x0,none,none,none,rfl,ac,w5,GoodT.nil d _,rfl⟩,?_,?_⟩
 ·rintro i d' rho n' e ⟨rfl, ts, x, u, v, z, Y, ad, aa, hg, rfl⟩;obtain⟨hi,rfl⟩:=WT e;generalize hS:Ws (zc4 8 _) _=S
  have cont:∀(p:List Int) (F:EndsD),F.nx=JHs d wd sc (i+1)->p.length=d->(∀y∈p,jO y) ->
    S F [some .st,some (.int d),some (.int wd),some (.int sc),some (.own (ts.map xI)),some (.int x),some (.int i),some (yd p),z] 3:=λp F hF hp L=>by
   subst hS;have np:we (yd p)=true:=id rfl;simp[np,hF]
   refine⟨⟨w6,w6,w6⟩,wC w6 w6 λj1 g0 g1=>xe7 (js:=[100000000000000000,-100000000000000000]) g0 (by simpa using g1) λfr ae=>⟨lt_size w5,?_⟩⟩
   refine wC w6 w6 λw1 g2 g3=>?_
   simp
   refine wC w6 w6 λw2 g4 g5=>?_
   simp
   refine wC w6 w6 λw3 g6 g7=>?_
   have ah:∀R:D->Prop,(∀y:Int,jO y->R (.int y))->WV (.lst [.int (w1-2),.int (w2-500),.int fr]) (.int w3) R:=λR hR=>zJ4 g6 (by simpa using g7) λdd af=>by
    simp only[zk,xg,or_false] at af
    rcases af with rfl |rfl |rfl
    ·exact hR _ ⟨⟨w5,w5⟩,0,w1-2,w5,w5,w5⟩
    ·exact hR _ ⟨⟨w5,w5⟩,0,w2-500,w5,w5,w5⟩
    ·simp only [zk, xg, or_false] at ae
     rcases ae with rfl |rfl
     ·exact hR _ ⟨⟨w6,w6⟩,100,0,w6,w6,w6⟩
     ·exact hR _ ⟨⟨w6,w6⟩,-100,0,w6,w6,w6⟩
   refine ah _ λy hy=>?_
   refine wC w6 w6 λw4 g8 g9=>zl6 (js:=[0,0,1,7,40]) 0 40 g8 (by simpa using g9) w6 λm au ar=>?_
   simp
   exact⟨rfl,ts++[(x,p,y)],x+1+m,_,_,_,by simp[Y],w5,w5,hg.snoc ad w5 hp L hy,by rw[zK];rfl⟩
  simp
  refine⟨w5,KJ (zc5 0 d) 3 (λ_ e=>∃x:Int,jO x/\e=.int x) (by rw[jn];exact wU w5) (λj d2 e2 Q' hQ'=>?_) (λes hp=>?_)⟩
  ·simp
   refine⟨.inl ⟨w6,w6⟩,wC w5 w5 λk g0 g1=>?_⟩
   simp
   exact⟨.inl ⟨w5,w5⟩,hQ' _ ⟨_,zo3 w5 w5 W,rfl⟩⟩
  ·have O := hp.length;rw[jn] at O;obtain⟨ps,rfl,L⟩:=jq hp;rw[zg] at O;simp;refine⟨JF ts,?_⟩
   split
   ·exact cont ps _ rfl w5 L
   ·rename_i ai
    have ak:0<ts.length:=by
     cases ts with
     |nil=>exact absurd rfl ai
     |cons t r=>simp
    refine wC w6 w6 λk g0 g1=>?_
    simp
    split
    ·refine wC w5 w5 λk4 g5 g6 => ?_
     obtain⟨y,ey,my⟩:=zw1 (xs:=ts.map xI) (i:=k4) g5 (by simp;lia)
     obtain⟨⟨y1,p1,w1⟩,ht',rfl⟩:=zi.mp my;have he:=hg.each _ ht';refine⟨_,rfl,_,ey,?_⟩;refine⟨_,_,yd p1,.inr (.inl rfl),rfl,rfl,?_⟩;exact cont p1 _ rfl he.2.2.1 he.2.2.2.1
    ·exact cont ps _ rfl w5 L
 ·rintro rho n' ⟨rfl, ts, x, u, v, z, Y, ad, aa, hg, rfl⟩;rw[jn] at Y aa;simp
  exact q d ts w5 w5 (hg.more w5) w5
abbrev qO:Stmt:=top 25
abbrev ja:List Str:=["_law_left_here","_law_house_here","_law_i","_law_numbers"]
def jT:FnScope ja q9 (xi qO):=⟨rfl,rfl,rfl,x3,rfl,x3,x3⟩
def YV:("_law_thing" :: ja:List Str).Nodup:=x3
def ZI:TF:=λds n Q=>∃(d i:Nat) (ts:List Thing),ds=[.st,wv d ts,.int i]/\n=3/\i<d/\GoodT d ts 2000/\ts.length<=30/\∀x:Int,zd8 x->Q (.int x) 3
def zn1(T:Blt mg)(F:Fun K "_law_number" "_law_number" qO f fd)(Y_pick:Fn P w K mg base "_law_pick" 1 2 YL):FnOk P w K mg base CX0 2 f fd q9 (spD K 3 ZI):=by
 refine Fun.okD F jT (λai A0 outer s H E G Z O=>(zG (yS (i:=3) jT.nd rfl (lo rfl) (Yu QJ Qz (vC (own:=["_law_thing"]) (M:=ja) (vH (by rfl)) rfl (vo rfl (wO xJ wN (zh 1) zA (λ_ _=>rfl))) (λC L H2 fp=>(zV (i:=0) YV rfl (lo rfl) w6)) (λC L H2 fp=>yU) (λC L H2 fp=>(wO xJ wN (wO xJ wN (zh 0) zA (λ_ _=>rfl)) (zh 3) (λ_ _=>rfl)))) (vN (zc zA zm))))
  (zU (xQ (kC (wO xJ wN (zh 3) (yf Y_pick (O.mono w6) rfl (zc (zh 0) (zc (wn wL kX T.len ki (zc (zh 3) zm)) zm))) (λ_ _=>rfl)) (wO xJ wN (vN (zc zA (zc zA (zc zA (zc zA (zc (QG zA) (zc zA zm))))))) (yf Y_pick (O.mono w6) rfl (zc (zh 0) (zc zA zm))) (λ_ _=>rfl))))))) ?_
 rintro ds n Q hl ⟨d,i,ts,rfl,rfl,hi,W,hz,q⟩;have nh:=vU d ts;simp[startD,nh];refine Vl ?_;simp
 refine ye xI (λt=>.int (t.2.1[i]?.getD 0)) ts (wU w5) (λt ht R hR=>?_) ?_
 ·have nt : we (xI t) = true := id rfl;have Y:=W.each t ht;simp[nt];refine⟨_,1,_,.inr (.inl rfl),rfl,rfl,?_⟩
  exact⟨_,_,_,.inr (.inl rfl),rfl,qh (by rw[zw,zd w5];rfl),by simpa [zd (show i<t.2.1.length by lia)] using hR⟩
 ·simp
  refine⟨wU w5,wC w5 w5 λk h0 h1=>zJ4 h0 (by simpa using h1) λdd J=>?_⟩
  obtain⟨x,hx,rfl⟩:∃x:Int,jO x/\dd=.int x:=by
   rcases zS.mp J with h |h
   ·obtain ⟨t, ht, rfl⟩ := zi.mp h;have Y:=W.each t ht;refine⟨_,?_,rfl⟩
    rw[zd (show i<t.2.1.length by lia)]
    exact Y.2.2.2.1 _ (wl _)
   ·rw[zF.mp h];exact⟨0,⟨⟨w6,w6⟩,0,0,w6,w6,w6⟩,rfl⟩
  refine wC w6 w6 λk2 h2 h3=>zl6 (js:=[0,0,0,1,-1,2]) (-1) 2 h2 (by simpa using h3) w6 λm ae ad=>?_
  simp;obtain⟨⟨ac,aa⟩,fa,fe,ah,ag,af⟩:=hx
  exact q _ ⟨⟨w5,w5⟩,fa,fe+m,w5,w5,w5⟩
def jt{d i:Nat}{ts:List Thing}{Q:D->Nat->Prop}(hi:i<d)(J:GoodT d ts 2000)(hz:ts.length<=30)(h:∀x:Int,zd8 x->Q (.int x) 3):ZI [.st,wv d ts,.int i] 3 Q:=⟨d,i,ts,rfl,rfl,hi,J,hz,h⟩
def zS7(e:End):Prop:=∀x s,e=some (x,s)->zd8 x
def xi3(b:List Jc):Prop:=∀s∈b,zS7 s.1/\zS7 s.2
structure JBx(d:Nat)(ts:List Thing)(i:Nat)(rho:Rho)(n:Nat):Prop where
 e:n=3
 r:∃(b:List Jc) (u v y z:Option D),b.length=i/\xi3 b/\rho=[some .st,some (wv d ts),some (.own (b.map qy)),u,v,y,z]
abbrev Yo:Stmt:=top 26
abbrev zg3:List Str:=["_law_left_here","_law_house_here","_law_spans","_law_i","_law_one","_law_other","_law_low"]
def ko:FnScope zg3 q1 (xi Yo):=⟨rfl,rfl,rfl,x3,rfl,x3,x3⟩
def zM8:TF:=λds n Q=>∃(d:Nat) (ts:List Thing),ds=[.st,wv d ts]/\n=3/\d<=4/\GoodT d ts 2000/\ts.length<=30/\∀b:List Jc,b.length=d->xi3 b->Q (vz b) 3
def QC{x k:Int}{R:D->Prop}(hx:zd8 x)(h0:0<=k)(h1:k<4)(h:∀e:End,zS7 e->R (qf e)):WV (.lst [.non,.tup [.int x,.bl true],.tup [.int x,.bl false],.tup [.int x,.bl true]]) (.int k) R:=
 zJ4 h0 (by simpa using h1) λL J=>by
  simp only[zk,xg,or_false] at J
  rcases J with rfl |rfl |rfl |rfl
  ·exact h none λx s e=>by cases e
  ·exact h (some (x,true)) λx s e=>by cases e;exact hx
  ·exact h (some (x,false)) λx s e=>by cases e;exact hx
  ·exact h (some (x,true)) λx s e=>by cases e;exact hx
def xh3(T:Blt mg)(F:Fun K "_law_box" "_law_box" Yo f fd)(Y_pick:Fn P w K mg base "_law_pick" 1 2 YL)(Y_number:Fn P w K mg base "_law_number" 2 3 ZI):FnOk P w K mg base CX0 3 f fd q1 (spD K 2 zM8):=by
 refine Fun.okD F ko (λad A0 outer s H E G Z Y=>(zG (XB (i:=2) ko.nd rfl (lo rfl) zm)
  (zG (qt (m:=7) PassesOwn.never rfl (Zp T.range (zc (wO xJ wN (zh 1) zA (λ_ _=>rfl)) zm)) (zV (i:=3) ko.nd rfl (lo rfl) w6)
  (zG (VS (i:=4) (j:=5) rfl ko.nd rfl rfl w6 rfl rfl (zc (yf Y_number (Y.mono w6) rfl (zc (zh 0) (zc (zh 1) (zc (zh 3) zm)))) (zc (yf Y_number (Y.mono w6) rfl (zc (zh 0) (zc (zh 1) (zc (zh 3) zm)))) zm)))
  (zG (vt (PWD.pt (qr (wh XH Xy (zh 4) (zh 5) (wK _)) (qo (wh XH Xy (yf Y_pick (Y.mono w6) rfl (zc (zh 0) (zc zA zm))) zA (wK _))))) (zU (VS (i:=4) (j:=5) rfl ko.nd rfl rfl w6 rfl rfl (zc (zh 5) (zc (zh 4) zm)))) yj)
  (zG (yS (i:=6) ko.nd rfl (lo rfl) (wO xJ wN (vN (zc vq (zc (yn (zc (zh 4) (zc Zq zm))) (zc (yn (zc (zh 4) (zc Zq zm))) (zc (yn (zc (zh 4) (zc Zq zm))) zm))))) (yf Y_pick (Y.mono w6) rfl (zc (zh 0) (zc zA zm))) (λ_ _=>rfl)))
  (zU (kY (i:=2) (zc (yn (zc (zh 6) (zc (wO xJ wN (vN (zc vq (zc (yn (zc (zh 5) (zc Zq zm))) (zc (yn (zc (zh 5) (zc Zq zm))) (zc (yn (zc (zh 5) (zc Zq zm))) zm))))) (yf Y_pick (Y.mono w6) rfl (zc (zh 0) (zc zA zm))) (λ_ _=>rfl)) zm))) zm) rfl))))))
  (zU (Zo 2 (xQ (yV yB kg T.tuple kh (zc (zh 2) zm)))))))) ?_
 rintro ds n Q hl ⟨d,ts,rfl,rfl,ac,hg,hz,q⟩;have nh:=vU d ts;simp[startD,nh];refine zr1 ?_
 refine⟨d,rfl,w5,w5,JBx d ts,⟨rfl,[],none,none,none,none,rfl,λs hs=>by simp at hs,rfl⟩,?_,?_⟩
 ·rintro i d' rho n' e ⟨rfl, b, u, v, y, z, hb, hn, rfl⟩;obtain⟨hi,rfl⟩:=WT e
  replace hi:i<d:=by simpa using hi
  generalize hS:Ws (zc4 6 _) _=S
  have cont:∀(L J:Int) (F:EndsD),F.nx=JBx d ts (i+1)->zd8 L->zd8 J ->
    S F [some .st,some (wv d ts),some (.own (b.map qy)),some (.int i),some (.int L),some (.int J),z] 3:=λL J F hF h1 h2=>by
   subst hS;simp[hF]
   refine wC w6 w6 λk g0 g1=>QC h1 g0 g1 λe1 n1=>?_
   have aa:=XM e1;simp[aa]
   refine⟨lt_size w5,wC w6 w6 λk g0 g1=>QC h2 g0 g1 λe2 n2=>?_⟩
   refine⟨rfl,b++[(e1,e2)],_,_,_,_,by simp[hb],λs hs=>?_,by rw[zK];rfl⟩
   rcases zS.mp hs with h |h
   ·exact hn s h
   ·rw[zF.mp h];exact⟨n1,n2⟩
  simp[nh];refine jt hi hg hz λL W=>?_;refine jt hi hg hz λJ O=>?_;simp
  split
  ·refine wC w6 w6 λk g0 g1 => ?_
   simp
   split
   ·exact cont J L _ rfl O W
   ·exact cont L J _ rfl W O
  ·exact cont L J _ rfl W O
 ·rintro rho n' ⟨rfl, b, u, v, y, z, hb, hn, rfl⟩;rw[jn] at hb;simp
  exact q b (by simpa using hb) hn
end
abbrev Pair:=Option Int × Option Int
def xR(p:Pair):D:=.tup [WK p.1,WK p.2]
def xy(ps:List Pair):D:=.tup (ps.map xR)
def wI:Pair->Bool
 |(some l,some g)=>decide (g<l)
 |_=>false
def emptyP:Pair:=(some 1,some 0)
def vK(ps:List Pair):List Pair:=if ps.any wI then ps.map (λ_=>emptyP) else ps
def Zs(s:Jc):Pair:=(Kp s.1,QT s.2)
def wZ(b:List Jc):List Pair:=vK (b.map Zs)
@[simp] theorem xl9:WK none=.non:=rfl
@[simp] theorem xl8{i:Int}:WK (some i)=.int i:=rfl
section
variable {P:Program}{w:World}{K:W.Frag}{mg:QqM}{base:Heap}{f:Addr}{fd:FuncData}
abbrev jh:Stmt:=top 5
abbrev Je:List Str:=["pair","least","greatest"]
def qK:FnScope Je ["pair"] (xi jh):=⟨rfl,rfl,rfl,x3,rfl,x3,x3⟩
def qk:TF:=λds n Q=>∃p:Pair,ds=[xR p]/\Q (.bl (wI p)) n
def VV(F:Fun K "is_crossed" "is_crossed" jh f fd):FnOk P w K mg base CX0 1 f fd ["pair"] (spD K 1 qk):=by
 refine Fun.okD F qK (λJ W outer s H E G Z L=>(zG (jo (m:=3) (zh 0) (vh (k:=2) rfl rfl (xf (zV (i:=1) qK.nd rfl (lo rfl) w6) (xf (zV (i:=2) qK.nd rfl (lo rfl) w6) yw))))
  (zU (xQ (zJ8 (XF Yw Ys (zh 1) vq (wK _)) (zJ8 (XF Yw Ys (zh 2) vq (wK _)) (xf8 (XF XH Xy (zh 1) (zh 2) (wK _))))))))) ?_
 rintro ds n Q O ⟨⟨lo,hi⟩,rfl,q⟩
 rcases lo with _ |lo<;>rcases hi with _ |hi<;>simp[startD,xR]<;>exact q
abbrev Xv:Stmt:=top 6
abbrev jE:List Str:=["pairs"]
def zc3:FnScope jE ["pairs"] (xi Xv):=⟨rfl,rfl,rfl,x3,rfl,x3,x3⟩
def Kg:("pair" :: jE:List Str).Nodup:=x3
def Kf:("pair" :: jE:List Str).Nodup:=x3
def ZH:TF:=λds n Q=>∃(ps:List Pair) (d:D),ds=[d]/\(d=.lst (ps.map xR)\/d=xy ps)/\ps.length<=1000/\Q (xy (vK ps)) n
def zd3(T:Blt mg)(G_EMPTY_PAIR:xo2 K mg "EMPTY_PAIR" (.tup [.int 1,.int 0]))(F:Fun K "settled" "settled" Xv f fd)(F_is_crossed:Fn P w K mg base "is_crossed" 1 1 qk):FnOk P w K mg base CX0 2 f fd ["pairs"] (spD K 1 ZH):=by
 refine Fun.okD F zc3 (λaa A0 outer s H E G Z hr=>(zG (vt (Zm (wn (zH1 rfl) xm8 T.any xn2 (zc (vC (own:=["pair"]) (M:=jE) (vH (by rfl)) rfl (vo rfl (zh 0)) (λC J W O=>(zV (i:=0) Kg rfl (lo rfl) w6)) (λC J W O=>yU) (λC J W O=>(yf F_is_crossed (hr.mono w6) rfl (zc (zh 0) zm)))) zm))) (zU (xQ (yV yB kg T.tuple kh (zc (vC (own:=["pair"]) (M:=jE) (vH (by rfl)) rfl (vo rfl (zh 0)) (λC J W O=>(zV (i:=0) Kf rfl (lo rfl) w6)) (λC J W O=>yU) (λC J W O=>(zQ5 G_EMPTY_PAIR rfl))) zm)))) yj)
  (zU (xQ (yV yB kg T.tuple kh (zc (zh 0) zm)))))) ?_
 rintro ds n Q hl ⟨ps,d,rfl,hd,hz,q⟩
 have Y:we d=true:=by rcases hd with rfl |rfl<;>rfl
 have hsz:ps.length<=sizeLine:=wU hz;have L:∀R:List D->Prop,R (ps.map xR)->∃es,(d=.lst es\/d=.tup es)/\R es:=λR h=>⟨_,hd,h⟩;simp[startD,Y];refine L _ (ye xR (λp=>.bl (wI p)) ps hsz (λx hx R hR=>?_) ?_)
 ·simp[xR];exact⟨x,rfl,hR⟩
 ·refine ⟨ps.map wI, by rw [zB]; rfl, ?_⟩
  simp;unfold vK at q
  by_cases h:ps.any wI
  ·simp only [h, if_true];rw[if_pos h] at q;refine L _ (ye xR (λp=>.tup [.int 1,.int 0]) ps hsz (λx hx R hR=>?_) ?_)
   ·simp;exact hR
   ·simp
    have e:xy (ps.map λ_=>emptyP)=.tup (ps.map λ_=>.tup [.int 1,.int 0]):=by unfold xy;rw[zB];rfl
    rw[e] at q
    simpa using q
  ·rw [if_neg h] at q;simp only[h]
   rcases hd with rfl |rfl
   ·simp;exact q
   ·unfold xy;simp;exact q
abbrev Ze:Stmt:=top 7
abbrev ZD:List Str:=["box"]
def UJ:FnScope ZD ["box"] (xi Ze):=⟨rfl,rfl,rfl,x3,rfl,x3,x3⟩
def WA:("span" :: ZD:List Str).Nodup:=x3
def jX:TF:=λds n Q=>∃b:List Jc,ds=[vz b]/\b.length<=1000/\Q (xy (wZ b)) n
def UW(F:Fun K "plain_box" "plain_box" Ze f fd)(F_pair_of:Fn P w K mg base "pair_of" 2 1 Xo)(F_settled:Fn P w K mg base "settled" 2 1 ZH):FnOk P w K mg base CX0 3 f fd ["box"] (spD K 1 jX):=by
 refine Fun.okD F UJ (λaa A0 outer s H E G Z L=>(zU (xQ (yf F_settled (L.mono w6) rfl (zc (vC (own:=["span"]) (M:=ZD) (vH (by rfl)) rfl (vo rfl (zh 0)) (λC J W O=>(zV (i:=0) WA rfl (lo rfl) w6)) (λC J W O=>yU) (λC J W O=>(yf F_pair_of (L.mono w6) rfl (zc (zh 0) zm)))) zm))))) ?_
 rintro ds n Q hl ⟨b,rfl,hz,q⟩;have Y:we (vz b)=true:=rfl;simp[startD,Y];refine⟨b.map qy,.inr rfl,ye qy (λs=>xR (Zs s)) b (wU hz) (λx hx R hR=>?_) ?_⟩
 ·simp[qy];exact⟨x,rfl,hR⟩
 ·exact⟨b.map Zs,_,rfl,.inl (by rw[zB];rfl),by simpa using hz,q⟩
end
def maxO:Option Int->Option Int->Option Int
 |none,o=>o
 |some a,none=>some a
 |some a,some b=>some (if b > a then b else a)
def minO:Option Int->Option Int->Option Int
 |none,o=>o
 |some a,none=>some a
 |some a,some b=>some (if b<a then b else a)
def commonP(p q:Pair):Pair:=(maxO p.1 q.1,minO p.2 q.2)
def kw(ps qs:List Pair):List Pair:=vK (List.zipWith commonP ps qs)
def vn(ps qs:List Pair):Bool:=match kw ps qs with |[]=>false |p::_=>wI p
def jW(ps qs:List Pair):Bool:=decide (kw ps qs=ps)
def ZV(ps:List Pair)(p:List Int):Bool:=(List.zipWith (λq x=>liesT q.1 q.2 x) ps p).all id
theorem zw4{α β:Type}{f:α->β->Bool}:∀{l:List α}{r:List β},(List.zipWith f l r).all id=true↔∀(i:Nat) a b,l[i]?=some a->r[i]?=some b->f a b=true
 |[],r=>by simp
 |a::l,[]=>by simp
 | a :: l, b :: r => by
  have L:=zw4 (f:=f) (l:=l) (r:=r);simp only[xD,all_cons,zL,L]
  constructor
  ·rintro ⟨h1, O⟩ i x y hx J
   cases i with
   |zero=>simp at hx J;subst hx;subst J;exact h1
   |succ i=>exact O i x y (by simpa using hx) (by simpa using J)
  ·intro h
   exact⟨h 0 a b rfl rfl,λi x y hx J=>h (i+1) x y (by simpa using hx) (by simpa using J)⟩
def KZ{α:Type}{f:α->Bool}{l:List α}:l.any f=true↔∃(i:Nat) (a:α),l[i]?=some a/\f a=true:=by
 rw[List.any_eq_true]
 constructor
 ·rintro⟨x,hx,h⟩;obtain⟨i,hi⟩:=List.mem_iff_getElem?.mp hx;exact⟨i,x,hi,h⟩
 ·rintro⟨i,a,hi,h⟩;exact⟨a,zQ hi,h⟩
def Zb(ps:List Pair):(vK ps).length=ps.length:=by unfold vK;split<;>simp
def zf7{ps qs:List Pair}(h:ps.length=qs.length):(kw ps qs).length=ps.length:=by unfold kw;rw[Zb,wD];lia
def qJ{ps:List Pair}(h:¬ ps.any wI=true):vK ps=ps:=by unfold vK;rw[if_neg h]
def Zc{ps:List Pair}(h:ps.any wI=true):vK ps=replicate ps.length emptyP:=by
 unfold vK;rw[if_pos h,<- List.map_const']
def zs4{k:Nat}(h:1<=k):(replicate k emptyP).any wI=true:=KZ.mpr ⟨0,emptyP,by rw[xl];simp;lia,w6⟩
def Kn{q:Pair}{x:Int}(h:liesT q.1 q.2 x=true):wI q=false:=by
 obtain⟨lo,hi⟩:=q
 rcases lo with _ |l<;>rcases hi with _ |g<;>simp[liesT,wI] at h ⊢
 lia
def Zx(p q:Pair)(x:Int):liesT (commonP p q).1 (commonP p q).2 x=(liesT p.1 p.2 x&&liesT q.1 q.2 x):=by
 obtain⟨a,b⟩:=p;obtain⟨c,d⟩:=q
 have h1:∀l g:Int,decide ((if g > l then g else l)<=x)=(decide (l<=x)&&decide (g<=x)):=λl g=>by
  rw[wx];split<;>simp<;>lia
 have J:∀l g:Int,decide (x<=(if g<l then g else l))=(decide (x<=l)&&decide (x<=g)):=λl g=>by
  rw[wx];split<;>simp<;>lia
 rcases a with _ |a<;>rcases b with _ |b<;>rcases c with _ |c<;>rcases d with _ |d<;>simp only[commonP,liesT,maxO,minO,h1,J] <;>
  (rw[wx];simp<;>try lia)
def zM2{ps qs:List Pair}{i:Nat}{c:Pair}(h:(List.zipWith commonP ps qs)[i]?=some c):∃p q,ps[i]?=some p/\qs[i]?=some q/\c=commonP p q:=by
 rw[List.getElem?_zipWith] at h
 cases J:ps[i]? with
 |none=>rw[J] at h;simp at h
 |some p=>
  cases L:qs[i]? with
  |none=>rw[J,L] at h;simp at h
  |some q=>rw[J,L] at h;exact⟨p,q,rfl,rfl,(by simpa using h.symm)⟩
def Jl{ps qs:List Pair}{i:Nat}{p q:Pair}(L:ps[i]?=some p)(J:qs[i]?=some q):(List.zipWith commonP ps qs)[i]?=some (commonP p q):=by
 rw[List.getElem?_zipWith,L,J]
def Wn{α β:Type}{l:List α}{r:List β}(h:l.length=r.length){i:Nat}{a:α}(e:l[i]?=some a):∃b,r[i]?=some b:=by
 have hi:=(zu.mp e).1
 exact⟨r[i],zd w5⟩
def jA{ps:List Pair}{p:List Int}:ZV ps p=true↔∀(i:Nat) (q:Pair) (x:Int),ps[i]?=some q->p[i]?=some x->liesT q.1 q.2 x=true:=zw4
def qW{ps:List Pair}{p:List Int}(O:ps.length=p.length)(h:ZV ps p=true):¬ ps.any wI=true:=by
 intro J;obtain⟨i,q,L,J⟩:=KZ.mp J;obtain⟨x,hx⟩:=Wn O L;have:=Kn (jA.mp h i q x L hx);rw[J] at this;cases this
def JQ{ps:List Pair}{p:List Int}(L:ps.length=p.length)(h1:1<=p.length):ZV (vK ps) p=ZV ps p:=by
 by_cases J:ps.any wI=true
 ·have W : ZV ps p = false := by
   cases h:ZV ps p with
   |false=>rfl
   |true=>exact(qW L h J).elim
  have O:ZV (vK ps) p=false:=by
   cases h:ZV (vK ps) p with
   |false=>rfl
   |true=>
    refine(qW (by rw[Zb];exact L) h ?_).elim
    rw[Zc J]
    exact zs4 w5
  rw[W,O]
 ·rw[qJ J]
def QS{ps qs:List Pair}{p:List Int}(h1:ps.length=p.length)(W:qs.length=p.length):ZV (List.zipWith commonP ps qs) p=(ZV ps p&&ZV qs p):=by
 rw[wx,zL,jA,jA,jA]
 constructor
 ·intro h;refine⟨λi q x L hx=>?_,λi q x L hx=>?_⟩
  ·obtain⟨O,J⟩:=Wn (h1.trans W.symm) L;have:=h i _ x (Jl L J) hx;rw[Zx,zL] at this;exact this.1
  ·obtain⟨O,J⟩:=Wn (W.trans h1.symm) L;have:=h i _ x (Jl J L) hx;rw[Zx,zL] at this;exact this.2
 ·rintro⟨ha,hb⟩ i q x L hx;obtain⟨Y,O,e1,e2,rfl⟩:=zM2 L;rw[Zx,ha i Y x e1 hx,hb i O x e2 hx];rfl
def zf0{ps qs:List Pair}{p:List Int}(h1:ps.length=p.length)(J:qs.length=p.length)(h:1<=p.length):ZV (kw ps qs) p=(ZV ps p&&ZV qs p):=by
 unfold kw
 rw[JQ (by rw[wD];lia) h,QS h1 J]
def KY{ps qs:List Pair}(O:ps.length=qs.length)(h1:1<=ps.length):vn ps qs=(List.zipWith commonP ps qs).any wI:=by
 unfold vn kw
 by_cases J:(List.zipWith commonP ps qs).any wI=true
 ·rw [Zc J, J]
  obtain⟨k,hk⟩:∃k,(List.zipWith commonP ps qs).length=k+1:=⟨ps.length-1,by rw[wD];lia⟩
  rw[hk];rfl
 ·rw [qJ J]
  cases hz:List.zipWith commonP ps qs with
  |nil=>rfl
  | cons c r =>
   rw[hz] at J;show wI c=(c::r).any wI
   cases h:wI c with
   |false=>
    cases L:(c::r).any wI with
    |false=>rfl
    |true=>exact(J L).elim
   |true=>exact(J (by simp[h])).elim
def zw3{ps qs:List Pair}{p:List Int}(h1:ps.length=p.length)(L:qs.length=p.length)(h:1<=p.length)(ha:ZV ps p=true)(J:ZV qs p=true):vn ps qs=false:=by
 rw[KY w5 w5]
 have:ZV (List.zipWith commonP ps qs) p=true:=by rw[QS h1 L,ha,J];rfl
 have:=qW (by rw[wD];lia) this
 cases hz:(List.zipWith commonP ps qs).any wI with
 |false=>rfl
 |true=>exact(this hz).elim
def zh2{bs qs:List Pair}(O:bs.length=qs.length)(h:∀(i:Nat) b q,bs[i]?=some b->qs[i]?=some q->commonP b q=b)(W:¬ bs.any wI=true):kw bs qs=bs:=by
 have e:List.zipWith commonP bs qs=bs:=by
  apply ext_getElem?;intro i;rw[List.getElem?_zipWith]
  cases L:bs[i]? with
  |none=>simp
  |some b=>
   obtain⟨q,J⟩:=Wn O L;rw[J];simp[h i b q L J]
 unfold kw;rw[e,qJ W]
def zh0{ps qs:List Pair}(h:kw ps qs=ps):jW ps qs=true:=by unfold jW;exact xm h
def xE8(o:Option Int)(k:Nat):okE (WK o) k=true:=by cases o<;>simp[okE]
def QK(p:Pair)(k:Nat):okE (xR p) (k+1)=true:=qS.mpr λd hd=>by
 simp only[zk,xg,or_false] at hd
 rcases hd with rfl |rfl<;>exact xE8 _ _
def xG3(a b:Option Int):eqD (WK a) (WK b)=decide (a=b):=by
 rcases a with _ |a<;>rcases b with _ |b<;>simp[eqD]
 rfl
def zF8(p q:Pair):eqD (xR p) (xR q)=decide (p=q):=by
 obtain⟨a,b⟩:=p;obtain⟨c,d⟩:=q;unfold xR;simp only[eqD,YF,xG3,Bool.and_true];rw[wx];simp
section
variable {P:Program}{w:World}{K:W.Frag}{mg:QqM}{base:Heap}{f:Addr}{fd:FuncData}
abbrev ji:Stmt:=top 8
abbrev Jf:List Str:=["one","other"]
def VI:FnScope Jf q0 (xi ji):=⟨rfl,rfl,rfl,x3,rfl,x3,x3⟩
def jf:TF:=λds n Q=>∃a b:Option Int,ds=[WK a,WK b]/\Q (WK (maxO a b)) n
def VW(T:Blt mg)(F:Fun K "greater_of" "greater_of" ji f fd):FnOk P w K mg base CX0 1 f fd q0 (spD K 2 jf):=by
 refine Fun.okD F VI (λJ W outer s H E G Z L=>(zG (vt (PWD.pt (WY (wh jd jc (zh 0) vq (wK _)) (Yt (wh jd jc (zh 1) vq (wK _))))) (zU (xQ (VU (wh jd jc (zh 0) vq (wK _)) (zh 1) (zh 0)))) yj)
  (zU (xQ (wn (KO rfl) zu2 T.max Vt (zc (zh 0) (zc (zh 1) zm))))))) ?_
 rintro ds n Q O ⟨a,b,rfl,q⟩
 rcases a with _ |a<;>rcases b with _ |b<;>simp[startD]<;>exact q
abbrev Zg:Stmt:=top 9
abbrev Qk:List Str:=["one","other"]
def UL:FnScope Qk q0 (xi Zg):=⟨rfl,rfl,rfl,x3,rfl,x3,x3⟩
def jZ:TF:=λds n Q=>∃a b:Option Int,ds=[WK a,WK b]/\Q (WK (minO a b)) n
def UZ(T:Blt mg)(F:Fun K "lesser_of" "lesser_of" Zg f fd):FnOk P w K mg base CX0 1 f fd q0 (spD K 2 jZ):=by
 refine Fun.okD F UL (λJ W outer s H E G Z L=>(zG (vt (PWD.pt (WY (wh jd jc (zh 0) vq (wK _)) (Yt (wh jd jc (zh 1) vq (wK _))))) (zU (xQ (VU (wh jd jc (zh 0) vq (wK _)) (zh 1) (zh 0)))) yj)
  (zU (xQ (wn (Wj rfl) JW T.min Vs (zc (zh 0) (zc (zh 1) zm))))))) ?_
 rintro ds n Q O ⟨a,b,rfl,q⟩
 rcases a with _ |a<;>rcases b with _ |b<;>simp[startD]<;>exact q
abbrev qM:Stmt:=top 10
abbrev Uz:List Str:=["one","other"]
def Wr:FnScope Uz q0 (xi qM):=⟨rfl,rfl,rfl,x3,rfl,x3,x3⟩
def qI:TF:=λds n Q=>∃p q:Pair,ds=[xR p,xR q]/\Q (xR (commonP p q)) n
def Wx(F:Fun K "common_pair" "common_pair" qM f fd)(F_greater_of:Fn P w K mg base "greater_of" 1 2 jf)(F_lesser_of:Fn P w K mg base "lesser_of" 1 2 jZ):FnOk P w K mg base CX0 2 f fd q0 (spD K 2 qI):=by
 refine Fun.okD F Wr (λL W outer s H E G Z J=>(zU (xQ (yn (zc (yf F_greater_of (J.mono w6) rfl (zc (wO xJ wN (zh 0) zA (λ_ _=>rfl)) (zc (wO xJ wN (zh 1) zA (λ_ _=>rfl)) zm))) (zc (yf F_lesser_of (J.mono w6) rfl (zc (wO xJ wN (zh 0) zA (λ_ _=>rfl)) (zc (wO xJ wN (zh 1) zA (λ_ _=>rfl)) zm))) zm)))))) ?_
 rintro ds n Q O ⟨p,p',rfl,q⟩;simp[startD,xR];refine⟨p.1,p'.1,rfl,?_⟩;simp;refine⟨p.2,p'.2,rfl,?_⟩;simp;exact q
def zH9(b:List Pair)(p:List Pair):WN (b.map xR) (p.map xR)=(b.zip p).map λx=>.tup [xR x.1,xR x.2]:=by
 unfold WN;rw[zipWith_map,yg];rfl
abbrev VN:Stmt:=top 11
abbrev UA:List Str:=["one","other"]
def zj3:FnScope UA q0 (xi VN):=⟨rfl,rfl,rfl,x3,rfl,x3,x3⟩
def XO:("mine" :: "yours" :: UA:List Str).Nodup:=x3
def VE:TF:=λds n Q=>∃ps qs:List Pair,ds=[xy ps,xy qs]/\ps.length<=1000/\Q (xy (kw ps qs)) n
def zn5(T:Blt mg)(F:Fun K "common" "common" VN f fd)(F_settled:Fn P w K mg base "settled" 2 1 ZH)(F_common_pair:Fn P w K mg base "common_pair" 2 2 qI):FnOk P w K mg base CX0 3 f fd q0 (spD K 2 VE):=by
 refine Fun.okD F zj3 (λaa A0 outer s H E G Z L=>(zU (xQ (yf F_settled (L.mono w6) rfl (zc (vC (own:=["mine","yours"]) (M:=UA) (vH (by rfl)) rfl (XD rfl T.zip (zc (zh 0) (zc (zh 1) zm))) (λC J W O=>(vh (k:=2) rfl rfl (xf (zV (i:=0) XO rfl (lo rfl) w6) (xf (zV (i:=1) XO rfl (lo rfl) w6) yw)))) (λC J W O=>yU) (λC J W O=>(yf F_common_pair (L.mono w6) rfl (zc (zh 0) (zc (zh 1) zm))))) zm))))) ?_
 rintro ds n Q hl ⟨ps,qs,rfl,hz,q⟩;have n1:we (xy ps)=true:=rfl;have n2:we (xy qs)=true:=rfl;simp[startD,n1,n2];refine(jU (d1:=xy ps) (d2:=xy qs) rfl rfl).mpr ?_;rw[zH9]
 refine ye (λx=>.tup [xR x.1,xR x.2]) (λx:Pair × Pair=>xR (commonP x.1 x.2)) (ps.zip qs) (zD (by rw[yK];lia) (wU (k:=1000) w5)) (λx hx R hR=>?_) ?_
 ·have n3:we (xR x.1)=true:=rfl;have Y:we (xR x.2)=true:=rfl;simp[n3,Y];exact⟨x.1,x.2,rfl,hR⟩
 ·refine ⟨List.zipWith commonP ps qs, _, rfl, .inl ?_, by rw [wD]; lia, q⟩
  have e:List.zipWith commonP ps qs=(ps.zip qs).map λx=>commonP x.1 x.2:=by rw[yg];rfl
  rw[e,zB];rfl
abbrev Zf:Stmt:=top 12
abbrev Qj:List Str:=["one","other"]
def UK:FnScope Qj q0 (xi Zf):=⟨rfl,rfl,rfl,x3,rfl,x3,x3⟩
def jY:TF:=λds n Q=>∃ps qs:List Pair,ds=[xy ps,xy qs]/\1<=ps.length/\ps.length=qs.length/\ps.length<=1000/\Q (.bl (vn ps qs)) n
def UY(F:Fun K "lie_apart" "lie_apart" Zf f fd)(F_is_crossed:Fn P w K mg base "is_crossed" 1 1 qk)(F_common:Fn P w K mg base "common" 3 2 VE):FnOk P w K mg base CX0 4 f fd q0 (spD K 2 jY):=by
 refine Fun.okD F UK (λaa A0 outer s H E G Z L=>(zU (xQ (yf F_is_crossed (L.mono w6) rfl (zc (wO xJ wN (yf F_common (L.mono w6) rfl (zc (zh 0) (zc (zh 1) zm))) zA (λ_ _=>rfl)) zm))))) ?_
 rintro ds n Q hl ⟨ps,qs,rfl,h1,h2,hz,q⟩;have Y:we (xy ps)=true:=rfl;have W:we (xy qs)=true:=rfl;simp[startD,Y,W];refine⟨ps,qs,rfl,hz,?_⟩;have J:=zf7 h2;unfold vn at q
 cases O:kw ps qs with
 |nil=>rw[O] at J;simp at J;lia
 |cons c r=>
  rw[O] at q;simp[xy];exact⟨c,rfl,q⟩
def UC(qs:QqI)(i:Nat):List Int:=qs.map λq=>q[i]?.getD 0
theorem qF:∀{ns:List Int},0<ns.length->∃M,M∈ns/\∀a∈ns,M<=a
 |[x],_=>⟨x,by simp,by simp⟩
 |x::y::r,_=>by
  obtain⟨M,h1,J⟩:=qF (ns:=y::r) (by simp)
  by_cases h:x<=M
  ·exact⟨x,by simp,λa ha=>by rcases zk.mp ha with rfl |ha;exact yz _;have:=J a ha;lia⟩
  ·exact⟨M,zj _ h1,λa ha=>by rcases zk.mp ha with rfl |ha;lia;exact J a ha⟩
theorem ka:∀{ns:List Int},0<ns.length->∃M,M∈ns/\∀a∈ns,a<=M
 |[x],_=>⟨x,by simp,by simp⟩
 |x::y::r,_=>by
  obtain⟨M,h1,J⟩:=ka (ns:=y::r) (by simp)
  by_cases h:M<=x
  ·exact⟨x,by simp,λa ha=>by rcases zk.mp ha with rfl |ha;exact yz _;have:=J a ha;lia⟩
  ·exact⟨M,zj _ h1,λa ha=>by rcases zk.mp ha with rfl |ha;lia;exact J a ha⟩
open Classical in
noncomputable def zg5(ns:List Int):Int:=if h:∃M,M∈ns/\∀a∈ns,M<=a then choose h else 0
open Classical in
noncomputable def WD(ns:List Int):Int:=if h:∃M,M∈ns/\∀a∈ns,a<=M then choose h else 0
def jw{ns:List Int}(h:∃M,M∈ns/\∀a∈ns,M<=a):zg5 ns∈ns/\∀a∈ns,zg5 ns<=a:=by unfold zg5;rw[dif_pos h];exact Classical.choose_spec h
def kF{ns:List Int}(h:∃M,M∈ns/\∀a∈ns,a<=M):WD ns∈ns/\∀a∈ns,a<=WD ns:=by unfold WD;rw[dif_pos h];exact Classical.choose_spec h
def VZ{ns:List Int}{M:Int}(h1:M∈ns)(J:∀a∈ns,M<=a):M=zg5 ns:=by
 obtain⟨O,L⟩:=jw ⟨M,h1,J⟩;have:=J _ O;have:=L _ h1;lia
def Ub{ns:List Int}{M:Int}(h1:M∈ns)(J:∀a∈ns,a<=M):M=WD ns:=by
 obtain⟨O,L⟩:=kF ⟨M,h1,J⟩;have:=J _ O;have:=L _ h1;lia
def Vh{ns:List Int}{k:D->Prop}(h:0<ns.length)(q:k (.int (zg5 ns))):xj6 [.lst (ns.map D.int)] k:=⟨ns,rfl,h,λM h1 J=>by rw[VZ h1 J];exact q⟩
def Vi{ns:List Int}{k:D->Prop}(h:0<ns.length)(q:k (.int (WD ns))):xj9 [.lst (ns.map D.int)] k:=⟨ns,rfl,h,λM h1 J=>by rw[Ub h1 J];exact q⟩
end
def QX(xs:List D)(b:Nat)(J:b<=xs.length):Vp xs (some (b:Int)) none=xs.drop b:=by
 unfold Vp
 rw[HT.zj5,HT.Qv,Nat.min_eq_left J,yl (by rw[length_drop];lia)]
def zt8(xs:List D)(e:Nat)(J:e<=xs.length):Vp xs none (some (e:Int))=xs.take e:=by
 unfold Vp;rw[HT.zj5,HT.Qv,Nat.min_eq_left J,List.drop_zero,Nat.sub_zero]
def QD{α β:Type}{f:α->β}:∀{l:List β}{ts:List α},l.Perm (ts.map f)->∃L:List α,L.Perm ts/\l=L.map f:=by
 intro l ts h;generalize J:ts.map f=m at h
 induction h generalizing ts with
 |nil=>
  cases ts with
  |nil=>exact⟨[],.nil,rfl⟩
  |cons _ _=>simp at J
 | cons x p ih =>
  cases ts with
  |nil=>simp at J
  |cons a ts=>
   obtain⟨e1,Y⟩:=List.cons.inj J;obtain⟨L,h1,rfl⟩:=ih Y
   exact⟨a::L,h1.cons a,by rw[<- e1];rfl⟩
 | swap x y l =>
  cases ts with
  |nil=>simp at J
  | cons a ts =>
   cases ts with
   |nil=>simp at J
   |cons b ts=>
    obtain⟨e1,Y⟩:=List.cons.inj J;obtain⟨e3,e4⟩:=List.cons.inj Y
    exact⟨b::a::ts,.swap a b ts,by rw[<- e1,<- e3,<- e4];rfl⟩
 |trans p q W O=>
  obtain⟨r2,h2,rfl⟩:=O J;obtain⟨r1,h1,rfl⟩:=W rfl;exact⟨r1,h1.trans h2,rfl⟩
structure GoodU(d:Nat)(ts:List Thing):Prop where
 each:∀t∈ts,t.2.1.length=d
 nd:(ts.map λt=>t.1).Nodup
def GoodT.u{d:Nat}{ts:List Thing}{x:Int}(h:GoodT d ts x):GoodU d ts:=⟨λt ht=>(h.each t ht).2.2.1,h.nodup⟩
def GoodU.perm{d:Nat}{ts J:List Thing}(h:GoodU d ts)(p:J.Perm ts):GoodU d J:=⟨λt ht=>h.each t (p.mem_iff.mp ht),(p.map _).nodup_iff.mpr h.nd⟩
def GoodU.sub{d:Nat}{ts J:List Thing}(h:GoodU d ts)(p:J.Sublist ts):GoodU d J:=⟨λt ht=>h.each t (p.mem ht),(p.map _).nodup h.nd⟩
def qd(t:Thing):Key:=Sum.inl t.1
def byN(ts:List Thing):D:=.dct (ts.map qd) (ts.map xI)
@[simp] theorem xN4(ts:List Thing):we (byN ts)=true:=id rfl
theorem YD:∀{ts:List Thing}{x:Int},x ∉ ts.map (λt=>t.1)->zF2 (ts.map qd) (Sum.inl x)=false
 |[],x,_=>rfl
 |t::ts,x,h=>by
  have h1:¬ t.1=x:=λe=>h (by simp[e])
  have J:=YD (ts:=ts) (x:=x) λz=>h (zj _ z);show(decide (qd t=Sum.inl x)||zF2 (ts.map qd) (Sum.inl x))=false;rw[J,Bool.or_false];exact zN λe=>h1 (Sum.inl.inj e)
theorem Yc:∀{ts:List Thing}{t:Thing},t∈ts->(ts.map λt=>t.1).Nodup->atK (ts.map qd) (ts.map xI) (Sum.inl t.1)=some (xI t)
 |[],t,h,_=>by simp at h
 | s :: ts, t, h, J => by
  have hn':=xu.mp J
  show(if qd s=Sum.inl t.1 then some (xI s) else atK (ts.map qd) (ts.map xI) (Sum.inl t.1))=_
  rcases zk.mp h with rfl |h
  ·exact if_pos rfl
  ·have : ¬ qd s = Sum.inl t.1 := λe => by
    have e':s.1=t.1:=Sum.inl.inj e;exact hn'.1 (zi.mpr ⟨t,h,e'.symm⟩)
   rw[if_neg this];exact Yc h hn'.2
def xi4(ts:List Thing):D:=.tup (ts.map λt=>.int t.1)
@[simp] theorem xi2(ts:List Thing):we (xi4 ts)=true:=id rfl
@[simp] theorem xi1(ps:List Pair):we (xy ps)=true:=id rfl
@[simp] theorem xi0(p:List Int):we (yd p)=true:=id rfl
@[simp] theorem xh9(t:Thing):we (xI t)=true:=id rfl
noncomputable def jS(d:Nat)(qs:QqI):List Pair:=(List.range d).map λi=>(some (zg5 (UC qs i)),some (WD (UC qs i)))
inductive Tr where
 |one (name:Int) (bd:List Pair)
 |two (ns:List Int) (bd:List Pair) (low high:Tr)
def vI:Tr->D
 |.one x bd=>.tup [.tup [.int x],xy bd,.non,.non]
 |.two ns bd l h=>.tup [.tup (ns.map D.int),xy bd,vI l,vI h]
def vF(t:Tr):we (vI t)=true:=by cases t<;>rfl
section
variable {P:Program}{w:World}{K:W.Frag}{mg:QqM}{base:Heap}{f:Addr}{fd:FuncData}
abbrev kK:Stmt:=top 14
abbrev kR:List Str:=["house"]
def Yj:FnScope kR ["house"] (xi kK):=⟨rfl,rfl,rfl,x3,rfl,x3,x3⟩
def Zv:("thing" :: kR:List Str).Nodup:=x3
def zM6:TF:=λds n Q=>∃(J:D) (ts:List Thing),ds=[.tup [J,.tup (ts.map xI)]]/\(ts.map λt=>t.1).Nodup/\ts.length<=1000/\Q (byN ts) n
def xh0(T:Blt mg)(F:Fun K "things_by_name" "things_by_name" kK f fd):FnOk P w K mg base CX0 1 f fd ["house"] (spD K 1 zM6):=by
 refine Fun.okD F Yj (λaa A0 outer s H E G Z hr=>(zU (xQ (zB9 (own:=["thing"]) (M:=kR) (vH (by rfl)) rfl (vo rfl (wO xJ wN (zh 0) zA (λ_ _=>rfl))) (λC O H2 fp=>(zV (i:=0) Zv rfl (lo rfl) w6)) (λC O H2 fp=>yU) (λC O H2 fp=>(wO xJ wN (zh 0) zA (λ_ _=>rfl))) (λC O H2 fp=>(zh 0)))))) ?_
 rintro ds n Q hl ⟨dd,ts,rfl,hn,hz,q⟩;have e1:atI [dd,D.tup (ts.map xI)] 1=some (D.tup (ts.map xI)):=rfl;simp[startD,e1]
 refine⟨by rw[zg];exact wU hz,λi ks es n'=>n'=n/\ks=(ts.take i).map qd/\es=(ts.take i).map xI,⟨rfl,rfl,rfl⟩,?_,?_⟩
 ·rintro i d ks es n' e ⟨rfl, rfl, rfl⟩;rw[zw] at e
  cases J:ts[i]? with
  |none=>rw[J] at e;cases e
  | some t =>
   rw[J] at e;cases e;have nt:we (xI t)=true:=rfl;simp[nt];have e2:∀R:D->Prop,R (.int t.1)->WV (xI t) (.int 0) R:=λR h=>⟨_,_,_,.inr (.inl rfl),rfl,rfl,h⟩;refine e2 _ ?_;refine⟨_,rfl,?_,?_⟩
   ·have hk : zF2 ((ts.take i).map qd) (Sum.inl t.1) = false := YD λW => by
     have Y:(ts.take i++[t]).Sublist ts:=by
      have:ts.take i++[t]=ts.take (i+1):=by rw[xq,J];rfl
      rw[this];exact yO ..
     have L:=(Y.map λt=>t.1).nodup hn;rw[zK,xG] at L
     exact L.2.2 _ W _ (by simp) rfl
    unfold VQ;rw[yQ] at hk
    rw[if_neg (by rw[hk];simp),xq,zw,J];rfl
   ·have hk : zF2 ((ts.take i).map qd) (Sum.inl t.1) = false := YD λW => by
     have Y:(ts.take i++[t]).Sublist ts:=by
      have:ts.take i++[t]=ts.take (i+1):=by rw[xq,J];rfl
      rw[this];exact yO ..
     have L:=(Y.map λt=>t.1).nodup hn;rw[zK,xG] at L
     exact L.2.2 _ W _ (by simp) rfl
    unfold zk7;rw[yQ] at hk
    rw[if_neg (by rw[hk];simp),xq,zw,J];rfl
 ·rintro ks es n' ⟨rfl,rfl,rfl⟩;rw[zg,wj];exact q
end
inductive TreeOf(d:Nat):List Thing->Tr->Prop where
  |one {t:Thing}:t.2.1.length=d->TreeOf d [t] (.one t.1 (jS d [t.2.1]))
  |two {ts ls hs:List Thing}{ns:List Int}{low high:Tr}:(ls++hs).Perm ts->ns.Perm (ts.map λt=>t.1)->ns.Pairwise (·<=·)->TreeOf d ls low->TreeOf d hs high->TreeOf d ts (.two ns (jS d (ts.map λt=>t.2.1)) low high)
def TreeOf.ne{d:Nat}{ts:List Thing}{tr:Tr}(h:TreeOf d ts tr):1<=ts.length:=by
 induction h with
 |one=>simp
 |two p _ _ _ _ h1 J=>have:=p.length_eq;rw[zy] at this;lia
def TreeOf.lens{d:Nat}{ts:List Thing}{tr:Tr}(h:TreeOf d ts tr):∀t∈ts,t.2.1.length=d:=by
 induction h with
 |one h=>intro t ht;rw[zF.mp ht];exact h
 |two p _ _ _ _ h1 J=>
  intro t ht
  rcases zS.mp (p.mem_iff.mpr ht) with h |h
  ·exact h1 t h
  ·exact J t h
def Wq:Tr->List Pair
 |.one _ bd=>bd
 |.two _ bd _ _=>bd
def xx:Tr->List Int
 |.one x _=>[x]
 |.two ns _ _ _=>ns
def TreeOf.bd{d:Nat}{ts:List Thing}{tr:Tr}(h:TreeOf d ts tr):Wq tr=jS d (ts.map λt=>t.2.1):=by cases h<;>rfl
def za1(ts:List Thing)(i:Nat):List Int:=UC (ts.map λt=>t.2.1) i
def Wi(ts:List Thing)(i:Nat):za1 ts i=ts.map λt=>t.2.1[i]?.getD 0:=by unfold za1 UC;rw[zB];rfl
noncomputable def loN(ts:List Thing)(i:Nat):Int:=zg5 (za1 ts i)
noncomputable def hiN(ts:List Thing)(i:Nat):Int:=WD (za1 ts i)
def xn5{d i:Nat}(ts:List Thing)(hi:i<d):(jS d (ts.map λt=>t.2.1))[i]?=some (some (loN ts i),some (hiN ts i)):=by
 unfold jS;rw[zw,yk hi];rfl
def qY(d:Nat)(qs:QqI):(jS d qs).length=d:=by unfold jS;rw[zg,List.length_range]
def Xl{ts:List Thing}{i:Nat}(h:1<=ts.length):0<(za1 ts i).length:=by rw[Wi,zg];exact h
def zK2{ts:List Thing}{i:Nat}(h:1<=ts.length){x:Int}(hx:x∈za1 ts i):loN ts i<=x:=(jw (qF (Xl h))).2 x hx
def zK3{ts:List Thing}{i:Nat}(h:1<=ts.length){x:Int}(hx:x∈za1 ts i):x<=hiN ts i:=(kF (ka (Xl h))).2 x hx
def JL{ts:List Thing}{i:Nat}(h:1<=ts.length):loN ts i∈za1 ts i:=(jw (qF (Xl h))).1
def JP{ts:List Thing}{i:Nat}(h:1<=ts.length):hiN ts i∈za1 ts i:=(kF (ka (Xl h))).1
def za0{ls ts:List Thing}{i:Nat}(h:∀t∈ls,t∈ts){x:Int}(hx:x∈za1 ls i):x∈za1 ts i:=by
 rw[Wi] at hx ⊢;obtain⟨t,ht,e⟩:=zi.mp hx;exact zi.mpr ⟨t,h t ht,e⟩
def zT3{ls ts:List Thing}{i:Nat}(h:∀t∈ls,t∈ts)(h1:1<=ls.length)(J:1<=ts.length):loN ts i<=loN ls i/\hiN ls i<=hiN ts i:=
 ⟨zK2 J (za0 h (JL h1)),zK3 J (za0 h (JP h1))⟩
def xE9(bd pl:List Pair):Str:=if vn bd pl=true then "out" else if jW bd pl=true then "in" else "cut"
def qa:Tr->Nat
 |.one _ _=>1
 |.two _ _ L J=>1+qa L+qa J
def WM:Tr->Nat
 |.one _ _=>0
 |.two _ _ L J=>1+max (WM L) (WM J)
def TreeOf.size{d:Nat}{ts:List Thing}{tr:Tr}(h:TreeOf d ts tr):qa tr+1=2*ts.length:=by
 induction h with
 |one=>rfl
 |two p _ _ _ _ h1 J=>have:=p.length_eq;rw[zy] at this;unfold qa;lia
def zR3{d:Nat}(hd:1<=d){p:List Int}(hp:p.length=d){pl:List Pair}(hl:pl.length=d):xE9 (jS d [p]) pl ≠ "cut" := by
 unfold xE9
 by_cases ha:vn (jS d [p]) pl=true
 ·rw[if_pos ha];decide
 ·rw [if_neg ha]
  have hw:jW (jS d [p]) pl=true:=by
   rw[KY (by rw[qY,hl]) (by rw[qY];exact hd)] at ha
   have pt:∀(i:Nat) (b:Pair),(jS d [p])[i]?=some b->∃x:Int,b=(some x,some x):=λi b W=>by
    unfold jS at W;rw[zw] at W
    by_cases hi:i<d
    ·rw [yk hi] at W;have e1:UC [p] i=[p[i]?.getD 0]:=rfl
     have m1:zg5 (UC [p] i)=p[i]?.getD 0:=(VZ (ns:=UC [p] i) (by rw[e1];simp) (by rw[e1];simp)).symm
     have m2:WD (UC [p] i)=p[i]?.getD 0:=(Ub (ns:=UC [p] i) (by rw[e1];simp) (by rw[e1];simp)).symm
     refine⟨p[i]?.getD 0,?_⟩;rw[<- zP W];show(some (zg5 (UC [p] i)),some (WD (UC [p] i)))=_;rw[m1,m2]
    ·rw[wW (by simp;lia)] at W;cases W
   refine zh0 (zh2 (by rw[qY,hl]) (λi b q W hq=>?_) λhc=>?_)
   ·obtain ⟨x, rfl⟩ := pt i b W
    have J:wI (commonP (some x,some x) q)=false:=by
     cases Y:wI (commonP (some x,some x) q) with
     |false=>rfl
     |true=>exact absurd (KZ.mpr ⟨i,_,Jl W hq,Y⟩) ha
    obtain⟨a,b⟩:=q
    cases a with
    | none => cases b with
     |none=>rfl
     |some g=>
      simp[commonP,maxO,minO,wI] at J ⊢
      by_cases O:g<x
      ·rw[if_pos O] at J;lia
      ·exact λh=>absurd h O
    | some l => cases b with
     |none=>
      simp[commonP,maxO,minO,wI] at J ⊢
      by_cases O:x<l
      ·rw[if_pos O] at J;lia
      ·exact λh=>absurd h O
     | some g =>
      simp[commonP,maxO,minO,wI] at J ⊢
      constructor
      ·by_cases O : x < l
       ·rw [if_pos O] at J
        by_cases L:g<x
        ·rw[if_pos L] at J;lia
        ·rw[if_neg L] at J;lia
       ·exact λh=>absurd h O
      ·by_cases L : g < x
       ·rw [if_pos L] at J
        by_cases O:x<l
        ·rw[if_pos O] at J;lia
        ·rw[if_neg O] at J;lia
       ·exact λh=>absurd h L
   ·obtain⟨i,b,W,Y⟩:=KZ.mp hc;obtain⟨x,rfl⟩:=pt i b W;simp[wI] at Y
  rw[if_pos hw];decide
def ZY(t:Tr):∃a b,vI t=.tup [.tup ((xx t).map D.int),xy (Wq t),a,b]/\we a=true/\we b=true:=by
 cases t with
 |one x bd=>exact⟨_,_,rfl,rfl,rfl⟩
 |two ns bd l h=>exact⟨_,_,rfl,vF l,vF h⟩
def qB(b:List Jc):(wZ b).length=b.length:=by unfold wZ;rw[Zb,zg]
section
variable {P:Program}{w:World}{K:W.Frag}{mg:QqM}{base:Heap}{f:Addr}{fd:FuncData}
end
def xN5(i:Nat)(t:Thing):SRow:=⟨.n (t.2.1[i]?.getD 0),t.1,[]⟩
structure JBd(d:Nat)(ts:List Thing)(i:Nat)(rho:Rho)(n:Nat)(n0:Nat):Prop where
 e:n=n0
 r:∃(u v:Option D),rho=[some (.lst (ts.map xI)),some (.lst (ts.map λt=>yd t.2.1)),some (.own (((jS d (ts.map λt=>t.2.1)).map xR).take i)),u,v]
section
variable {P:Program}{w:World}{K:W.Frag}{mg:QqM}{base:Heap}{f:Addr}{fd:FuncData}
abbrev qQ:Stmt:=top 28
abbrev kj:List Str:=["_law_things","_law_places","_law_edges","_law_i","_law_numbers"]
def vS:FnScope kj ["_law_things"] (xi qQ):=⟨rfl,rfl,rfl,x3,rfl,x3,x3⟩
def YX:("_law_thing" :: kj:List Str).Nodup:=x3
def YW:("_law_place" :: kj:List Str).Nodup:=x3
def zM7:TF:=λds n Q=>∃(d:Nat) (ts:List Thing),ds=[.lst (ts.map xI)]/\d<=4/\(∀t∈ts,t.2.1.length=d)/\1<=ts.length/\ts.length<=60/\Q (xy (jS d (ts.map λt=>t.2.1))) n
def xh1(T:Blt mg)(F:Fun K "_law_bounds" "_law_bounds" qQ f fd):FnOk P w K mg base CX0 1 f fd ["_law_things"] (spD K 1 zM7):=by
 refine Fun.okD F vS (λac A0 outer s H E G Z hr=>(zG (Zn (i:=1) vS.nd rfl (lo rfl) (own:=["_law_thing"]) (M:=kj) (vH (by rfl)) rfl (vo rfl (zh 0)) (λC O H2 Y=>(zV (i:=0) YX rfl (lo rfl) w6)) (λC O H2 Y=>yU) (λC O H2 Y=>(wO xJ wN (zh 0) zA (λ_ _=>rfl))))
  (zG (XB (i:=2) vS.nd rfl (lo rfl) zm)
  (zG (qt (m:=5) PassesOwn.never rfl (Zp T.range (zc (wn wL kX T.len ki (zc (wO xJ wN (zh 1) zA (λ_ _=>rfl)) zm)) zm)) (zV (i:=3) vS.nd rfl (lo rfl) w6)
  (zG (Zn (i:=4) vS.nd rfl (lo rfl) (own:=["_law_place"]) (M:=kj) (vH (by rfl)) rfl (vo rfl (zh 1)) (λC O H2 Y=>(zV (i:=0) YW rfl (lo rfl) w6)) (λC O H2 Y=>yU) (λC O H2 Y=>(wO xJ wN (zh 0) (zh 4) (λ_ _=>rfl))))
  (zU (kY (i:=2) (zc (yn (zc (wn (KM rfl) zu0 T.min Vs (zc (zh 4) zm)) (zc (wn (KP rfl) zu3 T.max Vt (zc (zh 4) zm)) zm))) zm) rfl))))
  (zU (Zo 2 (xQ (yV yB kg T.tuple kh (zc (zh 2) zm))))))))) ?_
 rintro ds n Q hl ⟨d,ts,rfl,hd,J,h1,aa,q⟩;generalize W:Ws (xv3 2 _) _=Rr;simp[startD]
 refine ye xI (λt=>yd t.2.1) ts (wU w5) (λt ht R W=>?_) ?_
 ·simp;exact⟨_,1,_,.inr (.inl rfl),rfl,rfl,W⟩
 ·subst W;simp
  obtain⟨L,r0,e0⟩:∃L r0,ts=L::r0:=by cases ts with |nil=>simp at h1 |cons a b=>exact⟨a,b,rfl⟩
  have m0:L∈ts:=by rw[e0];simp
  have hk:∀k:D->Prop,k (.int d)->zU2 [yd L.2.1] k:=λk h=>by unfold yd;rw[zk5,zg,J L m0];exact h
  refine⟨yd L.2.1,qh (j:=0) (by rw[e0];rfl),hk _ ⟨d,rfl,w5,w5,?_⟩⟩
  refine⟨λi rho n'=>JBd d ts i rho n' n,⟨rfl,none,none,rfl⟩,?_,?_⟩
  ·rintro i d' rho n' e ⟨rfl, u, v, rfl⟩;obtain⟨hi,rfl⟩:=WT e
   replace hi:i<d:=by simpa using hi
   have ec:(ts.map λt=>D.int (t.2.1[i]?.getD 0))=(UC (ts.map λt=>t.2.1) i).map D.int:=by unfold UC;rw[zB,zB];rfl
   have hc:0<(UC (ts.map λt=>t.2.1) i).length:=by unfold UC;rw[zg,zg];exact h1
   have hb:(jS d (ts.map λt=>t.2.1))[i]?=some (some (zg5 (UC (ts.map λt=>t.2.1) i)),some (WD (UC (ts.map λt=>t.2.1) i))):=by unfold jS;rw[zw,yk hi];rfl
   generalize hS:Jy 2 _=S;simp
   refine ye (λt:Thing=>yd t.2.1) (λt=>.int (t.2.1[i]?.getD 0)) ts (wU w5) (λt ht R W=>?_) ?_
   ·simp;unfold yd;rw[zk4];refine⟨.int (t.2.1[i]?.getD 0),qh ?_,W⟩
    rw[zw,zd (by rw[J t ht];exact hi)]
    rfl
   ·rw [ec];subst hS;simp
    refine⟨lt_size (by rw[qY];lia),Vh hc (Vi hc ⟨rfl,some (.int i),some (.lst ((UC (ts.map λt=>t.2.1) i).map D.int)),?_⟩)⟩
    rw[xq,zw,hb];rfl
  ·rintro rho n' ⟨rfl, u, v, rfl⟩;rw[jn];simp
   rw[yl (by rw[zg,qY];exact zn _)]
   exact q
abbrev vY:Stmt:=top 29
abbrev jI:List Str:=["_law_left_here","_law_d","_law_things","_law_turn","_law_names","_law_i","_law_row","_law_cut","_law_low"]
def vB:FnScope jI q2 (xi vY):=⟨rfl,rfl,rfl,x3,rfl,x3,x3⟩
def XR:("_law_thing" :: jI:List Str).Nodup:=x3
def Xq:Nat->TF
 |0=>λ_ _ _=>False
 |j+1=>λds n Q=>∃(d:Nat) (ts:List Thing) (k:Int),ds=[.st,.int d,.lst (ts.map xI),.int k]/\n=3/\1<=d/\d<=4/\GoodU d ts/\1<=ts.length/\ts.length<=60/\ts.length<=j+1/\∀tr:Tr,TreeOf d ts tr->Q (vI tr) n
def zC8{f c Pt:Addr}{fd:FuncData}(T:Blt mg)(F:Fun K "_law_grown" "_law_grown" vY f fd)(al:W.nsIn K mainGlobals "_law_grown" = some (some (.ref f)))(ag:W.tabIn K "_law_grown" = some (c,Pt))(LB:LamBase base mg c Pt)(hm:mg "_law_grown" = some (.ref f))(hk:W.keepIn K (.ref f)=true)(hb:Binds K fd ["_law_left_here","_law_d","_law_things","_law_turn"] [])(Y_pick:Fn P w K mg base "_law_pick" 1 2 YL)(Y_bounds:Fn P w K mg base "_law_bounds" 1 1 zM7):∀j:Nat,FnOk P w K mg base CX0 (j+4) f fd q2 (spD K 4 (Xq j)):=by
  intro j
  induction j with
  |zero=>exact FnOk.botK λds n Q h=>h
  | succ j ih =>
    have Y_grown:Fn P w K mg base "_law_grown" (j+4) 4 (Xq j):=⟨f,fd,_,ih,hm,hk,hb⟩
    have TI:qj K Pt (("_law_grown" ++ ".<locals>.") ++ "<lambda>"):=⟨"_law_grown",by simp[qv],c,ag,rfl⟩
    refine Fun.okL F al ag vB (λA0 outer s H E G Z L=>(zG (yS (i:=4) vB.nd rfl (lo rfl) (yV yB kg T.tuple kh (zc (wn JZ zt9 T.sorted Yb (zc (vC (own:=["_law_thing"]) (M:=jI) (vH (by rfl)) rfl (vo rfl (zh 2)) (λ_ _ _ _=>(zV (i:=0) XR rfl (lo rfl) w6)) (λ_ _ _ _=>yU) (λ_ _ _ _=>(wO xJ wN (zh 0) zA (λ_ _=>rfl)))) zm)) zm)))
    (zG (vt (wh Wv Wt (wn wL kX T.len ki (zc (zh 2) zm)) zA (wK _)) (zU (xQ (yn (zc (zh 4) (zc (yf Y_bounds (L.mono w5) rfl (zc (zh 2) zm)) (zc vq (zc vq zm))))))) yj)
    (zG (yS (i:=5) vB.nd rfl (lo rfl) (wO xJ wN (vN (zc (ZP (zh 3) (zh 1)) (zc (yf Y_pick (L.mono w5) rfl (zc (zh 0) (zc (zh 1) zm))) zm))) (yf Y_pick (L.mono w5) rfl (zc (zh 0) (zc zA zm))) (λ_ _=>rfl)))
    (zG (yS (i:=6) vB.nd rfl (lo rfl) (zd1 (N:=["_law_thing","_law_i"]) (p := "_law_thing") (clos:=[("_law_i",s.heap.objs.size+1)]) (caps:=[5]) (k:=0) TI rfl T.sorted (L.mono w5) (zc (zh 2) zm) LB (zE0 (by rfl) zG8) (Caps.one rfl rfl rfl) (λA1 f1 c1 s1 H1 G1 Z1 L=>(yn (zc (wO xJ wN (wO xJ wN (zh 0) zA (λ_ _=>rfl)) (zh 1) (λ_ _=>rfl)) (zc (wO xJ wN (zh 0) zA (λ_ _=>rfl)) zm))))))
    (zG (vt (wh Wv Wt (yf Y_pick (L.mono w5) rfl (zc (zh 0) (zc zA zm))) zA (wK _)) (zU (yS (i:=6) vB.nd rfl (lo rfl) (Yu QJ Qz (xE2 rfl (zh 6)) (xE3 rfl (zh 6))))) yj)
    (zG (yS (i:=7) vB.nd rfl (lo rfl) (wO xJ wN (vN (zc (zm3 (kC (wn wL kX T.len ki (zc (zh 6) zm)) zA) zA) (zc (kC zA (yf Y_pick (L.mono w5) rfl (zc (zh 0) (zc (qD (wn wL kX T.len ki (zc (zh 6) zm)) zA) zm)))) zm))) (yf Y_pick (L.mono w5) rfl (zc (zh 0) (zc zA zm))) (λ_ _=>rfl)))
    (zG (yS (i:=8) vB.nd rfl (lo rfl) (yf Y_grown L rfl (zc (zh 0) (zc (zh 1) (zc (zm1 rfl (zh 6) ZN (ZM (zh 7))) (zc (kC (zh 3) zA) zm))))))
    (zU (xQ (yn (zc (zh 4) (zc (yf Y_bounds (L.mono w5) rfl (zc (zh 2) zm)) (zc (zh 8) (zc (yf Y_grown L rfl (zc (zh 0) (zc (zh 1) (zc (zm1 rfl (zh 6) (ZM (zh 7)) ZN) (zc (kC (zh 3) zA) zm))))) zm))))))))))))))) ?_
    rintro ds n Q hl ⟨d,ts,kt,rfl,rfl,aj,hd,hg,h1,au,hj,q⟩
    have ak:(ts.map λt=>D.int t.1)=(ts.map λt=>t.1).map D.int:=by rw[zB];rfl
    generalize Y:Ws (zc4 5 _) _=Rr
    have main:∀(F:EndsD) (ns:List Int),F.rt=Q->2<=ts.length->ns.Perm (ts.map λt=>t.1)->ns.Pairwise (·<=·) ->
        Rr F [some .st,some (.int d),some (.lst (ts.map xI)),some (.int kt),some (.tup (ns.map D.int)),none,none,none,none] 3:=λF ns hF h2 hp hs=>by
      subst Y;generalize ar:Ws (zc4 6 _) _=R6;simp
      refine⟨aj,wC w5 w5 λk1 g0 g1=>wC w6 w6 λk2 g2 g3=>?_⟩
      have ac:∀R:D->Prop,(∀i:Nat,i<d->R (.int i))->WV (.lst [.int (kt%d),.int k1]) (.int k2) R:=λR Y=>zJ4 g2 (by simpa using g3) λdd O=>by
        simp only[zk,xg,or_false] at O
        have e0:0<=kt%(d:Int):=wJ _ w5
        have e1:kt%(d:Int)<d:=yb _ w5
        rcases O with rfl |rfl
        · obtain ⟨i, e⟩ := xV e0
          rw[e]
          exact Y i w5
        · obtain ⟨i, e⟩ := xV g0
          rw[e]
          exact Y i w5
      refine ac _ λi hi=>?_;subst ar;generalize aq:Ws (sIf _ _ _) _=R7
      have rest:∀(F:EndsD) (us:List Thing),F.rt=Q->us.Perm ts->R7 F [some .st,some (.int d),some (.lst (ts.map xI)),some (.int kt),some (.tup (ns.map D.int)),some (.int i),some (.lst (us.map xI)),none,none] 3:=λF us hF hu=>by
        subst aq;generalize ao:Ws (zc4 7 _) _=R8
        have J:∀(F:EndsD) (us:List Thing),F.rt=Q->us.Perm ts->R8 F [some .st,some (.int d),some (.lst (ts.map xI)),some (.int kt),some (.tup (ns.map D.int)),some (.int i),some (.lst (us.map xI)),none,none] 3:=λF us hF hu=>by
          subst ao;have ax:=hu.length_eq;generalize am:Ws (zc4 8 _) _=R9;simp
          refine⟨⟨w6,w6⟩,wC w5 w5 λk1 g0 g1=>?_⟩
          simp
          refine wC w6 w6 λk2 g2 g3=>?_
          have ac:∀R:D->Prop,(∀m:Nat,1<=m->m<ts.length->R (.int m))->WV (.lst [.int (((us.length:Int)+1)/2),.int (1+k1)]) (.int k2) R:=λR Y=>zJ4 g2 (by simpa using g3) λdd O=>by
            simp only[zk,xg,or_false] at O
            rcases O with rfl |rfl
            · obtain ⟨m, e⟩ := xV (show 0 <= ((us.length : Int) + 1) / 2 by lia)
              rw[e]
              exact Y m w5 w5
            · obtain ⟨m, e⟩ := xV (show 0 <= 1 + k1 by lia)
              rw[e]
              exact Y m w5 w5
          refine ac _ λm az ay=>?_;subst am
          have af:Vp (us.map xI) none (some (m:Int))=(us.take m).map xI:=by rw[zt8 _ _ (by rw[zg];lia),yQ]
          have ae:Vp (us.map xI) (some (m:Int)) none=(us.drop m).map xI:=by rw[QX _ _ (by rw[zg];lia),List.map_drop]
          have gu:=hg.perm hu
          have aa:∀(vs:List Thing) (R:D->Nat->Prop),vs.Sublist us->1<=vs.length->vs.length<ts.length->(∀tr,TreeOf d vs tr->R (vI tr) 3)->Xq j [.st,.int d,.lst (vs.map xI),.int (kt+1)] 3 R:=λvs R hv h3 h4 Y=>by
            cases j with
            |zero=>lia
            |succ j=>exact⟨d,vs,kt+1,rfl,rfl,aj,hd,gu.sub hv,h3,w5,w5,Y⟩
          have lt:(us.take m).length=m:=by rw[xt];lia
          have ld:(us.drop m).length=ts.length-m:=by rw[length_drop];lia
          simp;rw[af]
          refine aa _ _ (yO ..) w5 w5 λaw ah=>?_
          simp[vF];refine⟨d,ts,rfl,hd,hg.each,h1,au,?_⟩;rw[ae]
          refine aa _ _ (List.drop_sublist ..) w5 w5 λav ad=>?_
          rw[hF]
          exact q _ (.two (by rw[List.take_append_drop];exact hu) hp hs ah ad)
        simp
        refine wC w6 w6 λk g0 g1=>?_
        simp
        split
        · rw [Um, Um, <- zK]
          have ul:=hu.length_eq;refine⟨wU ?_,J F _ hF ((Kw us).trans hu)⟩;have z1:=Xj true us;have z2:=Xj false us;simp only[zg];lia
        · exact J F us hF hu
      simp
      refine Jr xI (xN5 i) true [.int i] ts (0,[],0) w5 (λt ht=>rfl) hg.nd rfl (λi' j' e=>?_) (λt ht=>?_) λus hu _=>rest _ us hF hu
      · cases i' with
        |zero=>cases e;exact⟨_,rfl,rfl,rfl⟩
        |succ i'=>simp at e
      · simp
        have ai:i<t.2.1.length:=by rw[hg.each t ht];exact hi
        refine⟨_,1,_,.inr (.inl rfl),rfl,rfl,?_⟩
        refine⟨_,_,_,.inr (.inl rfl),rfl,qh (by rw[zw,zd ai];rfl),?_⟩
        refine⟨_,0,_,.inr (.inl rfl),rfl,rfl,?_⟩;unfold xN5;rw[zd ai];rfl
    simp[startD]
    refine ye xI (λt=>.int t.1) ts (wU w5) (λt ht R Y=>?_) ?_
    · simp
      exact⟨_,0,_,.inr (.inl rfl),rfl,rfl,Y⟩
    · rw [ak]
      refine⟨ts.map λt=>t.1,rfl,by simp;lia,λns hp hs'=>?_⟩
      simp
      split
      · rename_i h2
        have h2':ts.length=1:=w5
        obtain⟨t,rfl⟩:=List.length_eq_one_iff.mp h2'
        have e1:ns=[t.1]:=by simpa using hp
        subst e1
        refine⟨d,[t],rfl,hd,hg.each,by simp,by simp,?_⟩
        exact q _ (.one (hg.each t (by simp)))
      · rename_i h2
        exact main _ ns rfl w5 hp hs'
abbrev Zh:Stmt:=top 30
abbrev Qm:List Str:=["_law_left_here","_law_house_here"]
def UM:FnScope Qm q1 (xi Zh):=⟨rfl,rfl,rfl,x3,rfl,x3,x3⟩
def Vz:TF:=λds n Q=>∃(d:Nat) (ts:List Thing),ds=[.st,wv d ts]/\n=3/\1<=d/\d<=4/\GoodU d ts/\ts.length<=30/\(ts=[]->Q .non 3)/\(ts≠[]->∀tr:Tr,TreeOf d ts tr->Q (vI tr) 3)
def zC4(T:Blt mg)(F:Fun K "_law_tree" "_law_tree" Zh f fd)(Y_grown:Fn P w K mg base "_law_grown" 34 4 (Xq 30)):FnOk P w K mg base CX0 35 f fd q1 (spD K 2 Vz):=by
 refine Fun.okD F UM (λaa A0 outer s H E G Z L=>(zG (vt (wh (xg1 L) xb0 (wO xJ wN (zh 1) zA (λ_ _=>rfl)) (yn zm) (wK _)) (zU (xQ vq)) yj)
  (zU (xQ (yf Y_grown (L.mono w6) rfl (zc (zh 0) (zc (wO xJ wN (zh 1) zA (λ_ _=>rfl)) (zc (yV jC zu4 T.list Ut (zc (wO xJ wN (zh 1) zA (λ_ _=>rfl)) zm)) (zc zA zm))))))))) ?_
 rintro ds n Q hl ⟨d,ts,rfl,rfl,h1,hd,hg,hz,W,O⟩;have Y:=vU d ts;simp[startD,Y];refine Vl ?_;simp
 split
 ·rename_i h;exact W h
 ·rename_i h
  have J:1<=ts.length:=by
   cases ts with
   |nil=>exact absurd rfl h
   |cons a b=>simp
  refine zr1 (Vl ?_);simp
  exact⟨d,ts,0,rfl,rfl,h1,hd,hg,J,w5,w5,O h⟩
end
def jN(p:QqP)(x:Int):Int:=max 0 (max (p.1-x) (x-p.2))
def kB(bd:List (Int × Int))(pl:List Int):Int:=((bd.zip pl).map λz=>jN z.1 z.2).sum
def Za(p:QqP)(bd:List (Int × Int))(x:Int)(pl:List Int):kB (p::bd) (x::pl)=jN p x+kB bd pl:=by
 show(((p,x)::bd.zip pl).map λz=>jN z.1 z.2).sum=_;rw[zE,sum_cons];rfl
theorem Qu:∀(bd J:List (Int × Int)) (pl:List Int),bd.length=J.length->(∀(i:Nat) p q,bd[i]?=some p->J[i]?=some q->p.1<=q.1/\q.2<=p.2)->kB bd pl<=kB J pl
 |[],[],pl,_,_=>yz _
 |p::bd,q::J,[],_,_=>by
  have Y:kB (p::bd) []=0:=rfl;have W:kB (q::J) []=0:=rfl;rw[Y,W];exact yz _
 |p::bd,q::J,x::pl,L,h=>by
  have ih:=Qu bd J pl (by simpa using L) λi a b ha O=>h (i+1) a b (by simpa using ha) (by simpa using O)
  obtain⟨h1,h2⟩:=h 0 p q rfl rfl;rw[Za,Za];unfold jN;lia
noncomputable def bdI(d:Nat)(ts:List Thing):List (Int × Int):=(List.range d).map λi=>(loN ts i,hiN ts i)
def Jk(p:QqP):Pair:=(some p.1,some p.2)
def Wm(d:Nat)(ts:List Thing):(bdI d ts).length=d:=by unfold bdI;rw[zg,List.length_range]
def zv7{d i:Nat}(ts:List Thing)(hi:i<d):(bdI d ts)[i]?=some (loN ts i,hiN ts i):=by
 unfold bdI;rw[zw,yk hi];rfl
def zv6(d:Nat)(ts:List Thing):jS d (ts.map λt=>t.2.1)=(bdI d ts).map Jk:=by
 unfold jS bdI;rw[zB];rfl
noncomputable def YB(d:Nat)(kd:QqO)(ts:List Thing):Int:=match kd with
 |some pl=>kB (bdI d ts) pl
 |none=>- WD (ts.map λt=>t.2.2)
noncomputable def vf(ts:List Thing):Int:=zg5 (ts.map λt=>t.1)
noncomputable def ya(d:Nat)(kd:QqO)(ts:List Thing):Int × Int:=(YB d kd ts,vf ts)
def vw{ts:List Thing}(h:1<=ts.length):∃t∈ts,t.1=vf ts:=by
 have:=(jw (qF (ns:=ts.map λt=>t.1) (by rw[zg];exact h))).1
 obtain⟨t,ht,e⟩:=zi.mp this;exact⟨t,ht,e⟩
def ZT{ts:List Thing}{t:Thing}(h:t∈ts):vf ts<=t.1:=
 (jw (qF (ns:=ts.map λt=>t.1) (by rw[zg];exact vc h))).2 _ (zi.mpr ⟨t,h,rfl⟩)
def Ug{d:Nat}{kd:QqO}{ls ts:List Thing}(h:∀t∈ls,t∈ts)(h1:1<=ls.length):YB d kd ts<=YB d kd ls:=by
 obtain⟨Y,J⟩:=List.exists_mem_of_length_pos h1;have W:1<=ts.length:=vc (h Y J)
 cases kd with
 |some pl=>
  refine Qu _ _ _ (by rw[Wm,Wm]) λi p q L O=>?_
  have hi:i<d:=by have:=(zu.mp L).1;rw[Wm] at this;exact this
  rw[zv7 ts hi] at L;rw[zv7 ls hi] at O;cases L;cases O;exact zT3 h h1 W
 |none=>
  have a:=(kF (ka (ns:=ls.map λt=>t.2.2) (by rw[zg];exact h1))).1
  have b:=(kF (ka (ns:=ts.map λt=>t.2.2) (by rw[zg];exact W))).2
  obtain⟨t,ht,e⟩:=zi.mp a;have:=b t.2.2 (zi.mpr ⟨t,h t ht,rfl⟩);show-WD _<=- WD _;lia
def zT9{d:Nat}{kd:QqO}{t:Thing}{ts:List Thing}(h:t∈ts):ltP (ya d kd [t]) (ya d kd ts)=false:=by
 cases e:ltP (ya d kd [t]) (ya d kd ts) with
 |false=>rfl
 | true =>
  rw[kQ] at e
  have h1:YB d kd ts<=YB d kd [t]:=Ug (λu hu=>by rw[zF.mp hu];exact h) (by simp)
  have L:vf ts<=t.1:=ZT h
  have J:vf [t]=t.1:=by
   obtain⟨u,hu,e⟩:=vw (ts:=[t]) (by simp)
   rw[<- e,zF.mp hu]
  have e':YB d kd [t]<YB d kd ts\/YB d kd [t]=YB d kd ts/\vf [t]<vf ts:=e;lia
def YA(t:Thing):vf [t]=t.1:=by
 obtain⟨u,hu,e⟩:=vw (ts:=[t]) (by simp)
 rw[<- e,zF.mp hu]
def Kl{a b:QqP}(h1:ltP a b=false)(J:a.2≠b.2):ltP b a=true:=by
 rw[kQ]
 have:¬ (a.1<b.1\/(a.1=b.1/\a.2<b.2)):=λz=>by rw[<- kQ,h1] at z;cases z
 lia
def QN{a b c:QqP}(h1:ltP b a=false)(J:ltP c b=false):ltP c a=false:=by
 cases e:ltP c a with
 |false=>rfl
 |true=>
  have i1:¬ (b.1<a.1\/(b.1=a.1/\b.2<a.2)):=λz=>by rw[<- kQ,h1] at z;cases z
  have i2:¬ (c.1<b.1\/(c.1=b.1/\c.2<b.2)):=λz=>by rw[<- kQ,J] at z;cases z
  rw[kQ] at e;lia
def TreeOf.names{d:Nat}{ts:List Thing}{tr:Tr}(h:TreeOf d ts tr):(xx tr).Perm (ts.map λt=>t.1)/\(xx tr).Pairwise (·<=·):=by
  cases h with
  |one h=>exact⟨.refl _,by simp[xx]⟩
  |two p J hs _ _=>exact⟨J,hs⟩
def TreeOf.head{d:Nat}{ts:List Thing}{tr:Tr}(h:TreeOf d ts tr):∃r,xx tr=vf ts::r:=by
 obtain⟨J,hs⟩:=h.names
 cases O:xx tr with
 |nil=>
  rw[O] at J;have:=h.ne;have:=J.length_eq;simp at this;lia
 | cons a r =>
  refine⟨r,?_⟩;rw[O] at J hs
  have:a=vf ts:=VZ (J.mem_iff.mp (by simp)) λb L=>by
   rcases zk.mp (J.mem_iff.mpr L) with rfl |L
   ·exact yz _
   ·exact(wb.mp hs).1 b L
  rw[this]
def Ki{a b:List Int}(p:a.Perm b):WD a=WD b:=by
 cases ha:a with
 |nil=>
  rw[ha] at p;rw[List.nil_perm.mp p]
 |cons x r=>
  rw[<- ha]
  have h0:0<a.length:=by rw[ha];simp
  obtain⟨L,J⟩:=kF (ka h0);exact Ub (p.mem_iff.mp L) λy O=>J y (p.mem_iff.mpr O)
abbrev Qe:=List Thing × Tr
def vg(pl:List Pair)(q:List Qe):List Qe:=q.filter λx=>!vn (Wq x.2) pl
def vm(q:List Qe):List Thing:=q.flatMap λx=>x.1
structure QOk(d:Nat)(hs:List Thing)(q:List Qe):Prop where
 tree:∀x∈q,TreeOf d x.1 x.2
 sub:∀t∈vm q,t∈hs
 nd:((vm q).map λt=>t.1).Nodup
def vT{q:List Qe}{t:Thing}:t∈vm q↔∃x∈q,t∈x.1:=by unfold vm;exact List.mem_flatMap
def vp(x:Qe)(q:List Qe):vm (x::q)=x.1++vm q:=by unfold vm;rw[wq]
def jB(p q:List Qe):vm (p++q)=vm p++vm q:=by unfold vm;rw[List.flatMap_append]
def qE{p q:List Qe}(h:p.Perm q):(vm p).Perm (vm q):=h.flatMap_right _
def QOk.perm{d:Nat}{hs:List Thing}{p q:List Qe}(h:QOk d hs q)(e:p.Perm q):QOk d hs p:=
 ⟨λx hx=>h.tree x (e.mem_iff.mp hx),λt ht=>h.sub t ((qE e).mem_iff.mp ht),((qE e).map _).nodup_iff.mpr h.nd⟩
def QOk.sublist{d:Nat}{hs:List Thing}{p q:List Qe}(h:QOk d hs q)(e:p.Sublist q):QOk d hs p:=by
 have L:(vm p).Sublist (vm q):=by
  clear h
  induction e with
  |slnil=>exact .refl _
  |cons x _ J=>rw[vp];exact J.trans (wT ..)
  |cons_cons x _ J=>rw[vp,vp];exact(List.Sublist.refl _).append J
 exact⟨λx hx=>h.tree x (e.mem hx),λt ht=>h.sub t (L.mem ht),(L.map _).nodup h.nd⟩
def QOk.tail{d:Nat}{hs:List Thing}{x:Qe}{q:List Qe}(h:QOk d hs (x::q)):QOk d hs q:=h.sublist (List.sublist_cons_self ..)
def QOk.apartN{d:Nat}{hs:List Thing}{x:Qe}{q:List Qe}(h:QOk d hs (x::q)){t u:Thing}(ht:t∈x.1)(hu:u∈vm q):t.1≠u.1:=by
 have:=h.nd;rw[vp,zK,xG] at this;exact this.2.2 _ (zi.mpr ⟨t,ht,rfl⟩) _ (zi.mpr ⟨u,hu,rfl⟩)
theorem QOk.heads{d:Nat}{hs:List Thing}:∀{q:List Qe},QOk d hs q->(q.map λx=>vf x.1).Nodup
 |[],_=>nodup_nil
 |x::q,h=>by
  refine xu.mpr ⟨λz=>?_,QOk.heads h.tail⟩;obtain⟨y,J,e⟩:=zi.mp z
  obtain⟨t,ht,O⟩:=vw (h.tree x (by simp)).ne
  obtain⟨u,hu,L⟩:=vw (h.tree y (by simp[J])).ne
  exact h.apartN ht (vT.mpr ⟨y,J,hu⟩) (by rw[O,L];exact e.symm)
def Kc{α β γ:Type}{f:α->β}{g:α->γ}{l:List α}(L:∀a b,f a=f b->g a=g b)(h:(l.map g).Nodup):(l.map f).Nodup:=by
 rw[xM,xn] at h ⊢;exact h.imp λJ e=>J (L _ _ e)
def QOk.keys{d:Nat}{hs:List Thing}{q:List Qe}(kd:QqO)(h:QOk d hs q):(q.map λx=>ya d kd x.1).Nodup:=
 Kc (g:=λx:Qe=>vf x.1) (λa b e=>congrArg Prod.snd e) h.heads
theorem Qc{α β:Type}{f:α->Int × Int}{g:α->β}:∀{q:List α}{x:α},x∈q->(q.map f).Nodup->atP (q.map f) (q.map g) (f x)=some (g x)
 |[],x,h,_=>by simp at h
 |y::q,x,h,J=>by
  obtain⟨h1,L⟩:=xu.mp J
  show(if f y=f x then some (g y) else atP (q.map f) (q.map g) (f x))=_
  rcases zk.mp h with rfl |h
  ·exact if_pos rfl
  ·rw[if_neg λe=>h1 (zi.mpr ⟨x,h,e.symm⟩)];exact Qc h L
def Yv{α:Type}(f:α->Int × Int)(q:List α)(k:QqP):List α:=q.filter λy=>decide (f y≠k)
def zs7{α:Type}(f:α->Int × Int)(q:List α)(k:QqP):Xa (q.map f) k=(Yv f q k).map f:=by
 unfold Xa Yv;rw[List.filter_map];rfl
theorem KG{α β:Type}(f:α->Int × Int)(g:α->β)(k:QqP):∀q:List α,dropE (q.map f) (q.map g) k=(Yv f q k).map g
 |[]=>rfl
 | y :: q => by
  have J:=KG f g k q
  show(if f y=k then dropE (q.map f) (q.map g) k else g y::dropE (q.map f) (q.map g) k)=_
  by_cases e:f y=k
  ·rw [if_pos e, J];unfold Yv
   rw[xh (by simpa using e)]
  ·rw [if_neg e, J];unfold Yv
   rw[zY (by simpa using e),zE]
theorem jK{α:Type}{f:α->Int × Int}:∀{q:List α}{x:α},x∈q->(q.map f).Nodup->(x::Yv f q (f x)).Perm q
 |[],x,h,_=>by simp at h
 | y :: q, x, h, J => by
  obtain⟨h1,L⟩:=xu.mp J;unfold Yv
  rcases zk.mp h with rfl |h
  ·rw[xh (by simp),List.filter_eq_self.mpr λz hz=>by
    simp only[ne_eq,decide_not,Bool.not_eq_eq_eq_not,Bool.not_true,decide_eq_false_iff_not]
    exact λe=>h1 (zi.mpr ⟨z,hz,e⟩)]
  ·have e : f y ≠ f x := λe => h1 (zi.mpr ⟨x, h, e.symm⟩)
   rw[zY (by simpa using e)]
   exact(List.Perm.swap y x _).trans ((jK h L).cons y)
def QB{d:Nat}{ts:List Thing}(W:∀t∈ts,t.2.1.length=d){t:Thing}(ht:t∈ts):ZV (jS d (ts.map λt=>t.2.1)) t.2.1=true:=by
 have J:1<=ts.length:=vc ht;refine jA.mpr λi q x L hx=>?_
 have hi:i<d:=by have:=(zu.mp L).1;rw[qY] at this;exact this
 rw[xn5 ts hi] at L;cases L
 have O:x∈za1 ts i:=by rw[Wi];exact zi.mpr ⟨t,ht,by rw[hx];rfl⟩
 have:=zK2 (i:=i) J O;have:=zK3 (i:=i) J O;simp[liesT];lia
def TreeOf.apart{d:Nat}{ts:List Thing}{tr:Tr}(h:TreeOf d ts tr)(hd:1<=d){pl:List Pair}(L:pl.length=d)(ha:vn (Wq tr) pl=true):(ts.filter λt=>ZV pl t.2.1)=[]:=by
 rw[vd];intro t ht O;have J:=h.lens;rw[h.bd] at ha
 have:=zw3 (ps:=jS d (ts.map λt=>t.2.1)) (qs:=pl) (p:=t.2.1) (by rw[qY,J t ht]) (by rw[L,J t ht]) (by rw[J t ht];exact hd) (QB J ht) O
 rw[ha] at this;cases this
def zC3{d:Nat}{t:Thing}(ht:t.2.1.length=d)(hd:1<=d){pl:List Pair}(O:pl.length=d)(ha:vn (jS d [t.2.1]) pl=false):ZV pl t.2.1=true:=by
 have J:=zR3 hd ht O;unfold xE9 at J;rw[ha] at J;simp only[zZ,if_false] at J
 have L:jW (jS d [t.2.1]) pl=true:=by
  cases h:jW (jS d [t.2.1]) pl with
  |true=>rfl
  |false=>rw[h] at J;simp at J
 have e:kw (jS d [t.2.1]) pl=jS d [t.2.1]:=of_decide_eq_true (by unfold jW at L;exact L)
 have:=zf0 (ps:=jS d [t.2.1]) (qs:=pl) (p:=t.2.1) (by rw[qY,ht]) (by rw[O,ht]) (by rw[ht];exact hd)
 have z:=QB (d:=d) (ts:=[t]) (λu hu=>by rw[zF.mp hu];exact ht) (t:=t) (by simp)
 rw[e,show ZV (jS d [t.2.1]) t.2.1=true from z,Bool.true_and] at this;exact this.symm
def jP(pl:List Pair)(ts:List Thing):List Thing:=ts.filter λt=>ZV pl t.2.1
def qe(pl:List Pair)(a b:List Thing):jP pl (a++b)=jP pl a++jP pl b:=yq ..
def Ky{pl:List Pair}{a b:List Thing}(h:a.Perm b):(jP pl a).Perm (jP pl b):=h.filter _
def ltK(d:Nat)(kd:QqO)(a b:Thing):Prop:=ltP (ya d kd [a]) (ya d kd [b])=true
structure DOk(d:Nat)(hs:List Thing)(kd:QqO)(pl:List Pair)(q:List Qe)(acc:List Thing):Prop where
 ok:QOk d hs q
 inb:∀x∈q,vn (Wq x.2) pl=false
 perm:(acc++jP pl (vm q)).Perm (jP pl hs)
 up:acc.Pairwise (ltK d kd)
 below:∀a∈acc,∀t∈vm q,ltK d kd a t
theorem Uj{d:Nat}{hs:List Thing}{pl:List Pair}(hd:1<=d)(L:pl.length=d):∀{q:List Qe},(∀x∈q,TreeOf d x.1 x.2)->jP pl (vm (vg pl q))=jP pl (vm q)
 |[],_=>rfl
 | x :: q, h => by
  have J:=Uj (hs:=hs) hd L (q:=q) λy O=>h y (zj _ O);rw[vp,qe]
  cases ha:vn (Wq x.2) pl with
  |true=>
   have e:vg pl (x::q)=vg pl q:=by unfold vg;rw[xh (by simp[ha])]
   have z:jP pl x.1=[]:=(h x (by simp)).apart hd L ha
   rw[e,J,z,wf]
  |false=>
   have e:vg pl (x::q)=x::vg pl q:=by unfold vg;rw[zY (by simp[ha])]
   rw[e,vp,qe,J]
section
variable {d:Nat}{hs:List Thing}{kd:QqO}{pl:List Pair}{q:List Qe}{acc:List Thing}
def DOk.start{tr:Tr}(hd:1<=d)(J:pl.length=d)(h:TreeOf d hs tr)(L:(hs.map λt=>t.1).Nodup):DOk d hs kd pl (vg pl [(hs,tr)]) []:=by
 have ok:QOk d hs [(hs,tr)]:=⟨λx hx=>by rw[zF.mp hx];exact h,λt ht=>by simpa [vm] using ht,by simpa [vm] using L⟩
 refine⟨ok.sublist filter_sublist,λx hx=>by simpa using (zt.mp hx).2,?_,.nil,by simp⟩
 rw[wf,Uj (hs:=hs) hd J ok.tree];simp[vm]
def DOk.none(h:hs=[]):DOk d hs kd pl [] []:=by
 subst h
 exact⟨⟨by simp,by simp[vm],by simp[vm]⟩,by simp,by simp[jP,vm],.nil,by simp⟩
def DOk.leaf{t:Thing}{tr:Tr}(hd:1<=d)(hp:pl.length=d)(h:DOk d hs kd pl q acc)(hx:([t],tr)∈q)(hm:∀y∈q,ltP (ya d kd y.1) (ya d kd [t])=false) :
  DOk d hs kd pl (Yv (λy:Qe=>ya d kd y.1) q (ya d kd [t])) (acc++[t]):=by
 have L:(([t],tr)::Yv (λy:Qe=>ya d kd y.1) q (ya d kd [t])).Perm q:=jK (f:=λy:Qe=>ya d kd y.1) hx (h.ok.keys kd);have O:=h.ok.perm L;have Y:=h.ok.tree _ hx
 have hl:t.2.1.length=d:=Y.lens t (by simp)
 have hf:ZV pl t.2.1=true:=zC3 hl hd hp (by have:=h.inb _ hx;rw[Y.bd] at this;exact this)
 have J:=qE L;rw[vp] at J;generalize Yv (λy:Qe=>ya d kd y.1) q (ya d kd [t])=q' at *;refine⟨O.tail,λx hx'=>h.inb x (L.mem_iff.mp (zj _ hx')),?_,?_,λa ha u hu=>?_⟩
 ·refine List.Perm.trans ?_ h.perm;rw[yi];refine List.Perm.append_left acc ?_;refine List.Perm.trans ?_ (Ky J);rw[qe]
  have e:jP pl [t]=[t]:=by simp[jP,hf]
  show([t]++jP pl (vm q')).Perm (jP pl [t]++jP pl (vm q'));rw[e]
 ·rw [List.pairwise_append]
  refine⟨h.up,by simp,λa ha b hb=>?_⟩
  rw[zF.mp hb]
  exact h.below a ha t (vT.mpr ⟨_,hx,by simp⟩)
 ·have hu' : u ∈ vm q := J.mem_iff.mp (zp _ hu)
  rcases zS.mp ha with ha |ha
  ·exact h.below a ha u hu'
  ·rw [zF.mp ha];obtain⟨y,hy,W⟩:=vT.mp hu;have i1:=hm y (L.mem_iff.mp (zj _ hy));have i2:=zT9 (d:=d) (kd:=kd) W;refine Kl (QN i1 i2) ?_;show vf [u]≠vf [t];rw[YA,YA]
   exact λe=>O.apartN (t:=t) (by simp) hu e.symm
def DOk.open{ts ls us:List Thing}{tr lo hi:Tr}(hd:1<=d)(hp:pl.length=d)(h:DOk d hs kd pl q acc)(hx:(ts,tr)∈q)(h1:(ls++us).Perm ts)(h2:TreeOf d ls lo)(h3:TreeOf d us hi) :
  DOk d hs kd pl (Yv (λy:Qe=>ya d kd y.1) q (ya d kd ts)++vg pl [(ls,lo),(us,hi)]) acc/\QOk d hs (Yv (λy:Qe=>ya d kd y.1) q (ya d kd ts)++[(ls,lo),(us,hi)]):=by
 have W:((ts,tr)::Yv (λy:Qe=>ya d kd y.1) q (ya d kd ts)).Perm q:=jK (f:=λy:Qe=>ya d kd y.1) hx (h.ok.keys kd);have aa:=h.ok.perm W;have J:=qE W;rw[vp] at J;generalize Yv (λy:Qe=>ya d kd y.1) q (ya d kd ts)=q' at *
 have e0:vm [(ls,lo),(us,hi)]=ls++us:=by simp[vm]
 have L:(vm (q'++[(ls,lo),(us,hi)])).Perm (vm q):=by
  rw[jB,e0];exact((List.Perm.append_left _ h1).trans List.perm_append_comm).trans J
 have O:QOk d hs (q'++[(ls,lo),(us,hi)]):=⟨λx hx'=>by
   rcases zS.mp hx' with hx' |hx'
   ·exact aa.tree x (zj _ hx')
   ·simp only [zk, xg, or_false] at hx'
    rcases hx' with rfl |rfl
    ·exact h2
    ·exact h3,λt ht=>h.ok.sub t (L.mem_iff.mp ht),(L.map _).nodup_iff.mpr h.ok.nd⟩
 have Y:(q'++vg pl [(ls,lo),(us,hi)]).Sublist (q'++[(ls,lo),(us,hi)]):=(List.Sublist.refl _).append filter_sublist;refine⟨⟨O.sublist Y,λx hx'=>?_,?_,h.up,λa ha t ht=>?_⟩,O⟩
 ·rcases zS.mp hx' with hx' | hx'
  ·exact h.inb x (W.mem_iff.mp (zj _ hx'))
  ·simpa using (zt.mp hx').2
 ·refine List.Perm.trans (List.Perm.append_left acc ?_) h.perm;rw[jB,qe,Uj (hs:=hs) hd hp (λx hx'=>O.tree x (zp _ hx')),<- qe,<- jB];exact Ky L
 ·refine h.below a ha t (L.mem_iff.mp ?_);obtain⟨x,hx',ht'⟩:=vT.mp ht;exact vT.mpr ⟨x,Y.mem hx',ht'⟩
def DOk.told(hn:(hs.map λt=>t.1).Nodup)(h:DOk d hs kd pl q acc){all:List Thing}(ha:all.Perm (jP pl hs))(hs':all.Pairwise (ltK d kd)):acc=all.take acc.length:=by
 have L:∀a,¬ ltK d kd a a:=λa z=>by unfold ltK at z;rw[jx] at z;cases z
 have tr:∀a b c,ltK d kd a b->ltK d kd b c->ltK d kd a c:=λa b c=>XT
 have key:∀(acc all rest:List Thing),(acc++rest).Perm all->all.Pairwise (ltK d kd)->acc.Pairwise (ltK d kd)->(∀a∈acc,∀t∈rest,ltK d kd a t)->acc=all.take acc.length:=by
  intro acc
  induction acc with
  |nil=>intro all rest _ _ _ _;rfl
  | cons a acc ih =>
   intro all rest J hs hu O
   cases all with
   |nil=>exact absurd J.length_eq (by simp)
   | cons b all =>
    obtain⟨s1,s2⟩:=wb.mp hs;obtain⟨Y,W⟩:=wb.mp hu
    have e:a=b:=by
     have hb':b∈a::(acc++rest):=J.mem_iff.mpr (by simp)
     have ha':a∈b::all:=J.mem_iff.mp (by simp)
     rcases zk.mp hb' with e |hb'
     ·exact e.symm
     ·rcases zk.mp ha' with e | ha'
      ·exact e
      ·have i1 := s1 a ha'
       have i2:ltK d kd a b:=by
        rcases zS.mp hb' with z |z
        ·exact Y b z
        ·exact O a (by simp) b z
       exact absurd (tr _ _ _ i1 i2) (L b)
    subst e;rw[zI,List.take_succ_cons,<- ih all rest (List.Perm.cons_inv J) s2 W λx hx t ht=>O x (zj _ hx) t ht]
 exact key acc all (jP pl (vm q)) (h.perm.trans ha.symm) hs' h.up λa ha' t ht=>h.below a ha' t (zt.mp ht).1
end
def yT:Option (List Int)->D
 |some pl=>.tup [.str "near",yd pl]
 |none=>.tup [.str "best"]
@[simp] theorem zX9(k:QqO):we (yT k)=true:=by cases k<;>rfl
def wOf(hs:List Thing)(x:Int):Int:=((hs.find? λt=>t.1 == x).map λt=>t.2.2).getD 0
theorem zh7:∀{hs:List Thing}{t:Thing},t∈hs->(hs.map λt=>t.1).Nodup->wOf hs t.1=t.2.2
 |[],t,h,_=>by simp at h
 | s :: hs, t, h, J => by
  have hn':=xu.mp J;unfold wOf;rw[wg]
  rcases zk.mp h with rfl |h
  ·rw[beq_self_eq_true];rfl
  ·have ne : (s.1 == t.1) = false := by
    rw[beq_eq_false_iff_ne];intro e;exact hn'.1 (zi.mpr ⟨t,h,e.symm⟩)
   rw[ne];exact zh7 h hn'.2
def xm0{hs:List Thing}(J:(hs.map λt=>t.1).Nodup){t:Thing}(ht:t∈hs){R:D->Prop}(h:R (xI t)):xo5 (byN hs) (.int t.1) R:=by
 unfold byN;refine⟨_,_,Sum.inl t.1,xI t,rfl,rfl,Yc ht J,h⟩
theorem Qt:∀(bd:List (Int × Int)) (pl:List Int),((pl.zip bd).map λz=>max (z.2.1-z.1) (max 0 (z.1-z.2.2)))=(bd.zip pl).map λz=>jN z.1 z.2
 |[],pl=>by simp
 |_::_,[]=>by simp
 |p::bd,x::pl=>by
  rw[wa,wa,zE,zE,Qt bd pl]
  congr 1
  unfold jN;show max (p.1-x) (max 0 (x-p.2))=max 0 (max (p.1-x) (x-p.2));lia
def zr3{a:Int}{r:List Int}:atI ((a::r).map D.int) 0=some (.int a):=qh (j:=0) rfl
section
variable {P:Program}{w:World}{K:W.Frag}{mg:QqM}{base:Heap}{f:Addr}{fd:FuncData}
abbrev Yl:Stmt:=top 16
abbrev YH:List Str:=["place","limits"]
def Jt:FnScope YH ["place","limits"] (xi Yl):=⟨rfl,rfl,rfl,x3,rfl,x3,x3⟩
def qU:("number" :: "least" :: "greatest" :: YH:List Str).Nodup:=x3
def Yg:TF:=λds n Q=>∃(pl:List Int) (bd:List (Int × Int)),ds=[yd pl,xy (bd.map Jk)]/\pl.length<=1000/\Q (.int (kB bd pl)) n
def JD(T:Blt mg)(T2:Blt2 mg)(F:Fun K "steps_to" "steps_to" Yl f fd):FnOk P w K mg base CX0 1 f fd ["place","limits"] (spD K 2 Yg):=by
 refine Fun.okD F Jt (λaa A0 outer s H E G Z hr=>(zU (xQ (wn (za6 rfl) zL8 T2.sum zM0 (zc (vC (own:=["number","least","greatest"]) (M:=YH) (vH (by rfl)) rfl (XD rfl T.zip (zc (zh 0) (zc (zh 1) zm))) (λC J O L=>(vh (k:=2) rfl rfl (xf (zV (i:=0) qU rfl (lo rfl) w6) (xf (vh (k:=2) rfl rfl (xf (zV (i:=1) qU rfl (lo rfl) w6) (xf (zV (i:=2) qU rfl (lo rfl) w6) yw))) yw)))) (λC J O L=>yU) (λC J O L=>(wn (KN rfl) zu1 T.max Vt (zc (qD (zh 1) (zh 0)) (zc zA (zc (qD (zh 0) (zh 2)) zm)))))) zm))))) ?_
 rintro ds n Q hl ⟨pl,bd,rfl,hz,q⟩
 have Y:WN (pl.map D.int) ((bd.map Jk).map xR)=(pl.zip bd).map λz=>.tup [.int z.1,xR (Jk z.2)]:=by
  unfold WN;rw[zB,zipWith_map,yg];rfl
 simp[startD];refine(jU (d1:=yd pl) (d2:=xy (bd.map Jk)) rfl rfl).mpr ?_;rw[Y]
 refine ye (λz:Int × (Int × Int)=>.tup [.int z.1,xR (Jk z.2)]) (λz=>.int (max (z.2.1-z.1) (max 0 (z.1-z.2.2)))) (pl.zip bd) (zD (by rw[yK];lia) (wU (k:=1000) w5)) (λz hz R W=>?_) ?_
 ·simp[xR,Jk];exact W
 ·have e : ((pl.zip bd).map λz => D.int (max (z.2.1 - z.1) (max 0 (z.1 - z.2.2)))) = ((bd.zip pl).map λz => jN z.1 z.2).map D.int := by
   rw[<- Qt,zB];rfl
  exact⟨(bd.zip pl).map (λz:(Int × Int) × Int=>jN z.1 z.2),by rw[e],q⟩
abbrev VM:Stmt:=top 17
abbrev Ux:List Str:=["by_name","tree","kind","names","limits","low","high"]
def jg:FnScope Ux ["by_name","tree","kind"] (xi VM):=⟨rfl,rfl,rfl,x3,rfl,x3,x3⟩
def JG:("name" :: Ux:List Str).Nodup:=x3
def VC:TF:=λds n Q=>∃(d:Nat) (hs ts:List Thing) (tr:Tr) (kd:QqO),ds=[byN hs,vI tr,yT kd]/\(hs.map λt=>t.1).Nodup/\TreeOf d ts tr/\(∀t∈ts,t∈hs)/\ts.length<=1000/\(∀pl,kd=some pl->pl.length<=1000)/\Q (.prT (ya d kd ts)) n
def zn4(T:Blt mg)(F:Fun K "key_by" "key_by" VM f fd)(F_steps_to:Fn P w K mg base "steps_to" 1 2 Yg):FnOk P w K mg base CX0 2 f fd ["by_name","tree","kind"] (spD K 3 VC):=by
 refine Fun.okD F jg (λaa A0 outer s H E G Z hr=>(zG (jo (m:=7) (zh 1) (vh (k:=4) rfl rfl (xf (zV (i:=3) jg.nd rfl (lo rfl) w6) (xf (zV (i:=4) jg.nd rfl (lo rfl) w6) (xf (zV (i:=5) jg.nd rfl (lo rfl) w6) (xf (zV (i:=6) jg.nd rfl (lo rfl) w6) yw))))))
  (zG (vt (wh Wv Wt (wO xJ wN (zh 2) zA (λ_ _=>rfl)) XE (wK _)) (zU (xQ (xf7 (zc (yf F_steps_to (hr.mono w6) rfl (zc (wO xJ wN (zh 2) zA (λ_ _=>rfl)) (zc (zh 4) zm))) (zc (wO xJ wN (zh 3) zA (λ_ _=>rfl)) zm))))) yj)
  (zU (xQ (xf7 (zc (QG (wn (KP rfl) zu3 T.max Vt (zc (vC (own:=["name"]) (M:=Ux) (vH (by rfl)) rfl (vo rfl (zh 3)) (λ_ _ _ _=>(zV (i:=0) JG rfl (lo rfl) w6)) (λ_ _ _ _=>yU) (λ_ _ _ _=>(wO xJ wN (xg0 (zU8 hr) (zh 1) (zh 0) (λ_ _=>rfl)) zA (λ_ _=>rfl)))) zm))) (zc (wO xJ wN (zh 3) zA (λ_ _=>rfl)) zm)))))))) ?_
 rintro ds n Q hl ⟨d,hs,ts,tr,kd,rfl,Y,ht,J,hz,hk,q⟩;obtain⟨ta,tb,et,na,nb⟩:=ZY tr;obtain⟨r,O⟩:=ht.head;obtain⟨L,_⟩:=ht.names
 have W:atI ((xx tr).map D.int) 0=some (.int (vf ts)):=by rw[O];exact zr3
 rw[et];simp[startD,na,nb]
 cases kd with
 |some pl=>
  refine⟨_,0,_,.inr (.inl rfl),rfl,rfl,?_⟩;simp;refine⟨_,1,_,.inr (.inl rfl),rfl,rfl,?_⟩
  refine⟨pl,bdI d ts,by rw[ht.bd,zv6],hk pl rfl,?_⟩
  exact⟨_,W,(ya d (some pl) ts).1,(ya d (some pl) ts).2,⟨rfl,rfl⟩,q⟩
 | none =>
  refine⟨_,0,_,.inr (.inl rfl),rfl,rfl,?_⟩;simp
  rw[if_neg w6]
  refine ye D.int (λx=>.int (wOf hs x)) (xx tr) (wU (by rw[L.length_eq,zg];lia)) (λx hx R hR=>?_) ?_
  ·obtain⟨u,hu,rfl⟩:=zi.mp (L.mem_iff.mp hx);simp;refine xm0 Y (J u hu) ?_;refine⟨_,2,_,.inr (.inl rfl),rfl,rfl,?_⟩;rw[zh7 (J u hu) Y] at hR;exact hR
  ·have e : ((xx tr).map λx => D.int (wOf hs x)) = ((xx tr).map (wOf hs)).map D.int := by rw [zB]; rfl
   have e2:WD ((xx tr).map (wOf hs))=WD (ts.map λt=>t.2.2):=by
    refine(Ki (L.map (wOf hs))).trans ?_;rw[zB]
    congr 1
    exact yW λt ht=>zh7 (J t ht) Y
   rw[e]
   refine Vi (by rw[zg,O];simp) ?_
   rw[e2];simp;exact⟨_,W,(ya d none ts).1,(ya d none ts).2,⟨rfl,rfl⟩,q⟩
end
noncomputable def ksQ(d:Nat)(kd:QqO)(q:List Qe):List (Int × Int):=q.map λx=>ya d kd x.1
def esQ(q:List Qe):List D:=q.map λx=>vI x.2
def ze9{pl:List Pair}{q:List Qe}{i:Nat}{x:Qe}(h:q[i]?=some x):vg pl (q.take (i+1))=vg pl (q.take i)++(if vn (Wq x.2) pl=true then [] else [x]):=by
 unfold vg;rw[xq,h,yq]
 congr 1
 show List.filter _ [x]=_
 cases ha:vn (Wq x.2) pl<;>simp[ha]
inductive Reach(d:Nat)(kd:QqO)(pl:List Pair)(k:Nat)(q0:List Qe):Nat->List Qe->List Thing->Prop where
 |start:Reach d kd pl k q0 0 q0 []
 |leaf {n:Nat}{q:List Qe}{acc:List Thing}{t:Thing}{bd:List Pair}:Reach d kd pl k q0 n q acc->acc.length<k->([t],Tr.one t.1 bd)∈q->(∀y∈q,ltP (ya d kd y.1) (ya d kd [t])=false)->Reach d kd pl k q0 (n+1) (Yv (λy:Qe=>ya d kd y.1) q (ya d kd [t])) (acc++[t])
 | opn {n : Nat} {q : List Qe} {acc ts ls us : List Thing} {ns : List Int} {bd : List Pair} {lo hi : Tr} : Reach d kd pl k q0 n q acc -> acc.length < k -> (ts, Tr.two ns bd lo hi) ∈ q -> (∀ y ∈ q, ltP (ya d kd y.1) (ya d kd ts) = false) -> (ls ++ us).Perm ts -> TreeOf d ls lo -> TreeOf d us hi ->
   Reach d kd pl k q0 (n+1) (Yv (λy:Qe=>ya d kd y.1) q (ya d kd ts)++vg pl [(ls,lo),(us,hi)]) acc
def Reach.dok{d:Nat}{hs:List Thing}{kd:QqO}{pl:List Pair}{k n:Nat}{O q:List Qe}{J:List Thing}(hd:1<=d)(W:pl.length=d)(h0:DOk d hs kd pl O [])(h:Reach d kd pl k O n q J):DOk d hs kd pl q J:=by
 induction h with
 |start=>exact h0
 |leaf _ _ hx Y L=>exact L.leaf hd W hx Y
 |opn _ _ hx Y h1 h2 h3 L=>exact(L.open hd W hx h1 h2 h3).1
def qz(o:Option Tr)(hs:List Thing)(pl:List Pair)(k:Nat):List Qe:=match o with
 |none=>[]
 |some tr=>if k=0 then [] else vg pl [(hs,tr)]
def Reach.zero{d:Nat}{kd:QqO}{pl:List Pair}{n:Nat}{L q:List Qe}{J:List Thing}(h:Reach d kd pl 0 L n q J):n=0/\q=L/\J=[]:=by
 cases h with
 |start=>exact⟨rfl,rfl,rfl⟩
 |leaf _ h=>lia
 |opn _ h=>lia
def LtQ(d:Nat)(kd:QqO)(a b:Qe):Prop:=ltP (ya d kd a.1) (ya d kd b.1)=true
def zb5(J:List Qe):D:=.tup (J.map λx=>.tup ((xx x.2).map D.int))
def zw7(d:Nat)(kd:QqO)(hs:List Thing):Prop:=∀ls us:List Thing,(∀t∈ls,t∈hs)->(∀t∈us,t∈hs)->1<=ls.length->1<=us.length->vf ls≠vf us->WI (ya d kd ls)≠WI (ya d kd us)
def zj7{a b:Int}{x y:Int}{r r':List D}(h:SRow.lt ⟨.n a,x,r⟩ ⟨.n b,y,r'⟩=true):ltP (a,x) (b,y)=true:=by
 unfold SRow.lt at h;rw[kQ]
 by_cases e:a=b
 ·subst e;simp at h;exact .inr ⟨rfl,h⟩
 ·simp only[SKey.n.injEq,e,if_false,SKey.lt,wF] at h;exact .inl h
def vE(q:List Qe):Nat:=(q.map λx=>qa x.2).sum
def Js{p q:List Qe}(h:p.Perm q):vE p=vE q:=by
 unfold vE
 induction h with
 |nil=>rfl
 |cons x _ J=>simp only[zE,sum_cons,J]
 |swap x y l=>simp only[zE,sum_cons];lia
 |trans _ _ h1 L=>exact h1.trans L
def VH(p q:List Qe):vE (p++q)=vE p+vE q:=by unfold vE;rw[zK,List.sum_append]
def zc1{p q:List Qe}(h:p.Sublist q):vE p<=vE q:=by
 induction h with
 |slnil=>exact zn _
 |cons x _ J=>simp[vE] at J ⊢;lia
 |cons_cons x _ J=>simp[vE] at J ⊢;lia
section
variable {P:Program}{w:World}{K:W.Frag}{mg:QqM}{base:Heap}{f:Addr}{fd:FuncData}
abbrev Jw:Stmt:=top 18
abbrev Ql:List Str:=["by_name","trees","plain","kind"]
def zy5:FnScope Ql q4 (xi Jw):=⟨rfl,rfl,rfl,x3,rfl,x3,x3⟩
def zd9:("tree" :: Ql:List Str).Nodup:=x3
def VB:TFT:=λds n R=>∃(d:Nat) (hs:List Thing) (kd:QqO) (pl:List Pair) (q:List Qe),ds=[byN hs,.lst (esQ q),xy pl,yT kd]/\1<=d/\d<=1000/\pl.length=d/\QOk d hs q/\q.length<=2/\(hs.map λt=>t.1).Nodup/\hs.length<=60/\(∀p,kd=some p->p.length<=1000) /\
 R (ksQ d kd (vg pl q)) (esQ (vg pl q)) n
def QOk.len{d:Nat}{hs:List Thing}{q:List Qe}(h:QOk d hs q)(hz:hs.length<=60){x:Qe}(hx:x∈q):x.1.length<=1000:=by
 have h1:(x.1.map λt=>t.1).Nodup:=by
  have hs':x.1.Sublist (vm q):=by
   clear h
   induction q with
   |nil=>simp at hx
   |cons y q L=>
    rw[vp]
    rcases zk.mp hx with rfl |hx
    ·exact List.sublist_append_left ..
    ·exact(L hx).trans (wT ..)
  exact(hs'.map _).nodup h.nd
 have O:x.1.Nodup:=by
  rw[xM,xn] at h1;rw[xM];exact h1.imp λJ e=>J (congrArg _ e)
 have:=O.length_le_of_subset (l₂:=hs) λt ht=>h.sub t (vT.mpr ⟨x,hx,ht⟩);lia
def zC6(T:Blt mg)(F:Fun K "keyed" "keyed" Jw f fd)(F_lie_apart:Fn P w K mg base "lie_apart" 4 2 jY)(F_key_by:Fn P w K mg base "key_by" 2 3 VC):FnOk P w K mg base CX0 6 f fd q4 (spT K 4 VB):=by
 refine Fun.okT (k:=5) F zy5 rfl (λaj A0 outer s H E G Z Y=>(zm4 Y (own:=["tree"]) (M:=Ql) (vH (by rfl)) rfl (vo rfl (zh 1)) (λC O H2 fp=>(zV (i:=0) zd9 rfl (lo rfl) w6)) (λC O H2 fp=>(QA (JB (Zm (yf F_lie_apart (Y.mono w6) rfl (zc (wO xJ wN (zh 0) zA (λ_ _=>rfl)) (zc (zh 3) zm))))))) (λC O H2 fp=>(yf F_key_by (Y.mono w6) rfl (zc (zh 1) (zc (zh 0) (zc (zh 4) zm))))) (λC O H2 fp=>(zh 0)))) ?_
 rintro ds n R hl ⟨d,hs,kd,pl,q,rfl,ah,ag,af,ok,ae,hn,hz,hk,hR⟩;simp[startD,JV,QW];have aa:(esQ q).length=q.length:=zg ..
 refine⟨wU w5,λi ks es n'=>n'=n/\ks=ksQ d kd (vg pl (q.take i))/\es=esQ (vg pl (q.take i)),⟨rfl,rfl,rfl⟩,?_,?_⟩
 ·rintro i dd ks es n' e ⟨rfl, rfl, rfl⟩;unfold esQ at e;rw[zw] at e
  cases hx:q[i]? with
  |none=>rw[hx] at e;cases e
  | some x =>
   rw[hx] at e;cases e;have hm:x∈q:=zQ hx;have tt:=ok.tree x hm;obtain⟨ta,tb,et,na,nb⟩:=ZY x.2;have nx:=vF x.2
   have ai:(Wq x.2).length=d:=by rw[tt.bd,qY]
   have ac:∀R:D->Prop,R (xy (Wq x.2))->WV (vI x.2) (.int 1) R:=λR h=>by
    rw[et];exact⟨_,1,_,.inr (.inl rfl),rfl,rfl,h⟩
   have ad:(x.1++vm (q.take i)).Perm (vm (q.take i)++x.1):=List.perm_append_comm;have W:QOk d hs (q.take (i+1)):=ok.sublist (yO ..)
   have L:ya d kd x.1 ∉ ksQ d kd (vg pl (q.take i)):=λz=>by
    obtain⟨y,hy,e⟩:=zi.mp z;have:=W.keys kd;rw[xq,hx,zK,xG] at this
    exact this.2.2 _ (zi.mpr ⟨y,(zt.mp hy).1,rfl⟩) _ (zi.mpr ⟨x,by simp,rfl⟩) e
   have J:=ze9 (pl:=pl) hx
   refine zb0 nx (ac _ ⟨Wq x.2,pl,rfl,w5,w5,w5,?_⟩)
   simp
   cases ha:vn (Wq x.2) pl with
   |true=>
    rw[ha,if_pos rfl,ww] at J;rw[J];simp
   |false=>
    rw[ha,if_neg (by simp)] at J
    simp;refine zb0 nx ⟨d,hs,x.1,x.2,kd,rfl,hn,tt,λt ht=>ok.sub t (vT.mpr ⟨x,hm,ht⟩),ok.len hz hm,hk,?_⟩;refine zb0 nx ⟨(ya d kd x.1).1,(ya d kd x.1).2,rfl,L,?_⟩;refine⟨rfl,?_,?_⟩
    ·rw[J];unfold ksQ;rw[zK];rfl
    ·rw[J];unfold esQ;rw[zK];rfl
 ·rintro ks es n' ⟨rfl,rfl,rfl⟩;rw[aa,wj];exact hR
abbrev jj:Stmt:=top 19
abbrev jF:List Str:=["gone","house","tree","box","kind","k","by_name","plain","names","looks","waiting","part_names","limits","low","high"]
def yA:FnScope jF q10 (xi jj):=⟨rfl,rfl,rfl,x3,rfl,x3,x3⟩
def XN:("key" :: jF:List Str).Nodup:=x3
def Jp:TF:=λds n R=>∃(d:Nat) (hs:List Thing) (o:Option Tr) (b:List Jc) (kd:QqO) (k:Nat),ds=[.dct [] [],wv d hs,(o.map vI).getD .non,vz b,yT kd,.int k]/\1<=d/\d<=1000/\b.length=d/\(hs.map λt=>t.1).Nodup/\hs.length<=60/\(∀p,kd=some p->p.length<=1000) /\
 (o=none->hs=[])/\(∀tr,o=some tr->TreeOf d hs tr)/\zw7 d kd hs/\∀(n':Nat) (q L:List Qe) (J:List Thing),Reach d kd (wZ b) k (qz o hs (wZ b) k) n' q J->(q=[]\/J.length=k)->J.length<=k->L.Perm q->L.Pairwise (LtQ d kd)->R (.tup [.tup (J.map λt=>.int t.1),.int n',zb5 L]) n
structure JDr(d:Nat)(hs:List Thing)(kd:QqO)(pl:List Pair)(k n:Nat)(q0:List Qe)(g0 g1 g2 g3 g4 g6 g7:Option D)(m:Nat)(rho:Rho)(n':Nat):Prop where
 e:n'=n
 r:∃(q:List Qe) (acc:List Thing) (looks:Nat) (z1 z2 z3 z4:Option D),m=vE q/\Reach d kd pl k q0 looks q acc/\acc.length<=k /\
  rho=[g0,g1,g2,g3,g4,some (.int k),g6,g7,some (.own (acc.map λt=>.int t.1)),some (.int looks),some (.owT (ksQ d kd q) (esQ q)),z1,z2,z3,z4]
def zD0(T:Blt mg)(F:Fun K "drawn_past" "drawn_past" jj f fd)(F_things_by_name:Fn P w K mg base "things_by_name" 1 1 zM6)(F_plain_box:Fn P w K mg base "plain_box" 3 1 jX)(F_keyed:FnT P w K mg base "keyed" 6 4 VB):FnOk P w K mg base CX0 7 f fd q10 (spD K 6 Jp):=by
 refine Fun.okD F yA (λaR A0 outer s H E G Z hr=>(zG (yS (i:=6) yA.nd rfl (lo rfl) (yf F_things_by_name (hr.mono w6) rfl (zc (zh 1) zm)))
  (zG (yS (i:=7) yA.nd rfl (lo rfl) (yf F_plain_box (hr.mono w6) rfl (zc (zh 3) zm)))
  (zG (XB (i:=8) yA.nd rfl (lo rfl) zm)
  (zG (yS (i:=9) yA.nd rfl (lo rfl) zA)
  (zG (zA5 (i:=10) F_keyed (hr.mono w6) rfl yA.nd rfl (lo rfl) (zc (zh 6) (zc (VU (PWD.pt (WY (wh jd jc (zh 2) vq (wK _)) (Yt (wh Wv Wt (zh 5) zA (wK _))))) (vN zm) (vN (zc (zh 2) zm))) (zc (zh 7) (zc (zh 4) zm)))))
  (zG (zl1 PassesOwn.never (PWD.pt (qr (wh XH Xy (zQ4 (i:=10) T.len) zA (wK _)) (qo (wh zR0 zO1 (US (i:=8) T.len rfl) (zh 5) (wK _)))))
  (zG (zA6 (i:=10) (m:=15) hr rfl (wn (zv1 rfl (zU8 hr)) zW0 T.min Vs (zc (QH (i:=10) hr T.list) zm)) (vh (k:=4) rfl rfl (xf (zV (i:=11) yA.nd rfl (lo rfl) w6) (xf (zV (i:=12) yA.nd rfl (lo rfl) w6) (xf (zV (i:=13) yA.nd rfl (lo rfl) w6) (xf (zV (i:=14) yA.nd rfl (lo rfl) w6) yw))))))
  (zG (zA8 xk6 (i:=9) yA.nd rfl (lo rfl) zA)
  (zU (vt (wh XH Xy (wn wL kX T.len ki (zc (zh 11) zm)) zA (wK _)) (zU (zA4 (i:=10) F_keyed (hr.mono w6) rfl (zc (zh 6) (zc (vN (zc (zh 13) (zc (zh 14) zm))) (zc (zh 7) (zc (zh 4) zm)))))) (zU (vt (wh (zm7 (zU8 hr)) xb4 (wO xJ wN (zh 11) zA (λ_ _=>rfl)) (zh 0) (by with_unfolding_all rfl)) (zU (kY (i:=8) (zc (wO xJ wN (zh 11) zA (λ_ _=>rfl)) zm) rfl)) yj)))))))
  (zU (Zo 8 (xQ (yn (zc (yV yB kg T.tuple kh (zc (zh 8) zm)) (zc (zh 9) (zc (yV yB kg T.tuple kh (zc (vC (own:=["key"]) (M:=jF) (vH (by rfl)) rfl (vo rfl (wn (Vr hr) (QY rfl) T.sorted Yb (zc (QH (i:=10) hr T.list) zm))) (λ_ _ _ _=>(zV (i:=0) XN rfl (lo rfl) w6)) (λ_ _ _ _=>yU) (λ_ _ _ _=>(wO xJ wN (xf9 (i:=11) hr rfl (zh 0) (λ_ _=>rfl)) zA (λ_ _=>rfl)))) zm)) zm)))))))))))))) ?_
 generalize hB:Ws (zN4 10 _ _) _=B;generalize hS:xo3 8 _=Sr;generalize hW:Ws (zj4 _ _) _=Wl;rintro ds n R hl ⟨d,hs,o,b,kd,k,rfl,ad,ar,hb,hn,hz,hk,aC,aB,hH,hR⟩;have nh:=vU d hs;have nb:we (vz b)=true:=rfl
 have no:we ((o.map vI).getD .non)=true:=by cases o with |none=>rfl |some t=>exact vF t
 have ac:(wZ b).length=d:=by rw[qB];exact hb
 generalize aA:wZ b=pl at *
 have fin:∀(F:EndsD) (q:List Qe) (L:List Thing) (J:Nat) (z1 z2 z3 z4:Option D),F.rt=R->QOk d hs q->L.length<=60->(∀O:List Qe,O.Perm q->O.Pairwise (LtQ d kd)->R (.tup [.tup (L.map λt=>.int t.1),.int J,zb5 O]) n) ->
   Sr F [some (.dct [] []),some (wv d hs),some ((o.map vI).getD .non),some (vz b),some (yT kd),some (.int k),some (byN hs),some (xy pl),some (.own (L.map λt=>.int t.1)),some (.int J),some (.owT (ksQ d kd q) (esQ q)),z1,z2,z3,z4] n:=λF q L J z1 z2 z3 z4 hF ok aQ ht=>by
  subst hS
  have aO:q.length<=60:=by
   have h1:=ok.heads
   have h2:(q.map λx=>vf x.1).length<=(hs.map λt=>t.1).length:=h1.length_le_of_subset λa ha=>by
    obtain⟨x,hx,rfl⟩:=zi.mp ha;obtain⟨t,ht,e⟩:=vw (ok.tree x hx).ne;exact zi.mpr ⟨t,ok.sub t (vT.mpr ⟨x,hx,ht⟩),e⟩
   rw[zg,zg] at h2;lia
  simp[hF]
  refine⟨q.map λx=>⟨.n (YB d kd x.1),vf x.1,[]⟩,true,?_,by rw[zg];lia,?_,?_,λaL hp hs'=>⟨_,.inl rfl,?_⟩⟩
  ·unfold ksQ;rw[zB,zB];rfl
  ·intro x hx;obtain⟨_,_,rfl⟩:=zi.mp hx;rfl
  ·rw[zB];exact ok.heads
  ·obtain ⟨O, aj, rfl⟩ := QD hp;rw[zB]
   refine ye (SRow.d∘λx:Qe=>(⟨.n (YB d kd x.1),vf x.1,[]⟩:SRow)) (λx=>.tup ((xx x.2).map D.int)) O (wU (by rw[aj.length_eq];lia)) (λx hx R' hR'=>?_) ?_
   ·have e:(SRow.d∘λx:Qe=>(⟨.n (YB d kd x.1),vf x.1,[]⟩:SRow)) x=.tup [.int (ya d kd x.1).1,.int (ya d kd x.1).2]:=rfl;have ak:=Qc (f:=λx:Qe=>ya d kd x.1) (g:=λx=>vI x.2) (aj.mem_iff.mp hx) (ok.keys kd);obtain⟨ta,tb,et,na,aM⟩:=ZY x.2;rw[e];simp;refine⟨_,_,⟨rfl,rfl⟩,_,_,⟨rfl,rfl⟩,_,ak,?_⟩;show WV (vI x.2) _ _;rw[et];exact⟨_,0,_,.inr (.inl rfl),rfl,rfl,hR'⟩
   ·simp;refine ht O aj ?_;rw[xn] at hs';exact hs'.imp λ{a b} h=>zj7 h
 have loop:∀(F:EndsD) (W:List Qe),F.rt=R->W=qz o hs pl k->(1<=k->DOk d hs kd pl W [])->(k=0->W=[]) ->
   Wl F [some (.dct [] []),some (wv d hs),some ((o.map vI).getD .non),some (vz b),some (yT kd),some (.int k),some (byN hs),some (xy pl),some (.own []),some (.int 0),some (.owT (ksQ d kd W) (esQ W)),none,none,none,none] n:=λF W hF az h1 h0=>by
  subst hW;simp;refine⟨JDr d hs kd pl k n W _ _ _ _ _ _ _,⟨vE W,rfl,W,[],0,none,none,none,none,rfl,.start,wo _,rfl⟩,?_⟩;rintro m rho n' ⟨rfl,q,L,J,z1,z2,z3,z4,rfl,ae,aq,rfl⟩;have hD:1<=k->DOk d hs kd pl q L:=λh=>ae.dok ad ac (h1 h)
  have Y:QOk d hs q:=by
   by_cases e:k=0
   ·subst e;obtain⟨_,e2,_⟩:=ae.zero
    rw[e2,h0 rfl];exact⟨by simp,by simp[vm],by simp[vm]⟩
   ·exact(hD w5).ok
  have ah:L.length<=60:=by
   by_cases e:k=0
   ·lia
   ·have h2 := (hD w5).perm.length_eq
    have h3:(jP pl hs).length<=hs.length:=wV ..;rw[zy] at h2;lia
  have kl:(ksQ d kd q).length=q.length:=zg ..;have told:L.length=k\/q=[]->∀O:List Qe,O.Perm q->O.Pairwise (LtQ d kd)->R (.tup [.tup (L.map λt=>.int t.1),.int J,zb5 O]) n':=λh O p1 p2=>hR J q O L (az ▸ ae) h.symm aq p1 p2;simp;rw[kl]
  split
  ·rename_i am
   split
   ·rename_i aF
    have D0:=hD w5
    have hlt':L.length<k:=aF;subst hB;simp
    refine⟨ksQ d kd q,_,⟨rfl,rfl⟩,ksQ d kd q,rfl,by rw[kl];exact am,λmk aE ao=>?_⟩
    obtain⟨⟨ts,tr⟩,hx,rfl⟩:=zi.mp aE;have tt:TreeOf d ts tr:=Y.tree _ hx;have ak:atP (ksQ d kd q) (esQ q) (ya d kd ts)=some (vI tr):=Qc (f:=λx:Qe=>ya d kd x.1) (g:=λx=>vI x.2) hx (Y.keys kd);have aI:Xa (ksQ d kd q) (ya d kd ts)=ksQ d kd (Yv (λy:Qe=>ya d kd y.1) q (ya d kd ts)):=zs7 ..;have aJ:dropE (ksQ d kd q) (esQ q) (ya d kd ts)=esQ (Yv (λy:Qe=>ya d kd y.1) q (ya d kd ts)):=KG ..;have hmin':∀y∈q,ltP (ya d kd y.1) (ya d kd ts)=false:=λy hy=>ao _ (zi.mpr ⟨y,hy,rfl⟩);have hsz:vE ((ts,tr)::Yv (λy:Qe=>ya d kd y.1) q (ya d kd ts))=vE q:=Js (jK (f:=λy:Qe=>ya d kd y.1) hx (Y.keys kd))
    have hsz:qa tr+vE (Yv (λy:Qe=>ya d kd y.1) q (ya d kd ts))=vE q:=by rw[<- hsz];simp[vE]
    have leaf:∀t bd,ts=[t]->tr=.one t.1 bd->Reach d kd pl k W (J+1) (Yv (λy:Qe=>ya d kd y.1) q (ya d kd ts)) (L++[t]):=λt bd e e2=>by subst e e2;exact ae.leaf hlt' hx hmin'
    have au:∀ns bd lo hi ls us,tr=.two ns bd lo hi->(ls++us).Perm ts->TreeOf d ls lo->TreeOf d us hi->Reach d kd pl k W (J+1) (Yv (λy:Qe=>ya d kd y.1) q (ya d kd ts)++vg pl [(ls,lo),(us,hi)]) L:=λns bd lo hi ls us e a1 a2 a3=>by subst e;exact ae.opn hlt' hx hmin' a1 a2 a3
    have opn:=fun(ls us:List Thing) (lo hi:Tr) h1 h2 h3=>D0.open (ls:=ls) (us:=us) (lo:=lo) (hi:=hi) ad ac hx h1 h2 h3;refine⟨(ya d kd ts).1,(ya d kd ts).2,rfl,vI tr,ak,?_⟩;rw[show((ya d kd ts).1,(ya d kd ts).2)=ya d kd ts from rfl,aI,aJ];generalize Yv (λy:Qe=>ya d kd y.1) q (ya d kd ts)=q' at *
    cases tt with
    |@one t ht=>
     have D1:=leaf t _ rfl rfl
     have h6:L.length<sizeLine:=lt_size w5
     simp[vI];rw[if_pos (show atK [] [] (Sum.inl t.1)=(none:Option D) from rfl)];have s1:qa (.one t.1 (jS d [t.2.1]))=1:=rfl
     exact⟨h6,vE q',w5,rfl,q',L++[t],J+1,_,_,_,_,rfl,D1,by rw[zy];simp;lia,by rw[zK];rfl⟩
    | @two ts ls us ns lo hi p hp aN t1 t2 =>
     obtain⟨D1,av⟩:=opn ls us lo hi p t1 t2;have R1:=au _ _ lo hi ls us rfl p t1 t2;have nl:=vF lo;have ax:=vF hi
     have aP:ns.length=ts.length:=by rw[hp.length_eq,zg]
     have h2:1<ns.length:=by
      have:=t1.ne;have:=t2.ne;have:=p.length_eq;rw[zy] at this;lia
     simp[vI,nl,ax]
     rw[if_pos w5]
     have af:QOk d hs (q'++vg pl [(ls,lo),(us,hi)]):=D1.ok;have okT:QOk d hs [(ls,lo),(us,hi)]:=av.sublist (wT ..);have s1:qa (.two ns (jS d (ts.map λt=>t.2.1)) lo hi)=1+qa lo+qa hi:=rfl;have s2:vE (vg pl [(ls,lo),(us,hi)])<=vE [(ls,lo),(us,hi)]:=zc1 filter_sublist
     have s3:vE [(ls,lo),(us,hi)]=qa lo+qa hi:=by simp[vE]
     have aH:=af.keys kd
     have aG:(q'++vg pl [(ls,lo),(us,hi)]).length<=60:=by
      have h3:=af.heads
      have h4:((q'++vg pl [(ls,lo),(us,hi)]).map λx=>vf x.1).length<=(hs.map λt=>t.1).length:=h3.length_le_of_subset λa ha=>by
       obtain⟨x,hx,rfl⟩:=zi.mp ha;obtain⟨t,ht,e⟩:=vw (af.tree x hx).ne;exact zi.mpr ⟨t,af.sub t (vT.mpr ⟨x,hx,ht⟩),e⟩
      rw[zg,zg] at h4;lia
     have al:((ksQ d kd (vg pl [(ls,lo),(us,hi)])).map WI).Nodup:=by
      have z:((ksQ d kd [(ls,lo),(us,hi)]).map WI).Nodup:=by
       have ag:∀t∈ls++us,t∈hs:=λt ht=>okT.sub t (by simpa [vm] using ht)
       have aD:vf ls≠vf us:=by
        have:=okT.heads
        simpa using this
       have:=hH ls us (λt ht=>ag t (zR _ ht)) (λt ht=>ag t (zp _ ht)) t1.ne t2.ne aD
       simpa [ksQ] using this
      exact((List.filter_sublist.map _).map _).nodup z
     have ay:ksQ d kd q'++ksQ d kd (vg pl [(ls,lo),(us,hi)])=ksQ d kd (q'++vg pl [(ls,lo),(us,hi)]):=by unfold ksQ;rw[zK]
     have aK:esQ q'++esQ (vg pl [(ls,lo),(us,hi)])=esQ (q'++vg pl [(ls,lo),(us,hi)]):=by unfold esQ;rw[zK]
     refine⟨_,_,⟨rfl,rfl⟩,d,hs,kd,pl,[(ls,lo),(us,hi)],rfl,ad,ar,ac,okT,by simp,hn,hz,hk,?_⟩
     dsimp only;rw[ay,aK]
     refine⟨aH,wU ?_,λ_=>al,vE (q'++vg pl [(ls,lo),(us,hi)]),by rw[VH];lia,rfl,_,L,J+1,_,_,_,_,rfl,R1,aq,rfl⟩
     have l1:(ksQ d kd q').length=q'.length:=zg ..;have l2:(ksQ d kd (vg pl [(ls,lo),(us,hi)])).length=(vg pl [(ls,lo),(us,hi)]).length:=zg ..;rw[l1,l2,<- zy];lia
   ·exact fin _ _ _ _ _ _ _ _ hF Y ah (told (.inl w5))
  ·exact fin _ _ _ _ _ _ _ _ hF Y ah (told (.inr (zX.mp w5)))
 simp[startD,nh,nb,no]
 refine⟨_,hs,rfl,hn,w5,⟨b,rfl,w5,?_⟩⟩
 rw[aA];have ai:∀(q:List Qe) (R':List (Int × Int)->List D->Nat->Prop),QOk d hs q->q.length<=2->R' (ksQ d kd (vg pl q)) (esQ (vg pl q)) n->VB [byN hs,.lst (esQ q),xy pl,yT kd] n R':=λq R' h1 h2 h3=>⟨d,hs,kd,pl,q,rfl,ad,ar,ac,h1,h2,hn,hz,hk,h3⟩
 have aa:QOk d hs []:=⟨by simp,by simp[vm],by simp[vm]⟩
 cases o with
 |none=>
  simp
  exact ai [] _ aa (by simp) (loop _ [] rfl rfl (λ_=>.none (aC rfl)) λ_=>rfl)
 | some tr =>
  have ni:ZA (vI tr)=false:=by cases tr<;>rfl
  have nt:=vF tr;have tt:=aB tr rfl;simp[ni,nt]
  split
  ·rename_i h0
   exact ai [] _ aa (by simp) (loop _ [] rfl (by simp[qz,h0]) (λh=>by lia) λ_=>rfl)
  ·rename_i h0
   have aw:QOk d hs [(hs,tr)]:=⟨λx hx=>by rw[zF.mp hx];exact tt,λt ht=>by simpa [vm] using ht,by simpa [vm] using hn⟩
   exact ai [(hs,tr)] _ aw (by simp) (loop _ _ rfl (by simp[qz,h0]) (λ_=>.start ad ac tt hn) λh=>absurd h h0)
abbrev Jx:Stmt:=top 20
abbrev zX1:List Str:=["house","tree","box","kind","k"]
def zy6:FnScope zX1 q5 (xi Jx):=⟨rfl,rfl,rfl,x3,rfl,x3,x3⟩
def VD:TF:=λds n R=>∃(d:Nat) (hs:List Thing) (o:Option Tr) (b:List Jc) (kd:QqO) (k:Nat),ds=[wv d hs,(o.map vI).getD .non,vz b,yT kd,.int k]/\1<=d/\d<=1000/\b.length=d/\(hs.map λt=>t.1).Nodup/\hs.length<=60/\(∀p,kd=some p->p.length<=1000) /\
 (o=none->hs=[])/\(∀tr,o=some tr->TreeOf d hs tr)/\zw7 d kd hs/\∀(n':Nat) (q L:List Qe) (J:List Thing),Reach d kd (wZ b) k (qz o hs (wZ b) k) n' q J->(q=[]\/J.length=k)->J.length<=k->L.Perm q->L.Pairwise (LtQ d kd)->R (.tup [.tup (J.map λt=>.int t.1),.int n',zb5 L]) n
def zC9(F:Fun K "drawn" "drawn" Jx f fd)(F_drawn_past:Fn P w K mg base "drawn_past" 7 6 Jp):FnOk P w K mg base CX0 8 f fd q5 (spD K 5 VD):=by
 refine Fun.okD F zy6 (λY A0 outer s H E G Z W=>(zU (xQ (yf F_drawn_past (W.mono w6) rfl (zc zQ7 (zc (zh 0) (zc (zh 1) (zc (zh 2) (zc (zh 3) (zc (zh 4) zm)))))))))) ?_
 rintro ds n R hl ⟨d,hs,o,b,kd,k,rfl,h⟩;have L:=vU d hs;have O:we (vz b)=true:=rfl
 have J:we ((o.map vI).getD .non)=true:=by cases o with |none=>rfl |some t=>exact vF t
 simp[startD,L,O,J];exact⟨d,hs,o,b,kd,k,rfl,h⟩
end
def JM{a b:List Thing}(h:a.Perm b)(h1:1<=a.length):vf a=vf b:=by
 obtain⟨t,ht,e⟩:=vw h1
 obtain⟨u,hu,J⟩:=vw (ts:=b) (by rw[<- h.length_eq];exact h1)
 have i1:=ZT (h.mem_iff.mpr hu);have i2:=ZT (h.mem_iff.mp ht);lia
def zq0{d:Nat}{kd:QqO}{a b:List Thing}(h:a.Perm b)(h1:1<=a.length):ya d kd a=ya d kd b:=by
 have i1:YB d kd b<=YB d kd a:=Ug (λt ht=>h.mem_iff.mp ht) h1
 have i2:YB d kd a<=YB d kd b:=Ug (λt ht=>h.mem_iff.mpr ht) (by rw[<- h.length_eq];exact h1)
 unfold ya
 rw[JM h h1,show YB d kd a=YB d kd b by lia]
def ofN(hs:List Thing)(tr:Tr):List Thing:=hs.filter λt=>decide (t.1∈xx tr)
noncomputable def kT(d:Nat)(kd:QqO)(hs:List Thing)(tr:Tr):Int × Int:=ya d kd (ofN hs tr)
def ju{hs:List Thing}(L:(hs.map λt=>t.1).Nodup):hs.Nodup:=by
 rw[xM,xn] at L;rw[xM];exact L.imp λJ e=>J (congrArg _ e)
def Vw{hs:List Thing}(Y:(hs.map λt=>t.1).Nodup){t u:Thing}(ht:t∈hs)(hu:u∈hs)(e:t.1=u.1):t=u:=by
 have h:=Yc ht Y;have h2:=Yc hu Y;rw[e,h2] at h;have J:xI u=xI t:=zP h;obtain⟨a,p,w⟩:=t;obtain⟨b,q,v⟩:=u;unfold xI yd at J;injection J with J;injection J with W J;injection J with O J;injection J with L _;injection W with W;injection O with O;injection L with L
 have x4:q=p:=by
  have inj:∀a b:List Int,a.map D.int=b.map D.int->a=b:=λa=>by
   induction a with
   |nil=>intro b h;cases b with |nil=>rfl |cons=>simp at h
   | cons x a ih =>
    intro b h
    cases b with
    |nil=>simp at h
    |cons y b=>
     simp only[zE,List.cons.injEq,D.int.injEq] at h;rw[h.1,ih b h.2]
  exact inj q p O
 have x1':b=a:=W;have x3':v=w:=L;rw[x1',x3',x4]
def TreeOf.ofN{d:Nat}{hs ts:List Thing}{tr:Tr}(h:TreeOf d ts tr)(W:(hs.map λt=>t.1).Nodup)(J:∀t∈ts,t∈hs)(L:(ts.map λt=>t.1).Nodup):(ofN hs tr).Perm ts:=by
 refine(List.perm_ext_iff_of_nodup (List.filter_sublist.nodup (ju W)) (ju L)).mpr λt=>?_;obtain⟨O,_⟩:=h.names
 constructor
 ·intro ht;obtain⟨h1,Y⟩:=zt.mp ht;obtain⟨u,hu,e⟩:=zi.mp (O.mem_iff.mp (of_decide_eq_true Y));rw[<- Vw W (J u hu) h1 e];exact hu
 ·intro ht;exact zt.mpr ⟨J t ht,xm (O.mem_iff.mpr (zi.mpr ⟨t,ht,rfl⟩))⟩
def TreeOf.keyOf{d:Nat}{kd:QqO}{hs ts:List Thing}{tr:Tr}(h:TreeOf d ts tr)(O:(hs.map λt=>t.1).Nodup)(J:∀t∈ts,t∈hs)(L:(ts.map λt=>t.1).Nodup):kT d kd hs tr=ya d kd ts:=by
 have p:=h.ofN O J L
 exact zq0 p (by rw[p.length_eq];exact h.ne)
def qb(pl:List Pair):Tr->List Tr
 |.one x bd=>if vn bd pl=true then [] else [.one x bd]
 |.two ns bd l h=>if vn bd pl=true then [] else .two ns bd l h::(qb pl l++qb pl h)
noncomputable def vG(d:Nat)(kd:QqO)(hs:List Thing)(pl:List Pair)(L:QqP):Tr->List Tr
 |.one x bd=>if vn bd pl=true then [] else if ltP L (kT d kd hs (.one x bd))=true then [.one x bd] else []
 |.two ns bd l h=>if vn bd pl=true then [] else if ltP L (kT d kd hs (.two ns bd l h))=true then [.two ns bd l h] else vG d kd hs pl L l++vG d kd hs pl L h
def Va{pl:List Pair}{tr:Tr}(h:vn (Wq tr) pl=true):qb pl tr=[]:=by
 cases tr<;>exact if_pos h
def Wc{d:Nat}{kd:QqO}{hs:List Thing}{L:QqP}{pl:List Pair}{tr:Tr}(h:vn (Wq tr) pl=true):vG d kd hs pl L tr=[]:=by
 cases tr<;>(unfold vG;exact if_pos h)
def JR{d:Nat}{kd:QqO}{hs:List Thing}{L:QqP}{pl:List Pair}{tr:Tr}(h:vn (Wq tr) pl=false)(J:ltP L (kT d kd hs tr)=true):vG d kd hs pl L tr=[tr]:=by
 have h':¬ vn (Wq tr) pl=true:=by rw[h];simp
 cases tr with
 |one x bd=>unfold vG;exact(if_neg h').trans (if_pos J)
 |two ns bd l O=>unfold vG;exact(if_neg h').trans (if_pos J)
theorem jz{α:Type}(f:Tr->List α){pl:List Pair}(L:∀tr,vn (Wq tr) pl=true->f tr=[]):∀q:List Qe,((vg pl q).flatMap λx=>f x.2)=q.flatMap λx=>f x.2
 |[]=>rfl
 | x :: q => by
  have J:=jz f L q;rw[wq]
  cases ha:vn (Wq x.2) pl with
  |true=>
   have e:vg pl (x::q)=vg pl q:=by unfold vg;rw[xh (by simp[ha])]
   rw[e,J,L x.2 ha,wf]
  |false=>
   have e:vg pl (x::q)=x::vg pl q:=by unfold vg;rw[zY (by simp[ha])]
   rw[e,wq,J]
structure POk(d:Nat)(kd:QqO)(hs:List Thing)(pl:List Pair)(k:Nat)(all:List Tr)(front:(Int × Int)->List Tr)(n:Nat)(q:List Qe)(acc:List Thing)(P:List Tr):Prop where
 len:P.length=n
 perm:(P++q.flatMap λx=>qb pl x.2).Perm all
 lo:∀p∈P,∀x∈q,ltP (ya d kd x.1) (kT d kd hs p)=false
 fin:acc.length=k->1<=k->∃t,acc.getLast?=some t/\(∀p∈P,ltP (ya d kd [t]) (kT d kd hs p)=false)/\∀x∈q,ltP (ya d kd [t]) (ya d kd x.1)=true
 frn:∀L,(∀p∈P,ltP L (kT d kd hs p)=false)->(q.flatMap λx=>vG d kd hs pl L x.2).Perm (front L)
def QOk.keyOf{d:Nat}{kd:QqO}{hs:List Thing}{q:List Qe}(h:QOk d hs q)(O:(hs.map λt=>t.1).Nodup){x:Qe}(hx:x∈q):kT d kd hs x.2=ya d kd x.1:=by
 have J:x.1.Sublist (vm q):=by
  clear h
  induction q with
  |nil=>simp at hx
  |cons y q L=>
   rw[vp]
   rcases zk.mp hx with rfl |hx
   ·exact List.sublist_append_left ..
   ·exact(L hx).trans (wT ..)
 exact(h.tree x hx).keyOf O (λt ht=>h.sub t (J.mem ht)) ((J.map _).nodup h.nd)
def Xi{d:Nat}{kd:QqO}{ls ts:List Thing}(h:∀t∈ls,t∈ts)(h1:1<=ls.length):ltP (ya d kd ls) (ya d kd ts)=false:=by
 cases e:ltP (ya d kd ls) (ya d kd ts) with
 |false=>rfl
 |true=>
  rw[kQ] at e;have i1:YB d kd ts<=YB d kd ls:=Ug h h1;obtain⟨t,ht,J⟩:=vw h1;have i2:vf ts<=t.1:=ZT (h t ht);have e':YB d kd ls<YB d kd ts\/YB d kd ls=YB d kd ts/\vf ls<vf ts:=e;lia
def Reach.pok{d:Nat}{hs:List Thing}{kd:QqO}{pl:List Pair}{k n:Nat}{q0 q:List Qe}{W:List Thing}(hd:1<=d)(hp:pl.length=d)(hn:(hs.map λt=>t.1).Nodup)(h0:DOk d hs kd pl q0 [])(h:Reach d kd pl k q0 n q W) :
  ∃P,POk d kd hs pl k (q0.flatMap λx=>qb pl x.2) (λL=>q0.flatMap λx=>vG d kd hs pl L x.2) n q W P:=by
 induction h with
 |start=>exact⟨[],rfl,by simp,by simp,λh1 h2=>by simp at h1;lia,λL _=>.refl _⟩
 | @leaf n q W t bd hR ad hx hm ih =>
  obtain⟨P,ok⟩:=ih;have Y:=hR.dok hd hp h0;have hk:=Y.ok.keyOf (kd:=kd) hn hx;have J:(([t],Tr.one t.1 bd)::Yv (λy:Qe=>ya d kd y.1) q (ya d kd [t])).Perm q:=jK (f:=λy:Qe=>ya d kd y.1) hx (Y.ok.keys kd);have ac:=Y.ok.perm J
  have O:¬ vn bd pl=true:=by have:=Y.inb _ hx;show ¬ vn (Wq (Tr.one t.1 bd)) pl=true;rw[this];simp
  generalize Yv (λy:Qe=>ya d kd y.1) q (ya d kd [t])=q' at *
  have aa:∀x∈q',ltP (ya d kd [t]) (ya d kd x.1)=true:=λx hx'=>by
   refine Kl (hm x (J.mem_iff.mp (zj _ hx'))) ?_;have:=ac.heads;rw[zE,xu] at this;exact λe=>this.1 (zi.mpr ⟨x,hx',e⟩)
  refine⟨P++[.one t.1 bd],by simp[ok.len],?_,λp hp' x hx'=>?_,λ_ _=>⟨t,by simp,λp hp'=>?_,aa⟩,λL hL=>?_⟩
  ·refine List.Perm.trans ?_ ok.perm;rw[yi];refine List.Perm.append_left P ?_;refine List.Perm.trans ?_ (J.flatMap_right λx=>qb pl x.2);rw[wq,show qb pl ([t],Tr.one t.1 bd).2=[.one t.1 bd] from if_neg O]
  ·rcases zS.mp hp' with hp' | hp'
   ·exact ok.lo p hp' x (J.mem_iff.mp (zj _ hx'))
   ·rw[zF.mp hp',show kT d kd hs (.one t.1 bd)=ya d kd [t] from hk];exact hm x (J.mem_iff.mp (zj _ hx'))
  ·rcases zS.mp hp' with hp' | hp'
   ·exact ok.lo p hp' _ hx
   ·rw[zF.mp hp',show kT d kd hs (.one t.1 bd)=ya d kd [t] from hk];exact jx _
  ·refine List.Perm.trans ?_ (ok.frn L λp hp' => hL p (zR _ hp'));refine List.Perm.trans ?_ (J.flatMap_right λx=>vG d kd hs pl L x.2)
   have e:vG d kd hs pl L (.one t.1 bd)=[]:=by
    unfold vG;rw[if_neg O,if_neg]
    rw[hL (.one t.1 bd) (by simp)]
    simp
   rw[wq,show vG d kd hs pl L ([t],Tr.one t.1 bd).2=[] from e,wf]
 | @opn n q W ts ls us ns bd lo hi hR ad hx hm h1 h2 h3 ih =>
  obtain⟨P,ok⟩:=ih;have Y:=hR.dok hd hp h0;have hk:=Y.ok.keyOf (kd:=kd) hn hx;have J:((ts,Tr.two ns bd lo hi)::Yv (λy:Qe=>ya d kd y.1) q (ya d kd ts)).Perm q:=jK (f:=λy:Qe=>ya d kd y.1) hx (Y.ok.keys kd)
  have O:¬ vn bd pl=true:=by have:=Y.inb _ hx;show ¬ vn (Wq (Tr.two ns bd lo hi)) pl=true;rw[this];simp
  generalize Yv (λy:Qe=>ya d kd y.1) q (ya d kd ts)=q' at *
  have sub:∀x∈vg pl [(ls,lo),(us,hi)],ltP (ya d kd x.1) (ya d kd ts)=false:=λx hx'=>by
   have:=(zt.mp hx').1;simp only[zk,xg,or_false] at this
   rcases this with rfl |rfl
   ·exact Xi (λt ht=>h1.mem_iff.mp (zR _ ht)) h2.ne
   ·exact Xi (λt ht=>h1.mem_iff.mp (zp _ ht)) h3.ne
  refine⟨P++[.two ns bd lo hi],by simp[ok.len],?_,λp hp' x hx'=>?_,λh _=>by lia,λL hL=>?_⟩
  ·refine List.Perm.trans ?_ ok.perm;rw[yi];refine List.Perm.append_left P ?_;refine List.Perm.trans ?_ (J.flatMap_right λx=>qb pl x.2);have e:qb pl (.two ns bd lo hi)=.two ns bd lo hi::(qb pl lo++qb pl hi):=if_neg O;rw[wq,List.flatMap_append,jz _ (λtr=>Va),show qb pl (ts,Tr.two ns bd lo hi).2=_ from e];simp only[wq,List.flatMap_nil,ww,List.cons_append,List.singleton_append];rw[wf];exact List.Perm.cons _ List.perm_append_comm
  ·rcases zS.mp hp' with hp' | hp'
   ·rcases zS.mp hx' with hx' | hx'
    ·exact ok.lo p hp' x (J.mem_iff.mp (zj _ hx'))
    ·exact QN (ok.lo p hp' _ hx) (sub x hx')
   ·rw [zF.mp hp', show kT d kd hs (.two ns bd lo hi) = ya d kd ts from hk]
    rcases zS.mp hx' with hx' |hx'
    ·exact hm x (J.mem_iff.mp (zj _ hx'))
    ·exact sub x hx'
  ·refine List.Perm.trans ?_ (ok.frn L λp hp' => hL p (zR _ hp'));refine List.Perm.trans ?_ (J.flatMap_right λx=>vG d kd hs pl L x.2)
   have e:vG d kd hs pl L (.two ns bd lo hi)=vG d kd hs pl L lo++vG d kd hs pl L hi:=by
    conv=>lhs;unfold vG
    rw[if_neg O,if_neg]
    rw[hL (.two ns bd lo hi) (by simp)]
    simp
   rw[wq,List.flatMap_append,jz _ (λtr=>Wc),show vG d kd hs pl L (ts,Tr.two ns bd lo hi).2=_ from e];simp only[wq,List.flatMap_nil,ww];exact List.perm_append_comm
def TreeOf.openK{d:Nat}{kd:QqO}{hs:List Thing}{pl:List Pair}(hn:(hs.map λt=>t.1).Nodup){ts:List Thing}{tr:Tr}(h:TreeOf d ts tr):(∀t∈ts,t∈hs)->(ts.map λt=>t.1).Nodup->∀y∈qb pl tr,ltP (kT d kd hs y) (ya d kd ts)=false:=by
 induction h with
 |@one t hl=>
  intro J O y L;unfold qb at L
  split at L
  ·simp at L
  ·rw[zF.mp L,(TreeOf.one hl).keyOf hn J O];exact jx _
 | @two ts ls us ns lo hi p hp ac t1 t2 aa Y =>
  intro J O y L;have W:((ls++us).map λt=>t.1).Nodup:=(p.map _).nodup_iff.mpr O;rw[zK,xG] at W;unfold qb at L
  split at L
  ·simp at L
  ·rcases zk.mp L with rfl | L
   ·rw[(TreeOf.two p hp ac t1 t2).keyOf hn J O];exact jx _
   ·rcases zS.mp L with L | L
    ·exact QN (Xi (λt ht=>p.mem_iff.mp (zR _ ht)) t1.ne) (aa (λt ht=>J t (p.mem_iff.mp (zR _ ht))) W.1 y L)
    ·exact QN (Xi (λt ht=>p.mem_iff.mp (zp _ ht)) t2.ne) (Y (λt ht=>J t (p.mem_iff.mp (zp _ ht))) W.2.1 y L)
def QOk.sub1{d:Nat}{hs:List Thing}{q:List Qe}(h:QOk d hs q){x:Qe}(hx:x∈q):(∀t∈x.1,t∈hs)/\(x.1.map λt=>t.1).Nodup:=by
 have J:x.1.Sublist (vm q):=by
  clear h
  induction q with
  |nil=>simp at hx
  |cons y q L=>
   rw[vp]
   rcases zk.mp hx with rfl |hx
   ·exact List.sublist_append_left ..
   ·exact(L hx).trans (wT ..)
 exact⟨λt ht=>h.sub t (J.mem ht),(J.map _).nodup h.nd⟩
section
variable {d:Nat}{kd:QqO}{hs:List Thing}{pl:List Pair}{k n:Nat}{all:List Tr}{front:(Int × Int)->List Tr}{q:List Qe}{acc:List Thing}{P:List Tr}
def POk.looks0(h:POk d kd hs pl k all front n [] acc P):n=all.length:=by
 have:=h.perm.length_eq;rw[<- this,<- h.len];simp
def POk.looks1(hn:(hs.map λt=>t.1).Nodup)(ok:QOk d hs q)(h:POk d kd hs pl k all front n q acc P){t:Thing}(h1:∀p∈P,ltP (ya d kd [t]) (kT d kd hs p)=false)(h2:∀x∈q,ltP (ya d kd [t]) (ya d kd x.1)=true) :
  n=(all.filter λy=>!ltP (ya d kd [t]) (kT d kd hs y)).length:=by
 have e:=(h.perm.filter λy=>!ltP (ya d kd [t]) (kT d kd hs y)).length_eq
 rw[<- e,yq,zy,List.filter_eq_self.mpr λp Y=>by rw[h1 p Y];rfl,h.len]
 have z:((q.flatMap λx=>qb pl x.2).filter λy=>!ltP (ya d kd [t]) (kT d kd hs y))=[]:=vd.mpr λy J=>by
  obtain⟨x,hx,J⟩:=List.mem_flatMap.mp J;obtain⟨O,L⟩:=ok.sub1 hx;have i1:=(ok.tree x hx).openK (kd:=kd) (pl:=pl) hn O L y J;have i2:=h2 x hx
  have W:ltP (ya d kd [t]) (kT d kd hs y)=true:=by
   rw[kQ] at i2 ⊢
   have i4:¬ ((kT d kd hs y).1<(ya d kd x.1).1\/((kT d kd hs y).1=(ya d kd x.1).1/\(kT d kd hs y).2<(ya d kd x.1).2)):=λz=>by rw[<- kQ,i1] at z;cases z
   lia
  rw[W];simp
 rw[z];simp
def POk.waits(Y:(hs.map λt=>t.1).Nodup)(L:DOk d hs kd pl q acc)(h:POk d kd hs pl k all front n q acc P){t:Thing}(h1:∀p∈P,ltP (ya d kd [t]) (kT d kd hs p)=false)(h2:∀x∈q,ltP (ya d kd [t]) (ya d kd x.1)=true):(q.map λx=>x.2).Perm (front (ya d kd [t])):=by
 refine List.Perm.trans ?_ (h.frn _ h1)
 have e:∀l:List Qe,(∀x∈l,x∈q)->(l.map λx=>x.2)=l.flatMap λx=>vG d kd hs pl (ya d kd [t]) x.2:=λl=>by
  induction l with
  |nil=>intro _;rfl
  |cons x l O=>
   intro J
   rw[zE,wq,O λy W=>J y (zj _ W),JR (L.inb x (J x (by simp))) (by rw[L.ok.keyOf Y (J x (by simp))];exact h2 x (J x (by simp)))]
   rfl
 rw[e q λx hx=>hx]
end
def zH8(bd:List Pair):Prop:=∀(i:Nat) (b:Pair),bd[i]?=some b->∃lo hi:Int,b=(some lo,some hi)/\lo<=hi
def zg6(lo hi:Int)(q:Pair):Bool:=(match q.1 with |none=>true |some a=>decide (a<=lo))&&(match q.2 with |none=>true |some b=>decide (hi<=b))
def TreeOf.deep{d:Nat}{ts:List Thing}{tr:Tr}(h:TreeOf d ts tr):WM tr<ts.length:=by
 induction h with
 |one=>exact Nat.zero_lt_one
 |@two ts ls hs ns L J p _ _ h1 O i1 i2=>
  have:=p.length_eq;rw[zy] at this;show 1+max (WM L) (WM J)<ts.length;lia
def xG4:Option Tr->D
 |none=>.non
 |some t=>vI t
@[simp] theorem xs9(t:Option Tr):we (xG4 t)=true:=by
 cases t with
 |none=>rfl
 |some t=>exact vF t
def zC1{ps:List Pair}{i:Nat}{q:Pair}{R:D->Prop}(h:ps[i]?=some q)(J:R (xR q)):WV (xy ps) (.int i) R:=by
 unfold xy;rw[zk4]
 exact⟨_,qh (by rw[zw,h];rfl),J⟩
structure JPn(b:List Jc)(n i:Nat)(rho:Rho)(m:Nat):Prop where
 e:m=n
 u:∀(k:Nat) s,k<i->b[k]?=some s->wI (Zs s)=false
 r:∃(x y z u:Option D),rho=[some (vz b),some (.own (((b.take i).map Zs).map xR)),x,y,z,u]
def Vx{α β:Type}{f:α->β}{xs:List α}{i:Nat}{x:α}(h:xs[i]?=some x):(xs.take (i+1)).map f=(xs.take i).map f++[f x]:=by
 rw[xq,h];simp
structure JIn(dd:D)(bd pl:List Pair)(n i:Nat)(rho:Rho)(m:Nat):Prop where
 e:m=n
 u:∀(k:Nat) lo hi q,k<i->bd[k]?=some (some lo,some hi)->pl[k]?=some q->zg6 lo hi q=true
 r:∃(x y z u:Option D),rho=[some dd,some (xy pl),x,y,z,u]
section
variable {P:Program}{w:World}{K:W.Frag}{mg:QqM}{base:Heap}{f:Addr}{fd:FuncData}
abbrev jl:Stmt:=top 31
abbrev Jg:List Str:=["_law_box_here","_law_pairs","_law_low","_law_high","_law_least","_law_greatest"]
def vM:FnScope Jg ["_law_box_here"] (xi jl):=⟨rfl,rfl,rfl,x3,rfl,x3,x3⟩
def VA:TF:=λds n Q=>∃b:List Jc,ds=[vz b]/\1<=b.length/\b.length<=900/\Q (xy (wZ b)) n
def zn3(T:Blt mg)(F:Fun K "_law_plain" "_law_plain" jl f fd):FnOk P w K mg base CX0 1 f fd ["_law_box_here"] (spD K 1 VA):=by
 refine Fun.okD F vM (λah A0 outer s H E G Z hr=>(zG (XB (i:=1) vM.nd rfl (lo rfl) zm)
  (zG (qt (m:=6) PassesOwn.never rfl (vo rfl (zh 0)) (vh (k:=2) rfl rfl (xf (zV (i:=2) vM.nd rfl (lo rfl) w6) (xf (zV (i:=3) vM.nd rfl (lo rfl) w6) yw)))
  (zG (yS (i:=4) vM.nd rfl (lo rfl) (VU (wh jd jc (zh 2) vq (wK _)) vq (kC (wO xJ wN (zh 2) zA (λ_ _=>rfl)) (yV ZZ Us T.int za8 (zc (zJ7 (wO xJ wN (zh 2) zA (λ_ _=>rfl))) zm)))))
  (zG (yS (i:=5) vM.nd rfl (lo rfl) (VU (wh jd jc (zh 3) vq (wK _)) vq (qD (wO xJ wN (zh 3) zA (λ_ _=>rfl)) (yV ZZ Us T.int za8 (zc (zJ7 (wO xJ wN (zh 3) zA (λ_ _=>rfl))) zm)))))
  (zG (vt (PWD.pt (qr (wh Yw Ys (zh 4) vq (wK _)) (qr (wh Yw Ys (zh 5) vq (wK _)) (qo (wh XH Xy (zh 4) (zh 5) (wK _)))))) (zU (xQ (Yu zQ9 zO0 (yn (zc (yn (zc zA (zc zA zm))) zm)) (wn wL kX T.len ki (zc (zh 0) zm))))) yj)
  (zU (kY (i:=1) (zc (yn (zc (zh 4) (zc (zh 5) zm))) zm) rfl))))))
  (zU (Zo 1 (xQ (yV yB kg T.tuple kh (zc (zh 1) zm)))))))) ?_
 generalize ad:Ws (sIf _ _ _) _=S2;generalize ae:Ws (zc4 5 _) _=S1;rintro ds n Q hl ⟨b,rfl,ag,af,q⟩;have Y:we (vz b)=true:=id rfl;simp[startD,Y]
 refine⟨b.map qy,.inr rfl,JPn b n,⟨rfl,λk s hk=>by lia,_,_,_,_,rfl⟩,?_,?_⟩
 ·rintro i d rho m e ⟨rfl, hu, x, y, z, u, rfl⟩;rw[zw] at e
  cases h:b[i]? with
  |none=>rw[h] at e;cases e
  | some s =>
   rw[h] at e;cases e;have hi:i<b.length:=(zu.mp h).1
   have J:(((b.take i).map Zs).map xR).length<sizeLine:=by
    rw[zg,zg,xt]
    exact lt_size w5
   have key:∀x y z u:Option D,wI (Zs s)=false->JPn b m (i+1) [some (vz b),some (.own (((b.take i).map Zs).map xR++[xR (Zs s)])),x,y,z,u] m:=λx y z u hc=>by
    refine⟨rfl,λk s' hk e=>?_,x,y,z,u,?_⟩
    ·by_cases ac : k = i
     ·subst ac;rw[h] at e;cases e;exact hc
     ·exact hu k s' w5 e
    ·rw[Vx h,zK];rfl
   have W:wI (Zs s)=true->Q (.tup (replicate b.length (.tup [.int 1,.int 0]))) m:=λhc=>by
    have ha:(b.map Zs).any wI=true:=List.any_eq_true.mpr ⟨_,zi.mpr ⟨s,zQ h,rfl⟩,hc⟩;unfold wZ at q;rw[Zc ha,zg] at q;unfold xy at q;rw[List.map_replicate] at q;exact q
   have rep:∀R:D->Prop,R (.tup (replicate b.length (.tup [.int 1,.int 0])))->zU2 [vz b] λd2=>zk3 (.tup [.tup [.int 1,.int 0]]) d2 R:=λR hR=>by
    refine zk5.mpr (zz9.mpr ⟨by simp,by rw[zg];lia,?_,?_⟩)
    ·rw[zg];exact wU (by simp;lia)
    ·rw [zg]
     have:((replicate ((b.length:Int).toNat) [D.tup [.int 1,.int 0]]).flatten)=replicate b.length (.tup [.int 1,.int 0]):=by
      rw[yP,List.flatten_replicate_singleton]
     rw[this];exact hR
   clear q hl;generalize ((b.take i).map Zs).map xR=aa at J key ⊢
   have L:∀(F:EndsD) (x y:Option D) (l g:Option Int),F.nx=JPn b m (i+1)->F.rt=Q->Zs s=(l,g)->S2 F [some (vz b),some (.own aa),x,y,some (WK l),some (WK g)] m:=λF x y l g h1 h2 h3=>by
    subst ad;rw[h3] at key W
    rcases l with _ |l
    ·have ng : we (WK g) = true := by cases g <;> rfl
     simp[Y,h1,ng];exact⟨J,key _ _ _ _ rfl⟩
    ·rcases g with _ | g
     ·simp[Y,h1];exact⟨J,key _ _ _ _ rfl⟩
     ·simp [Y, h1, h2]
      split
      ·rename_i hh;exact rep _ (W (xm hh))
      ·rename_i hh;exact⟨J,key _ _ _ _ (zN hh)⟩
   have O:∀(F:EndsD) (x u:Option D) (l:Option Int),F.nx=JPn b m (i+1)->F.rt=Q->Kp s.1=l->S1 F [some (vz b),some (.own aa),x,some (qf s.2),some (WK l),u] m:=λF x u l h1 h2 h3=>by
    subst ae
    have r2:=fun(g:Option Int) (e:QT s.2=g)=>L F x (some (qf s.2)) l g h1 h2 (by unfold Zs;rw[h3,e])
    generalize s.2=t at r2 ⊢
    rcases t with _ |⟨c,s2⟩
    ·simp;exact r2 _ rfl
    ·cases s2<;>(simp;exact r2 _ rfl)
   have r1:=fun(F:EndsD) (x u:Option D) (l:Option Int) h1 h2 (e:Kp s.1=l)=>O F x u l h1 h2 e;have nt:=XM s.2;unfold qy;generalize s.1=t at r1 ⊢;generalize qf s.2=eh at nt r1 ⊢;clear O L key W rep
   rcases t with _ |⟨a,s1⟩
   ·simp[Y,nt];exact r1 _ _ _ _ rfl rfl rfl
   ·cases s1<;>(simp[Y,nt];exact r1 _ _ _ _ rfl rfl rfl)
 ·rintro rho m ⟨rfl, hu, x, y, z, u, rfl⟩;rw[zg,wj]
  have ha:¬ (b.map Zs).any wI=true:=λhc=>by
   obtain⟨k,p,e,hp⟩:=KZ.mp hc;rw[zw] at e
   cases h:b[k]? with
   |none=>rw[h] at e;cases e
   |some s=>
    rw[h] at e;cases e
    rw[hu k s (by rw[zg];exact(zu.mp h).1) h] at hp
    cases hp
  unfold wZ at q;rw[qJ ha] at q;unfold xy at q;rw[zB] at q;simp;exact q
def Qp(bd pl:List Pair):Prop:=pl[0]?≠some emptyP/\∀(i:Nat) lo hi q,bd[i]?=some (some lo,some hi)->pl[i]?=some q->zg6 lo hi q=true
abbrev qP:Stmt:=top 32
abbrev UB:List Str:=["_law_edges","_law_plain_here","_law_low","_law_high","_law_least","_law_greatest"]
def vR:FnScope UB ["_law_edges","_law_plain_here"] (xi qP):=⟨rfl,rfl,rfl,x3,rfl,x3,x3⟩
def Xp:TF:=λds n Q=>∃(J:D) (bd pl:List Pair),ds=[J,xy pl]/\(J=xy bd\/J=.lst (bd.map xR))/\bd.length=pl.length/\1<=bd.length/\pl.length<=400/\zH8 bd/\(Qp bd pl->Q (.bl true) n)/\(¬ Qp bd pl->Q (.bl false) n)
def zd5(T:Blt mg)(F:Fun K "_law_inside" "_law_inside" qP f fd):FnOk P w K mg base CX0 1 f fd ["_law_edges","_law_plain_here"] (spD K 2 Xp):=by
 refine Fun.okD F vR (λag A0 outer s H E G Z hr=>(zG (vt (wh (xg8 hr) (xb5 rfl) (wO xJ wN (zh 1) zA (λ_ _=>rfl)) (yn (zc zA (zc zA zm))) (wK _)) (zU (xQ Zq)) yj)
  (zG (qt (m:=6) PassesOwn.never rfl (XD rfl T.zip (zc (zh 0) (zc (zh 1) zm))) (vh (k:=2) rfl rfl (xf (vh (k:=2) rfl rfl (xf (zV (i:=2) vR.nd rfl (lo rfl) w6) (xf (zV (i:=3) vR.nd rfl (lo rfl) w6) yw))) (xf (vh (k:=2) rfl rfl (xf (zV (i:=4) vR.nd rfl (lo rfl) w6) (xf (zV (i:=5) vR.nd rfl (lo rfl) w6) yw))) yw)))
  (zU (vt (PWD.pt (WY (PWD.pt (qr (wh Yw Ys (zh 4) vq (wK _)) (qo (wh zR0 zO1 (zh 2) (zh 4) (wK _))))) (Yt (PWD.pt (qr (wh Yw Ys (zh 5) vq (wK _)) (qo (wh XH Xy (zh 3) (zh 5) (wK _)))))))) (zU (xQ Zq)) yj)))
  (zU (xQ Zq))))) ?_
 rintro ds n Q hl ⟨dd,bd,pl,rfl,aa,ae,h1,hz,hE,hy,hn⟩
 have ac:we dd=true:=by rcases aa with rfl |rfl<;>rfl
 have W:pl[0]?=some pl[0]:=zd w5
 have e1:(D.tup [.int 1,.int 0])=xR emptyP:=rfl
 have O:∀R:List D->Prop,R (WN (bd.map xR) (pl.map xR))->zK6 [dd,xy pl] R:=λR h=>by
  rcases aa with rfl |rfl
  ·exact(jU (d1:=xy bd) (d2:=xy pl) rfl rfl).mpr h
  ·exact(jU (d1:=.lst (bd.map xR)) (d2:=xy pl) rfl rfl).mpr h
 simp[startD,ac];refine zC1 (i:=0) W ?_;rw[e1,zF8];refine⟨QK _ 19,QK _ 19,?_⟩
 by_cases J:pl[0]=emptyP
 ·rw [xm J];simp
  exact hn λI=>I.1 (by rw[W,J])
 rw[zN J]
 have hne':pl[0]?≠some emptyP:=λe=>J (by rw[W] at e;exact zP e)
 simp;refine O _ ?_;rw[zH9]
 refine⟨JIn dd bd pl n,⟨rfl,λk lo hi q hk=>by lia,_,_,_,_,rfl⟩,?_,?_⟩
 ·rintro i d rho m e ⟨rfl, hu, x, y, z, u, rfl⟩;rw[zw] at e
  cases h:(bd.zip pl)[i]? with
  |none=>rw[h] at e;cases e
  | some c =>
   rw[h] at e;cases e;obtain⟨bp,q0⟩:=c;obtain⟨h2,h3⟩:=List.getElem?_zip_eq_some.mp h;obtain⟨lo,hi,rfl,af⟩:=hE i _ h2
   have key:∀x y z u:Option D,zg6 lo hi q0=true->JIn dd bd pl m (i+1) [some dd,some (xy pl),x,y,z,u] m:=λx y z u hc=>by
    refine⟨rfl,λk lo' hi' q' hk Y g2=>?_,x,y,z,u,rfl⟩
    by_cases ad:k=i
    ·subst ad;rw[h2] at Y;rw[h3] at g2;cases Y;cases g2;exact hc
    ·exact hu k lo' hi' q' w5 Y g2
   have L:zg6 lo hi q0=false->Q (.bl false) m:=λhb=>hn λI=>by rw[I.2 i lo hi q0 h2 h3] at hb;cases hb
   clear hy hn O;obtain⟨a,b⟩:=q0
   rcases a with _ |a<;>rcases b with _ |b
   ·simp[xR];exact key _ _ _ _ rfl
   ·simp [xR]
    split
    ·rename_i hh
     exact L (by simp[zg6];lia)
    ·rename_i hh
     exact key _ _ _ _ (by simp[zg6];lia)
   ·simp [xR]
    split
    ·rename_i hh
     exact L (by simp[zg6];lia)
    ·rename_i hh
     exact key _ _ _ _ (by simp[zg6];lia)
   ·simp [xR]
    split
    ·rename_i hh
     exact L (by simp[zg6];lia)
    ·split
     ·rename_i hh
      exact L (by simp[zg6];lia)
     ·exact key _ _ _ _ (by simp[zg6];lia)
 ·rintro rho m ⟨rfl, hu, x, y, z, u, rfl⟩;simp
  exact hy ⟨hne',λk lo hi q' Y g2=>hu k lo hi q' (by
   rw[zg,yK];have a1:=(zu.mp Y).1
   lia) Y g2⟩
end
def Kv(x:Int)(q:Pair):zg6 x x q=liesT q.1 q.2 x:=by
 obtain⟨a,b⟩:=q
 rcases a with _ |a<;>rcases b with _ |b<;>rfl
def zA2(p:List Int):List Pair:=p.map λx=>(some x,some x)
def zJ1{p:List Int}{i:Nat}{x:Int}(h:p[i]?=some x):(zA2 p)[i]?=some (some x,some x):=by unfold zA2;rw[zw,h];rfl
def zA1(p:List Int):zH8 (zA2 p):=λi b J=>by
 unfold zA2 at J;rw[zw] at J
 cases h:p[i]? with
 |none=>rw[h] at J;cases J
 |some x=>rw[h] at J;cases J;exact⟨x,x,rfl,yz _⟩
def Vk{p:List Int}{pl:List Pair}(O:p.length=pl.length)(h1:1<=p.length):Qp (zA2 p) pl↔ZV pl p=true:=by
 constructor
 ·intro I;refine jA.mpr λi q x J hx=>?_;rw[<- Kv];exact I.2 i x x q (zJ1 hx) J
 ·intro h;refine⟨λe=>?_,λi lo hi q L J=>?_⟩
  ·have hx:p[0]?=some p[0]:=zd h1;have z:=jA.mp h 0 _ _ e hx;simp[emptyP,liesT] at z;lia
  ·obtain⟨x,hx⟩:=Wn (r:=p) O.symm J;rw[zJ1 hx] at L;cases L;rw[Kv];exact jA.mp h i q _ J hx
section
variable {P:Program}{w:World}{K:W.Frag}{mg:QqM}{base:Heap}{f:Addr}{fd:FuncData}
abbrev Zl:Stmt:=top 33
abbrev ZF:List Str:=["_law_plain_here","_law_place"]
def UN:FnScope ZF q6 (xi Zl):=⟨rfl,rfl,rfl,x3,rfl,x3,x3⟩
def WC:("_law_number_here" :: ZF:List Str).Nodup:=x3
def Jn:TF:=λds n Q=>∃(pl:List Pair) (p:List Int),ds=[xy pl,yd p]/\p.length=pl.length/\1<=p.length/\p.length<=400/\Q (.bl (ZV pl p)) n
def zC5(F:Fun K "_law_fits" "_law_fits" Zl f fd)(Y_inside:Fn P w K mg base "_law_inside" 1 2 Xp):FnOk P w K mg base CX0 2 f fd q6 (spD K 2 Jn):=by
 refine Fun.okD F UN (λaa A0 outer s H E G Z hr=>(zU (xQ (yf Y_inside (hr.mono w6) rfl (zc (vC (own:=["_law_number_here"]) (M:=ZF) (vH (by rfl)) rfl (vo rfl (zh 1)) (λC L W O=>(zV (i:=0) WC rfl (lo rfl) w6)) (λC L W O=>yU) (λC L W O=>(yn (zc (zh 0) (zc (zh 0) zm))))) (zc (zh 0) zm)))))) ?_
 rintro ds n Q hl ⟨pl,p,rfl,J,h1,hz,q⟩;have Y:we (yd p)=true:=id rfl;simp[startD,Y]
 refine⟨p.map D.int,.inr rfl,ye D.int (λx=>xR (some x,some x)) p (wU w5) (λx hx R hR=>?_) ?_⟩
 ·simp;exact hR
 ·refine ⟨_, zA2 p, pl, rfl, .inr (by unfold zA2; rw [zB]; rfl), by unfold zA2; rw [zg]; exact J, by unfold zA2; rw [zg]; exact h1, by lia, zA1 p, λI => ?_, λI => ?_⟩
  ·rw[(Vk J h1).mp I] at q;exact q
  ·cases c : ZV pl p with
   |true=>exact absurd ((Vk J h1).mpr c) I
   |false=>rw[c] at q;exact q
end
theorem zr0(x:Int):∀ns:List Int,inD (.int x) (ns.map D.int)=decide (x∈ns)
 |[]=>by simp[inD]
 |y::ns=>by
  have J:=zr0 x ns;unfold inD at J ⊢;rw[zE,yR,J]
  by_cases e:x=y
  ·subst e;simp[eqD]
  ·have L:¬ y=x:=λz=>e z.symm;simp[eqD,e,L]
def zH4(ns:List Int):(ns.map D.int).all Wd=true:=by
 rw[wm];intro d hd;obtain⟨x,_,rfl⟩:=zi.mp hd;rfl
def zS6{l:List Thing}(h:1<=l.length):zg5 (l.map λt=>0-t.2.2)=- WD (l.map λt=>t.2.2):=by
 obtain⟨h1,L⟩:=kF (ka (ns:=l.map λt=>t.2.2) (by rw[zg];exact h))
 obtain⟨u,hu,e⟩:=zi.mp h1
 refine(VZ (zi.mpr ⟨u,hu,by rw[<- e];lia⟩) λy J=>?_).symm
 obtain⟨t,ht,rfl⟩:=zi.mp J;have:=L t.2.2 (zi.mpr ⟨t,ht,rfl⟩);lia
def jQ(k:QqP):D:=.tup [.int k.1,.int k.2]
@[simp] theorem xt0(k:QqP):we (jQ k)=true:=id rfl
theorem zs8:∀t:Tr,1<=qa t
 |.one _ _=>zn 1
 |.two _ _ l h=>by unfold qa;lia
section
variable {P:Program}{w:World}{K:W.Frag}{mg:QqM}{base:Heap}{f:Addr}{fd:FuncData}
abbrev jk:Stmt:=top 34
abbrev jG:List Str:=["_law_edges","_law_place"]
def VJ:FnScope jG q7 (xi jk):=⟨rfl,rfl,rfl,x3,rfl,x3,x3⟩
def qc:("_law_low" :: "_law_high" :: "_law_number_here" :: jG:List Str).Nodup:=x3
def ZJ:TF:=λds n Q=>∃(J:D) (pl:List Int) (bd:List (Int × Int)),ds=[J,yd pl]/\(J=xy (bd.map Jk)\/J=.lst ((bd.map Jk).map xR))/\pl.length<=1000/\Q (.int (kB bd pl)) n
def zn2(T:Blt mg)(T2:Blt2 mg)(F:Fun K "_law_steps" "_law_steps" jk f fd):FnOk P w K mg base CX0 1 f fd q7 (spD K 2 ZJ):=by
 refine Fun.okD F VJ (λaa A0 outer s H E G Z hr=>(zU (xQ (wn (za6 rfl) zL8 T2.sum zM0 (zc (vC (own:=["_law_low","_law_high","_law_number_here"]) (M:=jG) (vH (by rfl)) rfl (XD rfl T.zip (zc (zh 0) (zc (zh 1) zm))) (λC L Y O=>(vh (k:=2) rfl rfl (xf (vh (k:=2) rfl rfl (xf (zV (i:=0) qc rfl (lo rfl) w6) (xf (zV (i:=1) qc rfl (lo rfl) w6) yw))) (xf (zV (i:=2) qc rfl (lo rfl) w6) yw)))) (λC L Y O=>yU) (λC L Y O=>(wn (KN rfl) zu1 T.max Vt (zc zA (zc (qD (zh 0) (zh 2)) (zc (qD (zh 2) (zh 1)) zm)))))) zm))))) ?_
 rintro ds n Q hl ⟨W,pl,bd,rfl,J,hz,q⟩
 have ez:WN ((bd.map Jk).map xR) (pl.map D.int)=(bd.zip pl).map λz=>.tup [xR (Jk z.1),.int z.2]:=by
  unfold WN;rw[zB,zipWith_map,yg];rfl
 have nd:we W=true:=by rcases J with rfl |rfl<;>rfl
 have np:we (yd pl)=true:=id rfl
 have kz:∀R:List D->Prop,R (WN ((bd.map Jk).map xR) (pl.map D.int))->zK6 [W,yd pl] R:=λR h=>by
  rcases J with rfl |rfl
  ·exact(jU (d1:=xy (bd.map Jk)) (d2:=yd pl) rfl rfl).mpr h
  ·exact(jU (d1:=.lst ((bd.map Jk).map xR)) (d2:=yd pl) rfl rfl).mpr h
 simp[startD,nd,np];refine kz _ ?_;rw[ez]
 refine ye (λz:(Int × Int) × Int=>.tup [xR (Jk z.1),.int z.2]) (λz=>.int (jN z.1 z.2)) (bd.zip pl) (zD (by rw[yK];lia) (wU (k:=1000) w5)) (λz hz R hR=>?_) ?_
 ·simp[xR,Jk];exact hR
 ·have e : ((bd.zip pl).map λz : (Int × Int) × Int => D.int (jN z.1 z.2)) = ((bd.zip pl).map λz => jN z.1 z.2).map D.int := by
   rw[zB];rfl
  exact⟨(bd.zip pl).map (λz:(Int × Int) × Int=>jN z.1 z.2),by rw[e],q⟩
abbrev Yn:Stmt:=top 35
abbrev YI:List Str:=["_law_house_here","_law_tree_here","_law_kind_here"]
def Ju:FnScope YI q8 (xi Yn):=⟨rfl,rfl,rfl,x3,rfl,x3,x3⟩
def qV:("_law_name" :: "_law_place" :: "_law_worth" :: YI:List Str).Nodup:=x3
def zi1:TF:=λds n Q=>∃(d:Nat) (hs ts:List Thing) (tr:Tr) (kd:QqO),ds=[wv d hs,vI tr,yT kd]/\(hs.map λt=>t.1).Nodup/\hs.length<=1000/\TreeOf d ts tr/\(∀t∈ts,t∈hs)/\(ts.map λt=>t.1).Nodup/\(∀pl,kd=some pl->pl.length<=1000)/\Q (jQ (ya d kd ts)) n
def zR7(T:Blt mg)(F:Fun K "_law_key" "_law_key" Yn f fd)(Y_steps:Fn P w K mg base "_law_steps" 1 2 ZJ):FnOk P w K mg base CX0 2 f fd q8 (spD K 3 zi1):=by
 refine Fun.okD F Ju (λac A0 outer s H E G Z hr=>(zG (vt (wh Wv Wt (wO xJ wN (zh 2) zA (λ_ _=>rfl)) XE (wK _)) (zU (xQ (yn (zc (yf Y_steps (hr.mono w6) rfl (zc (wO xJ wN (zh 1) zA (λ_ _=>rfl)) (zc (wO xJ wN (zh 2) zA (λ_ _=>rfl)) zm))) (zc (wO xJ wN (wO xJ wN (zh 1) zA (λ_ _=>rfl)) zA (λ_ _=>rfl)) zm))))) yj)
  (zU (xQ (yn (zc (wn (KM rfl) zu0 T.min Vs (zc (vC (own:=["_law_name","_law_place","_law_worth"]) (M:=YI) (vH (by rfl)) rfl (vo rfl (wO xJ wN (zh 0) zA (λ_ _=>rfl))) (λ_ _ _ _=>(vh (k:=3) rfl rfl (xf (zV (i:=0) qV rfl (lo rfl) w6) (xf (zV (i:=1) qV rfl (lo rfl) w6) (xf (zV (i:=2) qV rfl (lo rfl) w6) yw))))) (λ_ _ _ _=>(QA (wh zm6 (xv7 (neg:=false)) (zh 0) (wO xJ wN (zh 4) zA (λ_ _=>rfl)) (by with_unfolding_all rfl)))) (λ_ _ _ _=>(qD zA (zh 2)))) zm)) (zc (wO xJ wN (wO xJ wN (zh 1) zA (λ_ _=>rfl)) zA (λ_ _=>rfl)) zm))))))) ?_
 rintro ds n Q hl ⟨d,hs,ts,tr,kd,rfl,hn,hz,ht,L,Y,hk,q⟩;obtain⟨ta,tb,et,na,nb⟩:=ZY tr;obtain⟨r,W⟩:=ht.head
 have aa:atI ((xx tr).map D.int) 0=some (.int (vf ts)):=by rw[W];exact zr3
 have nh:=vU d hs;have J:=vF tr
 have O:∀R:D->Prop,R (.tup ((xx tr).map D.int))->WV (vI tr) (.int 0) R:=λR h=>by rw[et];exact⟨_,0,_,.inr (.inl rfl),rfl,rfl,h⟩
 have r1:∀R:D->Prop,R (xy (Wq tr))->WV (vI tr) (.int 1) R:=λR h=>by rw[et];exact⟨_,1,_,.inr (.inl rfl),rfl,rfl,h⟩
 have hh:∀R:D->Prop,R (.int (vf ts))->WV (.tup ((xx tr).map D.int)) (.int 0) R:=λR h=>⟨_,0,_,.inr (.inl rfl),rfl,aa,h⟩;simp[startD,nh,J]
 cases kd with
 |some pl=>
  refine⟨_,0,_,.inr (.inl rfl),rfl,rfl,?_⟩;simp;refine r1 _ ⟨_,1,_,.inr (.inl rfl),rfl,rfl,?_⟩
  refine⟨_,pl,bdI d ts,rfl,.inl (by rw[ht.bd,zv6]),hk pl rfl,O _ (hh _ ?_)⟩
  exact q
 | none =>
  refine⟨_,0,_,.inr (.inl rfl),rfl,rfl,?_⟩;simp
  rw[if_neg w6]
  refine Vl ?_;simp;have hp:=ht.ofN hn L Y
  have h1:1<=(ofN hs tr).length:=by rw[hp.length_eq];exact ht.ne
  refine JX xI (λt=>decide (t.1∈xx tr)) (λt=>.int (0-t.2.2)) hs (wU hz) (λt ht R S h1 h2=>?_) ?_
  ·simp [xI, J];refine O _ ?_;refine⟨rfl,_,.inl rfl,zH4 _,?_⟩;rw[zr0];simp
   split
   ·rename_i h;have z:=h1 (xm h)
    rwa [Int.zero_sub] at z
   ·rename_i h;exact h2 (zN h)
  ·have e : ((hs.filter λt => decide (t.1 ∈ xx tr)).map λt => D.int (0 - t.2.2)) = ((ofN hs tr).map λt => 0 - t.2.2).map D.int := by rw [zB]; rfl
   rw[e]
   refine Vh (by rw[zg];exact h1) (O _ (hh _ ?_))
   rw[zS6 h1,Ki (hp.map λt=>t.2.2)];exact q
end
def zi9{p:QqP}{x:Int}(h1:jO p.1)(h2:jO p.2)(hx:zd8 x):0<=jN p x/\jN p x<=200000000000000002/\zH7 1002 (jN p x):=by
 obtain⟨⟨a1,a2⟩,a,e,ha,ac,aa⟩:=h1;obtain⟨⟨b1,b2⟩,b,f,Y,W,O⟩:=h2;obtain⟨⟨c1,c2⟩,c,g,L,J,hc2⟩:=hx;unfold jN;generalize p.1=u at *;generalize p.2=v at *
 refine⟨w5,w5,?_⟩
 have:max 0 (max (u-x) (x-v))=0\/max 0 (max (u-x) (x-v))=u-x\/max 0 (max (u-x) (x-v))=x-v:=by clear ha Y L;lia
 rcases this with h |h |h
 ·rw[h];exact⟨0,0,w5,w5,w5⟩
 ·rw[h];exact⟨a-c,e-g,w5,w5,w5⟩
 ·rw[h];exact⟨c-b,g-f,w5,w5,w5⟩
theorem WQ:∀{bd:List (Int × Int)}{pl:List Int},(∀p∈bd,jO p.1/\jO p.2)->(∀x∈pl,zd8 x)->0<=kB bd pl/\kB bd pl<=200000000000000002*bd.length/\zH7 (1002*bd.length) (kB bd pl)
 |[],pl,_,_=>⟨yz _,yz _,0,0,rfl,by simp,by simp⟩
 |p::bd,[],_,_=>by
  have e:kB (p::bd) []=0:=rfl;rw[e,zI]
  exact⟨w5,w5,0,0,w5,w5,w5⟩
 |p::bd,x::pl,h1,J=>by
  obtain⟨i1,i2,a,e,h3,h4,h5⟩:=WQ (bd:=bd) (pl:=pl) (λq Y=>h1 q (zj _ Y)) λy W=>J y (zj _ W)
  obtain⟨O,L⟩:=h1 p (by simp)
  obtain⟨j1,j2,b,f,g3,g4,g5⟩:=zi9 O L (J x (by simp))
  rw[Za,zI]
  exact⟨w5,w5,a+b,e+f,w5,w5,w5⟩
def zE5{d:Nat}{kd:QqO}{ts:List Thing}(hd:d<=4)(h1:1<=ts.length)(O:∀t∈ts,t.2.1.length=d/\(∀x∈t.2.1,jO x)/\jO t.2.2)(hk:∀pl,kd=some pl->∀x∈pl,zd8 x):FormK (YB d kd ts):=by
 cases kd with
 | some pl =>
  have L:∀(i:Nat) (x:Int),i<d->x∈za1 ts i->jO x:=λi x hi hx=>by
   rw[Wi] at hx;obtain⟨t,ht,rfl⟩:=zi.mp hx;obtain⟨l1,W,_⟩:=O t ht
   rw[zd (show i<t.2.1.length by lia)]
   exact W _ (wl _)
  have h:=WQ (bd:=bdI d ts) (pl:=pl) (λp J=>by
   unfold bdI at J;obtain⟨i,hi,rfl⟩:=zi.mp J;have hi':=yY.mp hi
   exact⟨L i _ hi' (JL h1),L i _ hi' (JP h1)⟩) (hk pl rfl)
  rw[Wm] at h;obtain⟨i1,i2,a,e,h3,h4,Y⟩:=h;show FormK (kB (bdI d ts) pl);generalize kB (bdI d ts) pl=s at *
  exact⟨⟨a,e,w5,w5,w5⟩,w5,w5⟩
 |none=>
  have a:=(kF (ka (ns:=ts.map λt=>t.2.2) (by rw[zg];exact h1))).1
  obtain⟨t,ht,e⟩:=zi.mp a;obtain⟨_,_,⟨i1,i2⟩,b,f,h3,h4,Y⟩:=O t ht;show FormK (- WD _);rw[<- e];generalize t.2.2=s at *
  exact⟨⟨-b,-f,w5,w5,w5⟩,w5,w5⟩
def zU9{d:Nat}{hs:List Thing}{kd:QqO}(O:GoodT d hs 2000)(hd:d<=4)(hk:∀pl,kd=some pl->∀x∈pl,zd8 x):zw7 d kd hs:=λls us h1 h2 Y W J=>by
 have f:∀l:List Thing,(∀t∈l,t∈hs)->1<=l.length->FormK (YB d kd l)/\0<=vf l/\vf l<2000:=λl L h=>by
  obtain⟨t,ht,e⟩:=vw h;have g:=O.each t (L t ht)
  exact⟨zE5 hd h (λt ht=>(O.each t (L t ht)).2.2) hk,w5,w5⟩
 obtain⟨a1,a2,a3⟩:=f ls h1 Y;obtain⟨b1,b2,b3⟩:=f us h2 W;exact zr4 a1 b1 a2 a3 b2 b3 J
def ptI(p:List Int):List (Int × Int):=p.map λx=>(x,x)
def zK0(kd:QqO)(t:Thing):Int:=match kd with
 |some pl=>kB (ptI t.2.1) pl
 |none=>0-t.2.2
def zW1{t:Thing}{i:Nat}:za1 [t] i=[t.2.1[i]?.getD 0]:=by rw[Wi];rfl
def zW5{d:Nat}{t:Thing}(O:t.2.1.length=d):bdI d [t]=ptI t.2.1:=by
 refine ext_getElem? λi=>?_
 by_cases hi:i<d
 ·rw [zv7 [t] hi];unfold ptI
  rw[zw,zd (show i<t.2.1.length by lia)]
  have L:=JL (ts:=[t]) (i:=i) (by simp)
  have J:=JP (ts:=[t]) (i:=i) (by simp)
  rw[zW1,zF,zd (show i<t.2.1.length by lia)] at L J
  rw[L,J];rfl
 ·rw[wW (by rw[Wm];lia),wW (by unfold ptI;rw[zg];lia)]
def zR4{d:Nat}{kd:QqO}{t:Thing}(J:t.2.1.length=d):YB d kd [t]=zK0 kd t:=by
 cases kd with
 |some pl=>
  show kB (bdI d [t]) pl=_;rw[zW5 J];rfl
 | none =>
  have e:t.2.2=WD ([t].map λt:Thing=>t.2.2):=Ub (by simp) λa ha=>by
   rw[show [t].map (λt:Thing=>t.2.2)=[t.2.2] from rfl,zF] at ha;lia
  show-WD _=0-t.2.2;rw[<- e];lia
def Uh{d:Nat}{kd:QqO}{t:Thing}(J:t.2.1.length=d):ya d kd [t]=(zK0 kd t,t.1):=by
 unfold ya;rw[zR4 J,YA]
def xv6(kd:QqO)(t:Thing):SRow:=⟨.n (zK0 kd t),t.1,[]⟩
def zF5{pl:List Pair}{ts:List Thing}{i:Nat}{t:Thing}(h:ts[i]?=some t):jP pl (ts.take (i+1))=jP pl (ts.take i)++(if ZV pl t.2.1=true then [t] else []):=by
 unfold jP;rw[xq,h,yq]
 congr 1
 show List.filter _ [t]=_
 cases ha:ZV pl t.2.1<;>simp[ha]
structure JRk(d:Nat)(hs:List Thing)(pl:List Pair)(kd:QqO)(n i:Nat)(rho:Rho)(m:Nat):Prop where
 e:m=n
 r:∃a b c:Option D,rho=[some (wv d hs),some (xy pl),some (yT kd),some (.own ((jP pl (hs.take i)).map λt=>jQ (zK0 kd t,t.1))),a,b,c]
structure JTk(d:Nat)(hs:List Thing)(kd:QqO)(x:Int)(n i:Nat)(rho:Rho)(m:Nat):Prop where
 e:m=n
 u:∀(k:Nat) t,k<i->hs[k]?=some t->t.1≠x
 r:∃a b c:Option D,rho=[some (wv d hs),some (yT kd),some (.int x),a,b,c]
section
variable {P:Program}{w:World}{K:W.Frag}{mg:QqM}{base:Heap}{f:Addr}{fd:FuncData}
abbrev Zk:Stmt:=top 27
abbrev ZE:List Str:=["_law_left_here","_law_house_here","_law_place"]
def YN:FnScope ZE q1 (xi Zk):=⟨rfl,rfl,rfl,x3,rfl,x3,x3⟩
def WB:("_law_i" :: ZE:List Str).Nodup:=x3
def zi3:TF:=λds n Q=>∃(d:Nat) (ts:List Thing),ds=[.st,wv d ts]/\n=3/\d<=4/\GoodT d ts 2000/\ts.length<=30/\∀kd:Option (List Int),(∀pl,kd=some pl->pl.length=d/\∀x∈pl,zd8 x)->Q (yT kd) 3
def zR9(T:Blt mg)(F:Fun K "_law_kind" "_law_kind" Zk f fd)(Y_pick:Fn P w K mg base "_law_pick" 1 2 YL)(Y_number:Fn P w K mg base "_law_number" 2 3 ZI):FnOk P w K mg base CX0 3 f fd q1 (spD K 2 zi3):=by
 refine Fun.okD F YN (λac A0 outer s H E G Z hr=>(zG (yS (i:=2) YN.nd rfl (lo rfl) (yV yB kg T.tuple kh (zc (vC (own:=["_law_i"]) (M:=ZE) (vH (by rfl)) rfl (Zp T.range (zc (wO xJ wN (zh 1) zA (λ_ _=>rfl)) zm)) (λC W H2 fp=>(zV (i:=0) WB rfl (lo rfl) w6)) (λC W H2 fp=>yU) (λC W H2 fp=>(yf Y_number (hr.mono w6) rfl (zc (zh 1) (zc (zh 2) (zc (zh 0) zm)))))) zm)))
  (zU (xQ (wO xJ wN (vN (zc (yn (zc XE zm)) (zc (yn (zc XE (zc (zh 2) zm))) (zc (yn (zc XE (zc (zh 2) zm))) zm)))) (yf Y_pick (hr.mono w6) rfl (zc (zh 0) (zc zA zm))) (λ_ _=>rfl)))))) ?_
 rintro ds n Q hl ⟨d,ts,rfl,rfl,aa,hg,hz,q⟩;have Y:=vU d ts;simp[startD,Y]
 refine zr1 ⟨d,rfl,w5,w5,?_⟩
 refine KJ (zc5 0 d) 3 (λ_ e=>∃x:Int,zd8 x/\e=.int x) (by rw[jn];exact wU w5) (λj d2 e2 Q' hQ'=>?_) (λes hp=>?_)
 ·obtain⟨hj,rfl⟩:=WT e2;simp[Y];exact jt hj hg hz λx hx=>hQ' _ ⟨x,hx,rfl⟩
 ·have J := hp.length;rw[jn] at J;obtain⟨ps,rfl,O⟩:=jq hp;rw[zg] at J;simp
  refine wC w6 w6 λk g0 g1=>zJ4 g0 (by simpa using g1) λdd L=>?_
  have hq:=q (some ps) λpl e=>by cases e;exact⟨w5,O⟩
  simp only[zk,xg,or_false] at L
  rcases L with rfl |rfl |rfl
  ·exact q none λpl e=>by cases e
  ·exact hq
  ·exact hq
abbrev qN:Stmt:=top 37
abbrev qZ:List Str:=["_law_house_here","_law_plain_here","_law_kind_here","_law_keys","_law_name","_law_place","_law_worth"]
def vQ:FnScope qZ q11 (xi qN):=⟨rfl,rfl,rfl,x3,rfl,x3,x3⟩
def YU:("_law_one" :: qZ:List Str).Nodup:=x3
def je:("_law_far" :: "_law_name" :: ["_law_house_here","_law_plain_here","_law_kind_here","_law_keys","_law_name'","_law_place","_law_worth"]:List Str).Nodup:=x3
def Vy:TF:=λds n Q=>∃(d:Nat) (hs:List Thing) (pl:List Pair) (kd:QqO),ds=[wv d hs,xy pl,yT kd]/\1<=d/\d<=400/\pl.length=d/\(∀t∈hs,t.2.1.length=d)/\(hs.map λt=>t.1).Nodup/\hs.length<=60/\(∀p,kd=some p->p.length<=1000)/\∀J:List Thing,J.Perm (jP pl hs)->J.Pairwise (ltK d kd)->Q (.lst (J.map λt=>.int t.1)) n
def zm9(T:Blt mg)(F:Fun K "_law_ranked" "_law_ranked" qN f fd)(Y_fits:Fn P w K mg base "_law_fits" 2 2 Jn)(Y_steps:Fn P w K mg base "_law_steps" 1 2 ZJ):FnOk P w K mg base CX0 3 f fd q11 (spD K 3 Vy):=by
 refine Fun.okD F vQ (λah A0 outer s H E G Z hr=>(zG (XB (i:=3) vQ.nd rfl (lo rfl) zm)
  (zG (qt (m:=7) PassesOwn.never rfl (vo rfl (wO xJ wN (zh 0) zA (λ_ _=>rfl))) (vh (k:=3) rfl rfl (xf (zV (i:=4) vQ.nd rfl (lo rfl) w6) (xf (zV (i:=5) vQ.nd rfl (lo rfl) w6) (xf (zV (i:=6) vQ.nd rfl (lo rfl) w6) yw))))
  (zU (vt (Zm (yf Y_fits (hr.mono w6) rfl (zc (zh 1) (zc (zh 5) zm)))) (zU (kY (i:=3) (zc (yn (zc (VU (wh Wv Wt (wO xJ wN (zh 2) zA (λ_ _=>rfl)) XE (wK _)) (qD zA (zh 6)) (yf Y_steps (hr.mono w6) rfl (zc (vC (own:=["_law_one"]) (M:=qZ) (vH (by rfl)) rfl (vo rfl (zh 5)) (λC W H2 Y=>(zV (i:=0) YU rfl (lo rfl) w6)) (λC W H2 Y=>yU) (λC W H2 Y=>(yn (zc (zh 0) (zc (zh 0) zm))))) (zc (wO xJ wN (zh 2) zA (λ_ _=>rfl)) zm)))) (zc (zh 4) zm))) zm) rfl)) yj)))
  (zU (Zo 3 (xQ (vC (own:=["_law_far","_law_name"]) (M:=["_law_house_here","_law_plain_here","_law_kind_here","_law_keys","_law_name'","_law_place","_law_worth"]) (vH (by rfl)) rfl (vo rfl (wn (Vr hr) (QY rfl) T.sorted Yb (zc (zh 3) zm))) (λC W H2 Y=>(vh (k:=2) rfl rfl (xf (zV (i:=0) je rfl (lo rfl) w6) (xf (zV (i:=1) je rfl (lo rfl) w6) yw)))) (λC W H2 Y=>yU) (λC W H2 Y=>(zh 1))))))))) ?_
 generalize hS:xo3 3 _=Sr;rintro ds n Q hl ⟨d,hs,pl,kd,rfl,ag,af,ad,O,hn,hz,hk,q⟩;have nh:=vU d hs;simp[startD,nh];refine Vl ?_;simp;refine⟨JRk d hs pl kd n,⟨rfl,_,_,_,rfl⟩,?_,?_⟩
 ·rintro i dd rho m e ⟨rfl, a, b, c, rfl⟩;clear hS;rw[zw] at e
  cases ht:hs[i]? with
  |none=>rw[ht] at e;cases e
  | some t =>
   rw[ht] at e;cases e;have hm:=zQ ht;have hi:i<hs.length:=(zu.mp ht).1;have ac:=O t hm;have np:we (yd t.2.1)=true:=id rfl;have L:=zF5 (pl:=pl) ht
   have hsz:(jP pl (hs.take i)).length<sizeLine:=by
    have h1:(jP pl (hs.take i)).length<=(hs.take i).length:=wV ..;rw[xt] at h1
    exact lt_size w5
   simp[xI,np]
   refine⟨pl,t.2.1,rfl,w5,w5,w5,?_⟩
   simp
   split
   ·rename_i hf;rw[if_pos hf] at L;refine⟨hsz,?_⟩
    have fin:∀x:Int,x=zK0 kd t->JRk d hs pl kd m (i+1) [some (wv d hs),some (xy pl),some (yT kd),some (.own ((jP pl (hs.take i)).map (λt=>jQ (zK0 kd t,t.1))++[.tup [.int x,.int t.1]])),some (.int t.1),some (yd t.2.1),some (.int t.2.2)] m:=λx hx=>by subst hx;exact⟨rfl,_,_,_,by rw[L,zK];rfl⟩
    cases kd with
    | some p =>
     refine⟨_,0,_,.inr (.inl rfl),rfl,rfl,?_⟩;simp
     rw[if_neg w6]
     refine⟨t.2.1.map D.int,.inr rfl,ye D.int (λx=>xR (some x,some x)) t.2.1 (wU w5) (λx hx R hR=>?_) ?_⟩
     ·simp;exact hR
     ·refine ⟨_, 1, _, .inr (.inl rfl), rfl, rfl, ?_⟩
      refine⟨_,p,ptI t.2.1,rfl,.inr (by unfold ptI;rw[zB,zB];rfl),hk p rfl,?_⟩
      exact fin _ rfl
    |none=>
     refine⟨_,0,_,.inr (.inl rfl),rfl,rfl,?_⟩;simp;exact fin _ (Int.zero_sub _).symm
   ·rename_i hf;rw[if_neg hf,ww] at L
    exact⟨rfl,_,_,_,by rw[L]⟩
 ·rintro rho m ⟨rfl, a, b, c, rfl⟩;subst hS;rw[zg,wj];have ae:(jP pl hs).length<=hs.length:=wV ..;simp
  refine⟨(jP pl hs).map (xv6 kd),true,by rw[zB];rfl,by rw[zg];lia,λx hx=>?_,?_,λaa hp hs'=>⟨_,.inl rfl,?_⟩⟩
  ·obtain⟨_,_,rfl⟩:=zi.mp hx;rfl
  ·rw[zB];exact(List.filter_sublist.map _).nodup hn
  ·obtain ⟨rs, J, rfl⟩ := QD hp;rw[zB]
   refine ye (SRow.d∘xv6 kd) (λt=>.int t.1) rs (wU (by rw[J.length_eq];lia)) (λt ht R hR=>?_) ?_
   ·have e:(SRow.d∘xv6 kd) t=.tup [.int (zK0 kd t),.int t.1]:=rfl;rw[e];simp;exact hR
   ·refine q rs J ?_;rw[xn] at hs';refine List.Pairwise.imp_of_mem (λ{a b} ha hb h=>?_) hs';have la:=O a (zt.mp (J.mem_iff.mp ha)).1;have lb:=O b (zt.mp (J.mem_iff.mp hb)).1;unfold ltK;rw[Uh la,Uh lb];exact zj7 h
abbrev kM:Stmt:=top 38
abbrev kU:List Str:=["_law_house_here","_law_kind_here","_law_name","_law_own","_law_place","_law_worth"]
def vL:FnScope kU q12 (xi kM):=⟨rfl,rfl,rfl,x3,rfl,x3,x3⟩
def Zw:("_law_one" :: kU:List Str).Nodup:=x3
def zi0:TF:=λds n Q=>∃(d:Nat) (hs:List Thing) (kd:QqO) (t:Thing),ds=[wv d hs,yT kd,.int t.1]/\t∈hs/\d<=400/\t.2.1.length=d/\(hs.map λt=>t.1).Nodup/\(∀p,kd=some p->p.length<=1000)/\Q (jQ (ya d kd [t])) n
def zR5(T:Blt mg)(F:Fun K "_law_thing_key" "_law_thing_key" kM f fd)(Y_steps:Fn P w K mg base "_law_steps" 1 2 ZJ):FnOk P w K mg base CX0 2 f fd q12 (spD K 3 zi0):=by
 refine Fun.okD F vL (λac A0 outer s H E G Z hr=>(zG (qt (m:=6) PassesOwn.never rfl (vo rfl (wO xJ wN (zh 0) zA (λ_ _=>rfl))) (vh (k:=3) rfl rfl (xf (zV (i:=3) vL.nd rfl (lo rfl) w6) (xf (zV (i:=4) vL.nd rfl (lo rfl) w6) (xf (zV (i:=5) vL.nd rfl (lo rfl) w6) yw))))
  (zU (vt (wh Wv Wt (zh 3) (zh 2) (wK _)) (zU (xQ (yn (zc (VU (wh Wv Wt (wO xJ wN (zh 1) zA (λ_ _=>rfl)) XE (wK _)) (qD zA (zh 5)) (yf Y_steps (hr.mono w6) rfl (zc (vC (own:=["_law_one"]) (M:=kU) (vH (by rfl)) rfl (vo rfl (zh 4)) (λC Y H2 fp=>(zV (i:=0) Zw rfl (lo rfl) w6)) (λC Y H2 fp=>yU) (λC Y H2 fp=>(yn (zc (zh 0) (zc (zh 0) zm))))) (zc (wO xJ wN (zh 1) zA (λ_ _=>rfl)) zm)))) (zc (zh 3) zm))))) yj)))
  (zU (xQ vq)))) ?_
 rintro ds n Q hl ⟨d,hs,kd,t,rfl,J,aa,O,hn,hk,q⟩;rw[Uh O] at q;have nh:=vU d hs;simp[startD,nh];refine Vl ?_;simp
 refine⟨JTk d hs kd t.1 n,⟨rfl,λk t h=>by lia,_,_,_,rfl⟩,?_,?_⟩
 ·rintro i dd rho m e ⟨rfl, hu, a, b, c, rfl⟩;rw[zw] at e
  cases ht:hs[i]? with
  |none=>rw[ht] at e;cases e
  | some u =>
   rw[ht] at e;cases e;have hm:=zQ ht;have np:we (yd u.2.1)=true:=id rfl;simp[xI,np]
   split
   ·rename_i W;have he':u=t:=Vw hn hm J W;subst he'
    cases kd with
    | some p =>
     refine⟨_,0,_,.inr (.inl rfl),rfl,rfl,?_⟩;simp
     rw[if_neg w6]
     refine⟨u.2.1.map D.int,.inr rfl,ye D.int (λx=>xR (some x,some x)) u.2.1 (wU w5) (λx hx R hR=>?_) ?_⟩
     ·simp;exact hR
     ·refine ⟨_, 1, _, .inr (.inl rfl), rfl, rfl, ?_⟩
      exact⟨_,p,ptI u.2.1,rfl,.inr (by unfold ptI;rw[zB,zB];rfl),hk p rfl,q⟩
    |none=>
     refine⟨_,0,_,.inr (.inl rfl),rfl,rfl,?_⟩;simp
     have e:zK0 none u=- u.2.2:=by show 0-u.2.2=_;lia
     rw[e] at q;exact q
   ·rename_i W;refine⟨rfl,λk v hk L=>?_,_,_,_,rfl⟩
    by_cases e:k=i
    ·subst e;rw[ht] at L;cases L;exact W
    ·exact hu k v w5 L
 ·rintro rho m ⟨rfl, hu, a, b, c, rfl⟩
  exfalso
  obtain⟨k,hk,e⟩:=getElem_of_mem J
  exact hu k t (by rw[zg];exact hk) (by rw[zd hk,e]) rfl
end
def vO(pl:List Pair):Option Tr->List Tr
 |none=>[]
 |some tr=>qb pl tr
def Kr(J:List Thing)(k:Nat):Thing:=J[k-1]?.getD (0,[],0)
noncomputable def Wp(d:Nat)(kd:QqO)(hs J:List Thing)(k:Nat)(all:List Tr):Nat:=
 if J.length<k then all.length else if 0<k then(all.filter λy=>!ltP (ya d kd [Kr J k]) (kT d kd hs y)).length else 0
noncomputable def zL1(d:Nat)(kd:QqO)(hs:List Thing)(pl:List Pair)(L:QqP):Option Tr->List Tr
 |none=>[]
 |some tr=>vG d kd hs pl L tr
noncomputable def zx5(d:Nat)(kd:QqO)(hs:List Thing)(pl:List Pair)(J:List Thing)(k:Nat)(o:Option Tr):List (List Int):=
 if J.length<k\/k=0 then [] else(zL1 d kd hs pl (ya d kd [Kr J k]) o).map xx
noncomputable def kN(d:Nat)(kd:QqO)(hs:List Thing)(ns:List Int):Int × Int:=ya d kd (hs.filter λt=>decide (t.1∈ns))
def LtN(d:Nat)(kd:QqO)(hs:List Thing)(a b:List Int):Prop:=ltP (kN d kd hs a) (kN d kd hs b)=true
section
variable {d:Nat}{hs:List Thing}{kd:QqO}{pl:List Pair}{k n':Nat}{o:Option Tr}{q ws:List Qe}{acc rs:List Thing}
def zF9(hd:1<=d)(hp:pl.length=d)(Y:(hs.map λt=>t.1).Nodup)(ai:o=none->hs=[])(ah:∀tr,o=some tr->TreeOf d hs tr)(hr:rs.Perm (jP pl hs))(hu:rs.Pairwise (ltK d kd))(R:Reach d kd pl k (qz o hs pl k) n' q acc)(ad:q=[]\/acc.length=k)(al:acc.length<=k)(hw:ws.Perm q)(hs':ws.Pairwise (LtQ d kd)) :
  acc=rs.take k/\n'=Wp d kd hs rs k (vO pl o)/\(ws.map λx=>xx x.2).Perm (zx5 d kd hs pl rs k o)/\(ws.map λx=>xx x.2).Pairwise (LtN d kd hs):=by
 by_cases h0:k=0
 ·subst h0;obtain⟨e1,e2,e3⟩:=R.zero
  have e4:qz o hs pl 0=[]:=by cases o with |none=>rfl |some tr=>exact(if_pos rfl:(if 0=0 then [] else vg pl [(hs,tr)])=[])
  rw[e4] at e2;subst e1 e2 e3;have e5:ws=[]:=hw.eq_nil;subst e5;refine⟨rfl,?_,?_,.nil⟩
  ·unfold Wp;rw[if_neg w5,if_neg w5]
  ·unfold zx5;rw[if_pos (.inr rfl)];exact .refl _
 ·have ag : DOk d hs kd pl (qz o hs pl k) [] := by
   cases o with
   |none=>exact .none (ai rfl)
   |some tr=>
    show DOk d hs kd pl (if k=0 then [] else vg pl [(hs,tr)]) []
    rw[if_neg h0];exact .start hd hp (ah tr rfl) Y
  have D1:=R.dok hd hp ag;have J:=D1.told Y hr hu;obtain⟨P,ok⟩:=R.pok hd hp Y ag
  have af:((qz o hs pl k).flatMap λx=>qb pl x.2)=vO pl o:=by
   cases o with
   |none=>rfl
   |some tr=>
    show((if k=0 then [] else vg pl [(hs,tr)]).flatMap λx=>qb pl x.2)=qb pl tr
    rw[if_neg h0,jz _ (λtr=>Va)];simp
  have aj:∀L,((qz o hs pl k).flatMap λx=>vG d kd hs pl L x.2)=zL1 d kd hs pl L o:=λL=>by
   cases o with
   |none=>rfl
   |some tr=>
    show((if k=0 then [] else vg pl [(hs,tr)]).flatMap λx=>vG d kd hs pl L x.2)=vG d kd hs pl L tr
    rw[if_neg h0,jz _ (λtr=>Wc)];simp
  rw[af] at ok;have ae:=D1.perm.length_eq;rw[zy] at ae;have ak:=hr.length_eq
  have W:(ws.map λx=>xx x.2).Pairwise (LtN d kd hs):=by
   rw[xn];refine List.Pairwise.imp_of_mem (λ{a b} ha hb h=>?_) hs';have i1:kN d kd hs (xx a.2)=ya d kd a.1:=D1.ok.keyOf Y (hw.mem_iff.mp ha);have i2:kN d kd hs (xx b.2)=ya d kd b.1:=D1.ok.keyOf Y (hw.mem_iff.mp hb);unfold LtN;rw[i1,i2];exact h
  have O:q=[]->acc.length=rs.length:=λh=>by
   subst h;have:(jP pl (vm [])).length=0:=rfl;lia
  by_cases hk:rs.length<k
  ·have hq : q = [] := by
    rcases ad with h |h
    ·exact h
    ·lia
   have ha:=O hq;subst hq;have e5:ws=[]:=hw.eq_nil;subst e5;refine⟨?_,?_,?_,.nil⟩
   ·have e := J;rw[ha,wj] at e
    rw[e,yl w5]
   ·unfold Wp;rw[if_pos hk];exact ok.looks0
   ·unfold zx5;rw[if_pos (.inl hk)];exact .refl _
  ·have aa : acc.length = k := by
    rcases ad with h |h
    ·have:=O h;lia
    ·exact h
   obtain⟨t,ht,f1,f2⟩:=ok.fin aa w5
   rw[aa] at J
   have et:t=Kr rs k:=by
    rw[List.getLast?_eq_getElem?,aa,J,List.getElem?_take_of_lt w5] at ht
    unfold Kr;rw[ht];rfl
   subst et;refine⟨J,?_,?_,W⟩
   ·unfold Wp
    rw[if_neg hk,if_pos w5]
    exact ok.looks1 Y D1.ok f1 f2
   ·unfold zx5
    rw[if_neg w5]
    have ac:=ok.waits Y D1 f1 f2;rw[aj] at ac;have z:=((hw.map λx=>x.2).trans ac).map xx;rw[zB] at z;exact z
end
def zD1(l:List Int)(k:Nat):okE (.tup (l.map D.int)) (k+1)=true:=Kb l k
end K42
set_option maxHeartbeats 2000000
namespace K42
def qG(o:Option Tr):D:=(o.map vI).getD .non
def VY(o:Option Tr):we (qG o)=true:=by cases o with |none=>rfl |some t=>exact vF t
def kI:Tr->List Tr
 |.one x bd=>[.one x bd]
 |.two ns bd l h=>.two ns bd l h::(kI l++kI h)
def Xs:Option Tr->List Tr
 |none=>[]
 |some tr=>kI tr
theorem jJ:∀t:Tr,(kI t).length=qa t
 |.one _ _=>rfl
 |.two _ _ l h=>by
  unfold kI qa;rw[zI,zy,jJ l,jJ h];lia
def TreeOf.subs{d:Nat}{hs:List Thing}{ts:List Thing}{tr:Tr}(h:TreeOf d ts tr):(∀t∈ts,t∈hs)->(ts.map λt=>t.1).Nodup->∀y∈kI tr,∃us,TreeOf d us y/\(∀t∈us,t∈hs/\t∈ts)/\(us.map λt=>t.1).Nodup:=by
 induction h with
 |@one t hl=>
  intro J O y L;unfold kI at L;rw[zF.mp L];exact⟨_,.one hl,λt ht=>⟨J t ht,ht⟩,O⟩
 | @two ts ls us ns lo hi p hp ac t1 t2 aa Y =>
  intro J O y L;have W:((ls++us).map λt=>t.1).Nodup:=(p.map _).nodup_iff.mpr O;rw[zK,xG] at W;unfold kI at L
  rcases zk.mp L with rfl |L
  ·exact⟨_,.two p hp ac t1 t2,λt ht=>⟨J t ht,ht⟩,O⟩
  ·rcases zS.mp L with L | L
   ·obtain⟨vs,a,b,c⟩:=aa (λt ht=>J t (p.mem_iff.mp (zR _ ht))) W.1 y L;exact⟨vs,a,λt ht=>⟨(b t ht).1,p.mem_iff.mp (zR _ (b t ht).2)⟩,c⟩
   ·obtain⟨vs,a,b,c⟩:=Y (λt ht=>J t (p.mem_iff.mp (zp _ ht))) W.2.1 y L;exact⟨vs,a,λt ht=>⟨(b t ht).1,p.mem_iff.mp (zp _ (b t ht).2)⟩,c⟩
def TreeOf.subsN{d:Nat}{ts:List Thing}{tr:Tr}(h:TreeOf d ts tr):(ts.map λt=>t.1).Nodup->((kI tr).map xx).Nodup:=by
 induction h with
 |one h=>intro _;simp[kI]
 | @two ts ls us ns lo hi p hp ae t1 t2 ac aa =>
  intro ad;have J:((ls++us).map λt=>t.1).Nodup:=(p.map _).nodup_iff.mpr ad;have hnp':=J;rw[zK,xG] at J;have names:∀{vs:List Thing}{y:Tr},TreeOf d vs y->∀n,n∈xx y↔n∈vs.map λt=>t.1:=λhv n=>hv.names.1.mem_iff
  have W:∀{vs:List Thing}{y:Tr},TreeOf d vs y->(xx y).length=vs.length:=λhv=>by rw[hv.names.1.length_eq,zg]
  have l1:=t1.ne;have l2:=t2.ne;have lp:=p.length_eq;rw[zy] at lp
  have O:∀{vs ws:List Thing}{y tr:Tr},TreeOf d ws tr->(ws.map λt=>t.1).Nodup->y∈kI tr->(xx y).length<=ws.length/\∀n∈xx y,n∈ws.map λt=>t.1:=λ{vs ws y tr} hw hn L=>by
   obtain⟨us',a,b,c⟩:=hw.subs (hs:=ws) (λt ht=>ht) hn y L;refine⟨?_,λn hn'=>?_⟩
   ·rw[W a];exact(ju c).length_le_of_subset λt ht=>(b t ht).2
   ·obtain⟨t,ht,e⟩:=zi.mp ((names a n).mp hn');exact zi.mpr ⟨t,(b t ht).2,e⟩
  show(xx (.two ns (jS d (ts.map λt=>t.2.1)) lo hi)::(kI lo++kI hi).map xx).Nodup;refine xu.mpr ⟨λhm=>?_,?_⟩
  ·obtain ⟨y, L, e⟩ := zi.mp hm
   have hl:(xx y).length=ts.length:=by rw[e];show ns.length=_;rw[hp.length_eq,zg]
   rcases zS.mp L with L |L
   ·have:=(O (vs:=[]) t1 J.1 L).1;lia
   ·have:=(O (vs:=[]) t2 J.2.1 L).1;lia
  ·rw[zK,xG];refine⟨ac J.1,aa J.2.1,λa ha b hb e=>?_⟩;obtain⟨y,L,rfl⟩:=zi.mp ha;obtain⟨z,hz,rfl⟩:=zi.mp hb;obtain⟨vs,v1,v2,v3⟩:=t1.subs (hs:=ls) (λt ht=>ht) J.1 y L;obtain⟨t,ht⟩:=List.exists_mem_of_length_pos v1.ne;have Y:t.1∈xx y:=(names v1 _).mpr (zi.mpr ⟨t,ht,rfl⟩);rw[e] at Y;have h2:=(O (vs:=[]) t2 J.2.1 hz).2 _ Y;exact J.2.2 _ (zi.mpr ⟨t,(v2 t ht).2,rfl⟩) _ h2 rfl
def TreeOf.leafO{d:Nat}{pl:List Pair}(hd:1<=d)(hp:pl.length=d){ts:List Thing}{tr:Tr}(h:TreeOf d ts tr){t:Thing}(ht:t∈ts)(hf:ZV pl t.2.1=true):.one t.1 (jS d [t.2.1])∈qb pl tr:=by
 have W:∀{us:List Thing}{y:Tr},TreeOf d us y->t∈us->¬ vn (Wq y) pl=true:=λhy hm ha=>by
  have:=hy.apart hd hp ha;rw[vd] at this;exact this t hm hf
 induction h with
 |@one u hl=>
  have e:t=u:=zF.mp ht;subst e
  have this:¬ vn (jS d [t.2.1]) pl=true:=W (TreeOf.one hl) (by simp)
  unfold qb;rw[if_neg this];simp
 |@two ts ls us ns lo hi p hp' O t1 Y L J=>
  have this:¬ vn (jS d (ts.map λt=>t.2.1)) pl=true:=W (TreeOf.two p hp' O t1 Y) ht;unfold qb;rw[if_neg this];refine zj _ ?_
  rcases zS.mp (p.mem_iff.mpr ht) with h |h
  ·exact zR _ (L h)
  ·exact zp _ (J h)
section
variable {P:Program}{w:World}{K:W.Frag}{mg:QqM}{base:Heap}{f:Addr}{fd:FuncData}
abbrev Yp:Stmt:=top 36
abbrev zg4:List Str:=["_law_tree_here","_law_path"]
def Jv:FnScope zg4 q3 (xi Yp):=⟨rfl,rfl,rfl,x3,rfl,x3,x3⟩
def zm5(x:List Int × Tr):D:=.tup [.tup (x.1.map D.int),vI x.2]
def AllD(es:List D)(J:List Tr):Prop:=∃ps:List (List Int),ps.length=J.length/\es=(ps.zip J).map zm5
def zi4:Nat->TF
 |0=>λ_ _ _=>False
 |j+1=>λds n Q=>∃(o:Option Tr) (p:List Int),ds=[qG o,.tup (p.map D.int)]/\p.length+j<=100/\(∀tr,o=some tr->WM tr+1<=j/\qa tr+p.length<=900)/\∀es,AllD es (Xs o)->Q (.lst es) n
def AllD.append{a b:List D}{s t:List Tr}(h1:AllD a s)(O:AllD b t):AllD (a++b) (s++t):=by
 obtain⟨p,J,rfl⟩:=h1;obtain⟨q,L,rfl⟩:=O
 exact⟨p++q,by simp[J,L],by rw[List.zip_append J,zK]⟩
def AllD.len{a:List D}{s:List Tr}(h:AllD a s):a.length=s.length:=by
 obtain⟨p,J,rfl⟩:=h;rw[zg,yK,J,Nat.min_self]
def xh5(F:Fun K "_law_all" "_law_all" Yp f fd)(hm:mg "_law_all" = some (.ref f))(hk:W.keepIn K (.ref f)=true)(hb:Binds K fd ["_law_tree_here","_law_path"] []):∀j:Nat,FnOk P w K mg base CX0 (j+1) f fd q3 (spD K 2 (zi4 j)):=by
 intro j
 induction j with
 |zero=>exact FnOk.botK λds n Q h=>h
 | succ j ih =>
  have Y_all:Fn P w K mg base "_law_all" (j+1) 2 (zi4 j):=⟨f,fd,_,ih,hm,hk,hb⟩
  refine Fun.okD F Jv (λaa A0 outer s H E G Z hr=>(zG (vt (wh jd jc (zh 0) vq (wK _)) (zU (xQ (vN zm))) yj)
  (zU (xQ (Yu QJ Qz (Yu QJ Qz (vN (zc (yn (zc (zh 1) (zc (zh 0) zm))) zm)) (yf Y_all hr rfl (zc (wO xJ wN (zh 0) zA (λ_ _=>rfl)) (zc (Yu QI zk2 (zh 1) (yn (zc zA zm))) zm)))) (yf Y_all hr rfl (zc (wO xJ wN (zh 0) zA (λ_ _=>rfl)) (zc (Yu QI zk2 (zh 1) (yn (zc zA zm))) zm)))))))) ?_
  rintro ds n Q hl ⟨o,p,rfl,hp,L,q⟩
  cases o with
  |none=>
   simp[startD,qG];exact q [] ⟨[],rfl,rfl⟩
  | some tr =>
   have J:=vF tr
   have ni:ZA (vI tr)=false:=by cases tr<;>rfl
   obtain⟨O,hsz⟩:=L tr rfl;simp[startD,qG,J,ni]
   obtain⟨i,rfl⟩:∃i,j=i+1:=⟨j-1,w5⟩
   have one:AllD [D.tup [D.tup (p.map D.int),vI tr]] [tr]:=⟨[p],rfl,rfl⟩
   have sub:∀(o:Option Tr) (x:Int) (R:D->Nat->Prop),(∀tr,o=some tr->WM tr+1<=i/\qa tr+(p.length+1)<=900)->(∀es,AllD es (Xs o)->es.length<=1000->R (.lst es) n)->zi4 (i+1) [qG o,.tup (p.map D.int++[.int x])] n R:=λo x R h1 h2=>
    ⟨o,p++[x],by rw[zK];rfl,by rw[zy];simp;lia,λtr e=>by rw[zy];exact h1 tr e,λes he=>h2 es he (by
     rw[he.len]
     cases o with
     |none=>exact wo _
     |some tr=>have:=(h1 tr rfl).2;show(kI tr).length<=1000;rw[jJ];lia)⟩
   have ps:p.length+1<=sizeLine:=wU w5
   cases tr with
   |one x bd=>
    refine⟨_,2,_,.inr (.inl rfl),rfl,rfl,ps,sub none 0 _ (λtr e=>by cases e) λe1 a1 l1=>?_⟩
    have z1:e1.length=0:=a1.len
    refine⟨_,_,rfl,rfl,wU (by rw[z1];simp),?_⟩
    refine⟨_,3,_,.inr (.inl rfl),rfl,rfl,ps,sub none 1 _ (λtr e=>by cases e) λY a2 l2=>?_⟩
    have z2:Y.length=0:=a2.len
    refine⟨_,_,rfl,rfl,wU (by simp;lia),?_⟩
    exact q _ ((one.append a1).append a2)
   |two ns bd lo hi=>
    have hdj':1+max (WM lo) (WM hi)+1<=i+1:=O;have hsz':1+qa lo+qa hi+p.length<=900:=hsz;have d1:=zs8 lo;have d2:=zs8 hi
    refine⟨_,2,_,.inr (.inl rfl),rfl,rfl,ps,sub (some lo) 0 _ (λtr e=>by cases e;exact⟨w5,w5⟩) λe1 a1 l1=>?_⟩
    have z1:e1.length=qa lo:=by rw[a1.len];exact jJ lo
    refine⟨_,_,rfl,rfl,wU (by simp;lia),?_⟩
    refine⟨_,3,_,.inr (.inl rfl),rfl,rfl,ps,sub (some hi) 1 _ (λtr e=>by cases e;exact⟨w5,w5⟩) λY a2 l2=>?_⟩
    have z2:Y.length=qa hi:=by rw[a2.len];exact jJ hi
    refine⟨_,_,rfl,rfl,wU (by simp;lia),?_⟩
    have:=(one.append a1).append a2
    exact q _ (by simpa [Xs,kI] using this)
end
theorem zv9{α:Type}{f:α->List Int}{g:α->D}:∀{l:List α}{x:α},x∈l->(l.map f).Nodup->L2.atL (l.map f) (l.map g) (f x)=some (g x)
 |[],x,h,_=>by simp at h
 |y::l,x,h,J=>by
  obtain⟨h1,L⟩:=xu.mp J
  show(if f y=f x then some (g y) else L2.atL (l.map f) (l.map g) (f x))=_
  rcases zk.mp h with rfl |h
  ·exact if_pos rfl
  ·rw[if_neg λe=>h1 (zi.mpr ⟨x,h,e.symm⟩)];exact zv9 h L
theorem UU{α:Type}(f:α->List Int)(g:α->D):∀l:List α,zC2 (l.map f) (l.map g)=l.map λx=>.tup [.tup ((f x).map D.int),g x]
 |[]=>rfl
 |x::l=>by
  have J:=UU f g l;unfold zC2 at J ⊢;rw[zE,zE,xD,J,zE]
theorem zg7{α β γ:Type}(h:β->γ):∀{ps:List α}{l:List β},ps.length=l.length->(ps.zip l).map (λx=>h x.2)=l.map h
 |[],[],_=>rfl
 |[],_::_,e=>by simp at e
 |_::_,[],e=>by simp at e
 |p::ps,x::l,e=>by rw[wa,zE,zE,zg7 h (by simpa using e)]
theorem Ke{α:Type}{R:α->α->Prop}:∀{l:List α},l.Pairwise R->∀z∈l.zip (l.drop 1),R z.1 z.2
 |[],_,z,hz=>by simp at hz
 |[x],_,z,hz=>by simp at hz
 |x::y::l,h,z,hz=>by
  obtain⟨h1,J⟩:=wb.mp h;have e:(x::y::l).zip ((x::y::l).drop 1)=(x,y)::(y::l).zip l:=rfl;rw[e] at hz
  rcases zk.mp hz with rfl |hz
  ·exact h1 y (by simp)
  ·exact Ke J z hz
def zW6{l:List Thing}{t:Thing}(h:l.getLast?=some t):atI (l.map λt=>D.int t.1) (-1)=some (.int t.1):=by
 obtain⟨r,rfl⟩:=List.getLast?_eq_some_iff.mp h;rw[zK];exact zH3 _ _
structure JAp(nm:List Int)(wt:QqI)(n i:Nat)(rho:Rho)(m:Nat):Prop where
 e:m=n
 r:∃z:Option D,rho=[some (.tup (nm.map D.int)),some (.tup (wt.map λl=>.tup (l.map D.int))),some (.own ((nm++(wt.take i).flatten).map D.int)),z]
section
variable {P:Program}{w:World}{K:W.Frag}{mg:QqM}{base:Heap}{f:Addr}{fd:FuncData}
abbrev ke:Stmt:=top 40
abbrev Yd:List Str:=["_law_names","_law_waiting","_law_found","_law_some"]
def vW:FnScope Yd ["_law_names","_law_waiting"] (xi ke):=⟨rfl,rfl,rfl,x3,rfl,x3,x3⟩
def zy1:TF:=λds n Q=>∃(L:List Int) (J:QqI),ds=[.tup (L.map D.int),.tup (J.map λl=>.tup (l.map D.int))]/\(L++J.flatten).Nodup/\(L++J.flatten).length<=900/\Q (.bl true) n
def xh4(T:Blt mg)(TS:mg "set" = none)(F:Fun K "_law_apart_names" "_law_apart_names" ke f fd):FnOk P w K mg base CX0 1 f fd ["_law_names","_law_waiting"] (spD K 2 zy1):=by
 refine Fun.okD F vW (λaa A0 outer s H E G Z hr=>(zG (zl2 (i:=2) vW.nd rfl (lo rfl) rfl T.list (zc (zh 0) zm))
  (zG (qt (m:=4) PassesOwn.never rfl (vo rfl (zh 1)) (zV (i:=3) vW.nd rfl (lo rfl) w6)
  (zU (zc7 (i:=2) (zc (yV jC zu4 T.list Ut (zc (zh 3) zm)) zm) rfl)))
  (zU (Zo 2 (xQ (XF Wv Wt (zm2 rfl rfl T.len TS (zh 2)) (wn wL kX T.len ki (zc (zh 2) zm)) (wK _)))))))) ?_
 rintro ds n Q hl ⟨L,J,rfl,Y,hz,q⟩
 have lenT:∀i,(L++(J.take i).flatten).length<=(L++J.flatten).length:=λi=>by
  have h:J.flatten=(J.take i).flatten++(J.drop i).flatten:=by rw[<- List.flatten_append,List.take_append_drop]
  rw[h];simp only[zy];lia
 simp[startD]
 refine⟨JAp L J n,⟨rfl,none,by simp⟩,?_,?_⟩
 ·rintro i dd rho m e ⟨rfl, z, rfl⟩;rw[zw] at e
  cases W:J[i]? with
  |none=>rw[W] at e;cases e
  |some l=>
   rw[W] at e;cases e
   have ht:L++(J.take (i+1)).flatten=L++(J.take i).flatten++l:=by rw[xq,W];simp
   have h1:=lenT (i+1)
   have fin:∀z:Option D,JAp L J m (i+1) [some (.tup (L.map D.int)),some (.tup (J.map λl=>.tup (l.map D.int))),some (.own ((L++(J.take i).flatten).map D.int++l.map D.int)),z] m:=λz=>⟨rfl,z,by rw[ht,zK (l₂:=l)]⟩
   rw[ht,zy] at h1;generalize L++(J.take i).flatten=O at h1 fin ⊢;simp
   exact⟨wU w5,fin _⟩
 ·rintro rho m ⟨rfl, z, rfl⟩;rw[zg,wj];generalize L++J.flatten=O at *;simp
  exact⟨O,rfl,Y,w5,by simpa using q⟩
abbrev kc:Stmt:=top 39
abbrev yN:List Str:=["_law_house_here","_law_tree_here","_law_kind_here","_law_names","_law_waiting","_law_trees","_law_keys"]
def vV:FnScope yN q13 (xi kc):=⟨rfl,rfl,rfl,x3,rfl,x3,x3⟩
def kE:("_law_path" :: "_law_one" :: yN:List Str).Nodup:=x3
def jv:("_law_some" :: yN:List Str).Nodup:=x3
def kD:("_law_one" :: "_law_other" :: yN:List Str).Nodup:=x3
structure WaitsOk(d:Nat)(kd:QqO)(hs:List Thing)(o:Option Tr)(trs:List Tr)(acc:List Thing):Prop where
 sub:∀y∈trs,y∈Xs o
 up:trs.Pairwise λa b=>ltP (kT d kd hs a) (kT d kd hs b)=true
 last:∀t,acc.getLast?=some t->∀y∈trs,ltP (ya d kd [t]) (kT d kd hs y)=true
 accs:∀t∈acc,t∈hs
 nd:((acc.map λt=>t.1)++(trs.map xx).flatten).Nodup
def Xe:TF:=λds n Q=>∃(d:Nat) (hs:List Thing) (o:Option Tr) (kd:QqO) (L:List Thing) (J:List Tr),ds=[wv d hs,qG o,yT kd,.tup (L.map λt=>.int t.1),.tup (J.map λy=>.tup ((xx y).map D.int))]/\1<=d/\d<=400/\(hs.map λt=>t.1).Nodup/\(∀t∈hs,t.2.1.length=d)/\hs.length<=30/\(∀p,kd=some p->p.length<=1000)/\(∀tr,o=some tr->TreeOf d hs tr)/\J.length<=60/\L.length<=60/\((L.map λt=>t.1)++(J.map xx).flatten).length<=900/\WaitsOk d kd hs o J L/\Q (.bl true) n
def zm8(T:Blt mg)(T3:Blt3 mg)(F:Fun K "_law_waits_right" "_law_waits_right" kc f fd)(Y_all:Fn P w K mg base "_law_all" 32 2 (zi4 31))(Y_key:Fn P w K mg base "_law_key" 2 3 zi1)(Y_thing_key:Fn P w K mg base "_law_thing_key" 2 3 zi0)(Y_apart_names:Fn P w K mg base "_law_apart_names" 1 2 zy1):FnOk P w K mg base CX0 33 f fd q13 (spD K 5 Xe):=by
 refine Fun.okD F vV (λar A0 outer s H E G Z Y=>(zG (yS (i:=5) vV.nd rfl (lo rfl) (yV (zf9 rfl Y) zG6 T3.dict zW4 (zc (vC (own:=["_law_path","_law_one"]) (M:=yN) (vH (by rfl)) rfl (vo rfl (yf Y_all (Y.mono w6) rfl (zc (zh 1) (zc (yn zm) zm)))) (λ_ _ _ _=>(vh (k:=2) rfl rfl (xf (zV (i:=0) kE rfl (lo rfl) w6) (xf (zV (i:=1) kE rfl (lo rfl) w6) yw)))) (λ_ _ _ _=>yU) (λ_ _ _ _=>(yn (zc (wO xJ wN (zh 1) zA (λ_ _=>rfl)) (zc (zh 1) zm))))) zm)))
  (zG (Zn (i:=6) vV.nd rfl (lo rfl) (own:=["_law_some"]) (M:=yN) (vH (by rfl)) rfl (vo rfl (zh 4)) (λ_ _ _ _=>(zV (i:=0) jv rfl (lo rfl) w6)) (λ_ _ _ _=>yU) (λ_ _ _ _=>(yf Y_key (Y.mono w6) rfl (zc (zh 1) (zc (zQ6 Y rfl (zh 6) (zh 0) (λ_ _=>rfl)) (zc (zh 3) zm))))))
  (zG (vt (JB (Zm (wn (zH2 rfl) xm9 T.all xn3 (zc (vC (own:=["_law_one","_law_other"]) (M:=yN) (vH (by rfl)) rfl (XD rfl T.zip (zc (zh 6) (zc (zm1 rfl (zh 6) (ZM zA) ZN) zm))) (λ_ _ _ _=>(vh (k:=2) rfl rfl (xf (zV (i:=0) kD rfl (lo rfl) w6) (xf (zV (i:=1) kD rfl (lo rfl) w6) yw)))) (λ_ _ _ _=>yU) (λ_ _ _ _=>(XF (xg6 Y) (xb1 rfl) (zh 0) (zh 1) (wK _)))) zm)))) (zU (xQ Zq)) yj)
  (zG (vt (PWD.pt (qr (wh (Vb Y) (Qy rfl) (zh 3) (yn zm) (wK _)) (qr (wh (Vb Y) (zO2 rfl) (zh 6) (vN zm) (wK _)) (qo (wh (xg7 Y) (xb2 rfl) (wO xJ wN (zh 6) zA (λ_ _=>rfl)) (yf Y_thing_key (Y.mono w6) rfl (zc (zh 0) (zc (zh 2) (zc (wO xJ wN (zh 3) (QG zA) (λ_ _=>rfl)) zm)))) (wK _)))))) (zU (xQ Zq)) yj)
  (zU (xQ (yf Y_apart_names (Y.mono w6) rfl (zc (zh 3) (zc (zh 4) zm)))))))))) ?_
 generalize aj:Ws (sIf _ _ _) (xv0 _)=S3;generalize ak:Ws (sIf _ _ _) S3=S2;rintro ds n Q hl ⟨d,hs,o,kd,L,J,rfl,ao,ai,hn,ag,hz,hk,ho,al,aq,ah,W,q⟩;have nh:=vU d hs;have no:=VY o
 have ad:∀(F:EndsD) (a5:Option D),F.rt=Q->S3 F [some (wv d hs),some (qG o),some (yT kd),some (.tup (L.map λt=>.int t.1)),some (.tup (J.map λy=>.tup ((xx y).map D.int))),a5,some (.lst (J.map λy=>jQ (kT d kd hs y)))] n:=λF a5 hF=>by
  subst aj
  have ap:zy1 [.tup (L.map λt=>.int t.1),.tup (J.map λy=>.tup ((xx y).map D.int))] n Q:=⟨L.map λt=>t.1,J.map xx,by rw[zB,zB];rfl,W.nd,ah,q⟩
  simp[nh,no,hF]
  have okN:okE (D.tup (L.map λt=>.int t.1)) 20=true:=qS.mpr λe he=>by
   obtain⟨t,_,rfl⟩:=zi.mp he;exact qu
  refine⟨okN,qS.mpr λe he=>by simp at he,?_⟩
  split
  ·exact ap
  ·rename_i h1
   split
   ·exact ap
   ·rename_i h2
    cases O:L.getLast? with
    |none=>
     rw[List.getLast?_eq_none_iff] at O;subst O;exact absurd (show eqD (.tup []) (.tup [])=true from rfl) h1
    | some t =>
     cases J with
     |nil=>exact absurd rfl h2
     |cons y0 r=>
      have hm:t∈L:=List.mem_of_getLast? O;refine⟨_,qh (j:=0) rfl,.int t.1,zW6 O,?_⟩;refine⟨d,hs,kd,t,rfl,W.accs t hm,ai,ag t (W.accs t hm),hn,hk,?_⟩;refine⟨kT d kd hs y0,ya d kd [t],rfl,rfl,?_⟩
      rw[W.last t O y0 (by simp)]
      simp;exact ap
 have ae:∀(F:EndsD) (a5:Option D),F.rt=Q->S2 F [some (wv d hs),some (qG o),some (yT kd),some (.tup (L.map λt=>.int t.1)),some (.tup (J.map λy=>.tup ((xx y).map D.int))),a5,some (.lst (J.map λy=>jQ (kT d kd hs y)))] n:=λF a5 hF=>by
  subst ak;have r3:=ad F a5 hF
  have ez:WN (J.map λy=>jQ (kT d kd hs y)) (Vp (J.map λy=>jQ (kT d kd hs y)) (some 1) none)=(J.zip (J.drop 1)).map λz=>.tup [jQ (kT d kd hs z.1),jQ (kT d kd hs z.2)]:=by
   by_cases h:1<=J.length
   ·rw [show Vp (J.map λy => jQ (kT d kd hs y)) (some 1) none = (J.drop 1).map λy => jQ (kT d kd hs y) from by rw [show (some 1 : Option Int) = some ((1 : Nat) : Int) from rfl, QX _ 1 (by rw [zg]; exact h), List.map_drop]]
    unfold WN;rw[zipWith_map,yg];rfl
   ·have : J = [] := zX.mp w5
    subst this;rfl
  simp;rw[ez]
  refine ye (λz:Tr × Tr=>.tup [jQ (kT d kd hs z.1),jQ (kT d kd hs z.2)]) (λz=>.bl (ltP (kT d kd hs z.1) (kT d kd hs z.2))) (J.zip (J.drop 1)) (wU (by rw[yK];lia)) (λz hz R hR=>?_) ?_
  ·simp;exact⟨_,_,rfl,rfl,hR⟩
  ·refine ⟨(J.zip (J.drop 1)).map λz => ltP (kT d kd hs z.1) (kT d kd hs z.2), by rw [zB]; rfl, ?_⟩
   have e:((J.zip (J.drop 1)).map λz=>ltP (kT d kd hs z.1) (kT d kd hs z.2)).all id=true:=wm.mpr λb hb=>by
    obtain⟨z,hz,rfl⟩:=zi.mp hb;exact Ke W.up z hz
   rw[e];simp;exact r3
 have aa:∀y∈Xs o,∃us,TreeOf d us y/\(∀t∈us,t∈hs)/\(us.map λt=>t.1).Nodup:=λy hy=>by
  cases o with
  |none=>exact absurd hy (by simp[Xs])
  |some tr=>
   obtain⟨us,a,b,c⟩:=(ho tr rfl).subs (hs:=hs) (λt ht=>ht) hn y hy;exact⟨us,a,λt ht=>(b t ht).1,c⟩
 have ac:((Xs o).map xx).Nodup:=by
  cases o with
  |none=>simp[Xs]
  |some tr=>exact(ho tr rfl).subsN hn
 have am:(Xs o).length<=60:=by
  cases o with
  |none=>simp[Xs]
  |some tr=>
   have:=(ho tr rfl).size;show(kI tr).length<=60;rw[jJ];lia
 simp[startD,nh,no]
 refine⟨o,[],rfl,by simp,λtr e=>by have h1:=(ho tr e).deep;have h2:=(ho tr e).size;exact⟨show WM tr+1<=30 by lia,show qa tr+0<=900 by lia⟩,λes he=>?_⟩
 obtain⟨ps,af,rfl⟩:=he
 refine⟨_,.inl rfl,ye zm5 (λx=>.tup [.tup ((xx x.2).map D.int),vI x.2]) (ps.zip (Xs o)) (wU (by rw[yK];lia)) (λx hx R hR=>?_) ?_⟩
 ·have nx:=vF x.2;obtain⟨ta,tb,et,na,nb⟩:=ZY x.2;unfold zm5;simp[nx];rw[et] at hR ⊢;exact⟨_,0,_,.inr (.inl rfl),rfl,rfl,hR⟩
 rw[zg7 (λy=>D.tup [.tup ((xx y).map D.int),vI y]) af,<- UU xx vI]
 refine⟨_,_,rfl,by rw[zg,zg],ac,?_⟩
 refine ye (λy=>.tup ((xx y).map D.int)) (λy=>jQ (kT d kd hs y)) J (wU w5) (λy hy R hR=>?_) ?_
 ·obtain ⟨us, u1, u2, u3⟩ := aa y (W.sub y hy);simp[nh]
  refine⟨_,_,xx y,vI y,rfl,rfl,ac,by rw[zg,zg],zv9 (W.sub y hy) ac,?_⟩
  refine⟨d,hs,us,y,kd,rfl,hn,w5,u1,u2,u3,hk,?_⟩
  rw[<- u1.keyOf hn u2 u3];exact hR
 ·exact ae _ _ rfl
end
theorem ZX{α:Type}{p q:α->Bool}(J:∀y,p y=true->q y=true){L:α}:∀{l:List α},L∈l->p L=false->q L=true->(l.filter p).length+1<=(l.filter q).length
 |[],h,_,_=>by simp at h
 | z :: l, h, h1, O => by
  have W:(l.filter p).length<=(l.filter q).length:=by
   rw[<- List.countP_eq_length_filter,<- List.countP_eq_length_filter];exact List.countP_mono_left λy _=>J y
  rcases zk.mp h with rfl |h
  ·rw [xh (by rw [h1]; simp), zY O, zI]
   lia
  ·have ih := ZX J h h1 O
   by_cases a:p z=true
   ·rw[zY a,zY (J z a),zI,zI];lia
   ·rw[xh a];have Y:(l.filter q).length<=((z::l).filter q).length:=((List.sublist_cons_self z l).filter _).length_le;lia
structure TurnOk(d:Nat)(hs:List Thing)(o:Option Tr)(b:List Jc)(kd:QqO)(rs:List Thing):Prop where
 d1:1<=d
 d4:d<=4
 good:GoodT d hs 2000
 len:hs.length<=30
 h0:o=none->hs=[]
 h1:∀tr,o=some tr->TreeOf d hs tr
 box:b.length=d
 kind:∀pl,kd=some pl->pl.length=d/\∀x∈pl,zd8 x
 perm:rs.Perm (jP (wZ b) hs)
 up:rs.Pairwise (ltK d kd)
section
variable {d:Nat}{hs rs:List Thing}{o:Option Tr}{b:List Jc}{kd:QqO}{k:Nat}
def TurnOk.rlen(h:TurnOk d hs o b kd rs):rs.length<=30:=by
 have h1:(jP (wZ b) hs).length<=hs.length:=wV ..;have:=h.perm.length_eq;have:=h.len;lia
def TurnOk.more(h:TurnOk d hs o b kd rs):Wp d kd hs rs k (vO (wZ b) o)+(if k<rs.length then 1 else 0)<=Wp d kd hs rs (k+1) (vO (wZ b) o):=by
 have aa:(wZ b).length=d:=by rw[qB];exact h.box
 unfold Wp
 by_cases h1:k<rs.length
 ·rw [if_neg (show ¬ rs.length < k by lia), if_neg (show ¬ rs.length < k + 1 by lia), if_pos (show 0 < k + 1 by lia), if_pos h1]
  have e1:Kr rs (k+1)=rs[k]:=by unfold Kr;rw[Nat.add_sub_cancel,zd h1];rfl
  have hm:rs[k]∈rs:=wl h1;have J:=zt.mp (h.perm.mem_iff.mp hm)
  have L:∃y∈vO (wZ b) o,kT d kd hs y=ya d kd [rs[k]]:=by
   cases ho:o with
   |none=>have:=h.h0 ho;rw[this] at J;simp at J
   |some tr=>
    have tt:=h.h1 tr ho;have Y:=(h.good.each _ J.1).2.2.1;refine⟨_,tt.leafO h.d1 aa J.1 J.2,?_⟩
    exact(TreeOf.one Y).keyOf h.good.nodup (λt ht=>by rw[zF.mp ht];exact J.1) (by simp)
  obtain⟨y0,O,ek⟩:=L;rw[e1]
  by_cases h2:0<k
  ·rw [if_pos h2]
   have e2:Kr rs k=rs[k-1]:=by unfold Kr;rw[zd w5];rfl
   have W:ltP (ya d kd [rs[k-1]]) (ya d kd [rs[k]])=true:=xY.mp h.up (k-1) k w5 h1 w5
   rw[e2]
   exact ZX (p:=λy=>!ltP (ya d kd [rs[k-1]]) (kT d kd hs y)) (q:=λy=>!ltP (ya d kd [rs[k]]) (kT d kd hs y)) (λy hy=>by
    cases c:ltP (ya d kd [rs[k]]) (kT d kd hs y) with
    |false=>rfl
    |true=>
     have hy':(!ltP (ya d kd [rs[k-1]]) (kT d kd hs y))=true:=hy;rw[XT W c] at hy'
     cases hy') O (by show(!ltP (ya d kd [rs[k-1]]) (kT d kd hs y0))=false;rw[ek,W];rfl) (by show(!ltP (ya d kd [rs[k]]) (kT d kd hs y0))=true;rw[ek,jx];rfl)
  ·rw [if_neg h2]
   have:y0∈(vO (wZ b) o).filter λy=>!ltP (ya d kd [rs[k]]) (kT d kd hs y):=zt.mpr ⟨O,by rw[ek,jx];rfl⟩
   have:=vc this;lia
 ·rw [if_neg h1, if_pos (show rs.length < k + 1 by lia)]
  split
  ·lia
  ·split
   ·exact wV ..
   ·lia
def Xr(t:Tr):t∈kI t:=by cases t<;>simp[kI]
theorem Yi{ns:List Int}{bd:List Pair}{lo hi:Tr}:∀{t:Tr},.two ns bd lo hi∈kI t->lo∈kI t/\hi∈kI t
 |.one x bd',h=>by simp[kI] at h
 | .two ns' bd' l r, h => by
  unfold kI at h ⊢
  rcases zk.mp h with h |h
  ·injection h with _ _ h1 J;subst h1 J;exact⟨zj _ (zR _ (Xr _)),zj _ (zp _ (Xr _))⟩
  ·rcases zS.mp h with h | h
   ·have:=Yi h;exact⟨zj _ (zR _ this.1),zj _ (zR _ this.2)⟩
   ·have:=Yi h;exact⟨zj _ (zp _ this.1),zj _ (zp _ this.2)⟩
def Reach.subs{pl:List Pair}{n:Nat}{O q:List Qe}{L:List Thing}{tr:Tr}(h:Reach d kd pl k O n q L)(h0:∀x∈O,x.2∈kI tr):∀x∈q,x.2∈kI tr:=by
 induction h with
 |start=>exact h0
 |leaf _ _ _ _ J=>exact λx hx=>J x (zt.mp hx).1
 | opn _ _ W _ _ _ _ J =>
  intro x hx
  rcases zS.mp hx with hx |hx
  ·exact J x (zt.mp hx).1
  ·have := Yi (J _ W);have hx:=(zt.mp hx).1;simp only[zk,xg,or_false] at hx
   rcases hx with rfl |rfl
   ·exact this.1
   ·exact this.2
theorem Vc:∀{ws:List Qe},(∀x∈ws,TreeOf d x.1 x.2)->((ws.map λx=>xx x.2).flatten).Perm ((vm ws).map λt=>t.1)
 |[],_=>.refl _
 |x::ws,h=>by
  rw[zE,yh,vp,zK]
  exact(h x (by simp)).names.1.append (Vc λy J=>h y (zj _ J))
def TurnOk.waits(h:TurnOk d hs o b kd rs){n':Nat}{q ws:List Qe}{J:List Thing}(r1:Reach d kd (wZ b) k (qz o hs (wZ b) k) n' q J)(r2:q=[]\/J.length=k)(O:ws.Perm q)(r5:ws.Pairwise (LtQ d kd))(he:J=rs.take k) :
  WaitsOk d kd hs o (ws.map λx=>x.2) J/\(rs.length<k->ws=[])/\((J.map λt=>t.1)++((ws.map λx=>x.2).map xx).flatten).length<=30/\ws.length<=60:=by
 have ad:(wZ b).length=d:=by rw[qB];exact h.box
 have hn:=h.good.nodup;have hz:=h.len
 have W:∀t∈J,t∈hs:=λt ht=>by
  rw[he] at ht;exact(zt.mp (h.perm.mem_iff.mp (List.mem_of_mem_take ht))).1
 by_cases h0:k=0
 ·subst h0;obtain⟨_,e2,e3⟩:=r1.zero
  have e4:qz o hs (wZ b) 0=[]:=by cases o with |none=>rfl |some tr=>exact(if_pos rfl:(if 0=0 then [] else vg (wZ b) [(hs,tr)])=[])
  rw[e4] at e2;subst e2 e3;have e5:ws=[]:=O.eq_nil;subst e5
  exact⟨⟨by simp,.nil,by simp,by simp,by simp⟩,λ_=>rfl,by simp,by simp⟩
 ·have ai : DOk d hs kd (wZ b) (qz o hs (wZ b) k) [] := by
   cases o with
   |none=>exact .none (h.h0 rfl)
   |some tr=>
    show DOk d hs kd (wZ b) (if k=0 then [] else vg (wZ b) [(hs,tr)]) []
    rw[if_neg h0];exact .start h.d1 ad (h.h1 tr rfl) hn
  have Y:=r1.dok h.d1 ad ai;obtain⟨P,ok⟩:=r1.pok h.d1 ad hn ai;have L:=Y.ok.perm O;have af:=Y.perm.length_eq;rw[zy] at af;have al:=h.perm.length_eq;have ah:=Vc (d:=d) L.tree
  have ae:((J.map λt=>t.1)++(ws.map λx=>xx x.2).flatten).Nodup:=by
   refine((List.Perm.append_left _ ah).nodup_iff).mpr ?_;rw[xG];refine⟨?_,L.nd,λa ha c hc e=>?_⟩
   ·rw[he];have:(rs.map λt=>t.1).Nodup:=(h.perm.map _).nodup_iff.mpr ((List.filter_sublist.map _).nodup hn);exact((yO k rs).map _).nodup this
   ·obtain⟨t,ht,rfl⟩:=zi.mp ha;obtain⟨u,hu,rfl⟩:=zi.mp hc;have hu':u∈vm q:=(qE O).mem_iff.mp hu;have e':=Vw hn (W t ht) (Y.ok.sub u hu') e;have z:=Y.below t ht u hu';rw[<- e'] at z;unfold ltK at z;rw[jx] at z;cases z
  have ac:((ws.map λx=>x.2).map xx)=ws.map λx=>xx x.2:=by rw[zB];rfl
  have ag:((J.map λt=>t.1)++(ws.map λx=>xx x.2).flatten).length<=(hs.map λt=>t.1).length:=ae.length_le_of_subset λa ha=>by
   rcases zS.mp ha with ha |ha
   ·obtain⟨t,ht,rfl⟩:=zi.mp ha;exact zi.mpr ⟨t,W t ht,rfl⟩
   ·obtain⟨t,ht,rfl⟩:=zi.mp (ah.mem_iff.mp ha);exact zi.mpr ⟨t,L.sub t ht,rfl⟩
  rw[zg] at ag
  refine⟨⟨λy hy=>?_,?_,λt ht y hy=>?_,W,by rw[ac];exact ae⟩,λhk=>?_,by rw[ac];lia,?_⟩
  ·obtain ⟨x, hx, rfl⟩ := zi.mp hy
   cases ho:o with
   | none =>
    subst ho
    have:x∈([]:List Qe):=by
     have hq:∀z∈q,z.1.length=0:=λz hz=>by
      have:=h.h0 rfl;have aa:=Y.ok.sub1 hz;rw[this] at aa
      cases aj:z.1 with
      |nil=>rfl
      |cons t _=>have:=aa.1 t (by rw[aj];simp);simp at this
     have h1:=(Y.ok.tree x (O.mem_iff.mp hx)).ne;have h2:=hq x (O.mem_iff.mp hx);lia
    simp at this
   | some tr =>
    subst ho
    exact r1.subs (tr:=tr) (λz hz=>by
     have hz':z∈(if k=0 then [] else vg (wZ b) [(hs,tr)]):=hz
     rw[if_neg h0] at hz';have:=(zt.mp hz').1;rw[zF.mp this]
     exact Xr tr) x (O.mem_iff.mp hx)
  ·rw[xn];refine List.Pairwise.imp_of_mem (λ{a c} ha hc hh=>?_) r5;rw[Y.ok.keyOf hn (O.mem_iff.mp ha),Y.ok.keyOf hn (O.mem_iff.mp hc)];exact hh
  ·obtain ⟨x, hx, rfl⟩ := zi.mp hy;have hx':=O.mem_iff.mp hx
   have ak:J.length=k:=by
    rcases r2 with z |z
    ·subst z;simp at hx'
    ·exact z
   obtain⟨t',ht',f1,f2⟩:=ok.fin ak w5
   rw[ht] at ht';cases ht';rw[Y.ok.keyOf hn hx'];exact f2 x hx'
  ·have hq : q = [] := by
    rcases r2 with z |z
    ·exact z
    ·rw[he,xt] at z;lia
   rw[hq] at O;exact O.eq_nil
  ·exact(L.heads.length_le_of_subset (l₂:=hs.map λt=>t.1) λa ha=>by
    obtain⟨x,hx,rfl⟩:=zi.mp ha;obtain⟨t,ht,e⟩:=vw (L.tree x hx).ne
    exact zi.mpr ⟨t,L.sub t (vT.mpr ⟨x,hx,ht⟩),e⟩) |> λz=>by
     rw[zg,zg] at z;lia
def TurnOk.drawn(h:TurnOk d hs o b kd rs){R:D->Nat->Prop}(hR:∀J:List Tr,WaitsOk d kd hs o J (rs.take k)->(rs.length<k->J=[])->(((rs.take k).map λt=>t.1)++(J.map xx).flatten).length<=900->J.length<=60->R (.tup [.tup ((rs.take k).map λt=>.int t.1),.int (Wp d kd hs rs k (vO (wZ b) o)),.tup (J.map λy=>.tup ((xx y).map D.int))]) 3):VD [wv d hs,qG o,vz b,yT kd,.int k] 3 R:=by
 have d4:=h.d4;have hz:=h.len
 refine⟨d,hs,o,b,kd,k,rfl,h.d1,w5,h.box,h.good.nodup,w5,λp e=>by have:=(h.kind p e).1;lia,h.h0,h.h1,zU9 h.good h.d4 λpl e=>(h.kind pl e).2,λn' q ws aa Y W r3 O L=>?_⟩
 obtain⟨e1,e2,e3,e4⟩:=zF9 h.d1 (by rw[qB];exact h.box) h.good.nodup h.h0 h.h1 h.perm h.up Y W r3 O L
 obtain⟨w1,w2,w3,w4⟩:=h.waits Y W O L e1
 have ew:zb5 ws=.tup ((ws.map λx=>x.2).map λy=>.tup ((xx y).map D.int)):=by unfold zb5;rw[zB];rfl
 subst e1 e2;rw[ew]
 exact hR _ w1 (λhk=>by rw[w2 hk];rfl) w5 (by rw[zg];exact w4)
end
structure JLaw(ns:List Int)(i:Nat)(rho:Rho)(n:Nat):Prop where
 e:n=3
 r:∃a1 a2 a3 a4 a5 a6 a7 a8 a9 a10 a11:Option D,rho=[some (wG ns),a1,a2,a3,a4,a5,a6,a7,a8,a9,a10,a11]
structure JMn(hd:List (Option D))(d:Nat)(kd:QqO)(hs rs:List Thing)(all:List Tr)(i:Nat)(rho:Rho)(n:Nat):Prop where
 e:n=3
 r:∃c10 c11:Option D,rho=hd++[some (.tup ((rs.take (i-1)).map λt=>.int t.1)),some (.int (Wp d kd hs rs (i-1) all)),c10,c11]
def xh6(l:List Thing):okE (.tup (l.map λt=>.int t.1)) 20=true:=qS.mpr λd hd=>by
 obtain⟨t,_,rfl⟩:=zi.mp hd;exact qu
section
variable {P:Program}{w:World}{K:W.Frag}{mg:QqM}{base:Heap}{f:Addr}{fd:FuncData}
abbrev VL:Stmt:=top 41
abbrev xH1:List Str:=["_law_script","_law_k","_law_left_here","_law_house_here","_law_tree_here","_law_box_here","_law_kind_here","_law_fit","_law_names","_law_looks","_law_many","_law_found"]
def qA:FnScope xH1 ["_law_script"] (xi VL):=⟨rfl,rfl,rfl,x3,rfl,x3,x3⟩
def xh2(T:Blt mg)(F:Fun K "law" "law" VL f fd)(Y_left:Fn P w K mg base "_law_left" 1 2 zi2)(Y_house:Fn P w K mg base "_law_house" 2 1 Jo)(Y_tree:Fn P w K mg base "_law_tree" 35 2 Vz)(Y_box:Fn P w K mg base "_law_box" 3 2 zM8)(Y_kind:Fn P w K mg base "_law_kind" 3 2 zi3)(Y_plain:Fn P w K mg base "_law_plain" 1 1 VA)(Y_ranked:Fn P w K mg base "_law_ranked" 3 3 Vy)(Y_waits_right:Fn P w K mg base "_law_waits_right" 33 5 Xe)(F_drawn:Fn P w K mg base "drawn" 8 5 VD) :
  FnOk P w K mg base CX0 36 f fd ["_law_script"] (UH K):=by
 refine Fun.okLaw F qA 3 (λay A0 outer s H E Y=>(zG (qt (m:=12) PassesOwn.never rfl (Zp T.range (zc (wn (KO rfl) zu2 T.max Vt (zc zA (zc (wn (Wj rfl) JW T.min Vs (zc (wn wL kX T.len ki (zc (zh 0) zm)) (zc zA zm))) zm))) zm)) (zV (i:=1) qA.nd rfl (lo rfl) w6)
  (zA3 (i:=2) rfl qA.nd rfl (lo rfl) Y_left (Y.mono w6) rfl (zc (zh 0) (zc (zh 1) zm)) (λc Z H0=>(zG (yS (i:=3) qA.nd rfl (lo rfl) (yf Y_house (Y.mono w6) rfl (zc (zh 2) zm)))
  (zG (yS (i:=4) qA.nd rfl (lo rfl) (yf Y_tree (Y.mono w6) rfl (zc (zh 2) (zc (zh 3) zm))))
  (zG (VS (i:=5) (j:=6) rfl qA.nd rfl rfl w6 rfl rfl (zc (yf Y_box (Y.mono w6) rfl (zc (zh 2) (zc (zh 3) zm))) (zc (yf Y_kind (Y.mono w6) rfl (zc (zh 2) (zc (zh 3) zm))) zm)))
  (zG (yS (i:=7) qA.nd rfl (lo rfl) (wn wL kX T.len ki (zc (yf Y_ranked (Y.mono w6) rfl (zc (zh 3) (zc (yf Y_plain (Y.mono w6) rfl (zc (zh 5) zm)) (zc (zh 6) zm)))) zm)))
  (zG (jo (m:=12) (yn (zc (yn zm) (zc zA zm))) (vh (k:=2) rfl rfl (xf (zV (i:=8) qA.nd rfl (lo rfl) w6) (xf (zV (i:=9) qA.nd rfl (lo rfl) w6) yw))))
  (zU (qt (m:=12) PassesOwn.never rfl (Zp T.range (zc (kC (zh 7) zA) zm)) (zV (i:=10) qA.nd rfl (lo rfl) w6)
  (zG (yS (i:=11) qA.nd rfl (lo rfl) (yf F_drawn (Y.mono w6) rfl (zc (zh 3) (zc (zh 4) (zc (zh 5) (zc (zh 6) (zc (zh 10) zm)))))))
  (zG (vt (PWD.pt (WY (wh (Vb Y) (Qy rfl) (zJ6 rfl (wO xJ wN (zh 11) zA (λ_ _=>rfl)) ZN (ZM (wn wL kX T.len ki (zc (zh 8) zm)))) (zh 8) (wK _)) (Yt (wh zR0 zO1 (wO xJ wN (zh 11) zA (λ_ _=>rfl)) (kC (zh 9) (yV ZZ Us T.int za8 (zc (XF XH Xy (wn wL kX T.len ki (zc (wO xJ wN (zh 11) zA (λ_ _=>rfl)) zm)) (wn wL kX T.len ki (zc (zh 8) zm)) (wK _)) zm))) (wK _))))) (zU (xQ Zq)) yj)
  (zG (jo (m:=12) (zJ6 rfl (zh 11) ZN (ZM zA)) (vh (k:=2) rfl rfl (xf (zV (i:=8) qA.nd rfl (lo rfl) w6) (xf (zV (i:=9) qA.nd rfl (lo rfl) w6) yw))))
  (zG (vt (PWD.pt (WY (wh (Vb Y) (Qy rfl) (wn wL kX T.len ki (zc (zh 8) zm)) (wn (Wj rfl) JW T.min Vs (zc (zh 10) (zc (zh 7) zm))) (wK _)) (Yt (PWD.pt (qr (wh XH Xy (zh 10) (zh 7) (wK _)) (qo (wh (Vb Y) (Qy rfl) (wO xJ wN (zh 11) zA (λ_ _=>rfl)) (yn zm) (wK _)))))))) (zU (xQ Zq)) yj)
  (zU (vt (JB (Zm (yf Y_waits_right (Y.mono w6) rfl (zc (zh 3) (zc (zh 4) (zc (zh 6) (zc (zh 8) (zc (wO xJ wN (zh 11) zA (λ_ _=>rfl)) zm)))))))) (zU (xQ Zq)) yj))))))))))))))))
  (zU (xQ Zq)))) ?_
 generalize hW:sIf (xG8 _) _ _=WX;generalize hC:Ws (sIf _ _ _) WX=CX;generalize hU:Ws (xu8 _ _) CX=UX;generalize hM:Ws (zc4 11 _) _=MX;generalize hX:Ws (zc4 3 _) _=X;intro ns au;have af:we (wG ns)=true:=id rfl
 have ae:∀(F:EndsD) (d:Nat) (hs J:List Thing) (o:Option Tr) (b:List Jc) (kd:QqO) (i:Nat) (a7 ad:Option D),a7=some (.int J.length)->TurnOk d hs o b kd J ->
   (∀aa O:Option D,F.nx [some (wG ns),none,some .st,some (wv d hs),some (qG o),some (vz b),some (yT kd),a7,some (.tup ((J.take i).map λt=>.int t.1)),some (.int (Wp d kd hs J i (vO (wZ b) o))),aa,O] 3) ->
   MX F [some (wG ns),none,some .st,some (wv d hs),some (qG o),some (vz b),some (yT kd),a7,some (.tup ((J.take (i-1)).map λt=>.int t.1)),some (.int (Wp d kd hs J (i-1) (vO (wZ b) o))),some (.int i),ad] 3:=λF d hs J o b kd i a7 ad aw ht hF=>by
  subst hM;subst aw;have nh:=vU d hs;have no:=VY o;have nb:we (vz b)=true:=rfl;have am:=ht.rlen;have hz:=ht.len;have d4:=ht.d4;simp only[yQ] at hF ⊢;simp[nh,no,nb];refine ht.drawn λL W w2 w3 w4=>?_;simp only[yQ]
  have wr:Xe [wv d hs,qG o,yT kd,.tup ((J.map λt=>.int t.1).take i),.tup (L.map λy=>.tup ((xx y).map D.int))] 3 (λd1 n1=>isB d1 λb1=>if b1=true then F.nx [some (wG ns),none,some .st,some (wv d hs),some (qG o),some (vz b),some (yT kd),some (.int J.length),some (.tup ((J.map λt=>.int t.1).take i)),some (.int (Wp d kd hs J i (vO (wZ b) o))),some (.int i),some (.tup [.tup ((J.map λt=>.int t.1).take i),.int (Wp d kd hs J i (vO (wZ b) o)),.tup (L.map λy=>.tup ((xx y).map D.int))])] n1 else F.rt (.bl false) n1):=
   ⟨d,hs,o,kd,J.take i,L,by rw[yQ],ht.d1,w5,ht.good.nodup,λt h=>(ht.good.each t h).2.2.1,hz,λp e=>by have:=(ht.kind p e).1;lia,ht.h1,w4,by rw[xt];lia,w3,W,by simp;exact hF _ _⟩
  have ag:Wp d kd hs J (i-1) (vO (wZ b) o)+(if (J.take (i-1)).length<(J.take i).length then 1 else 0)<=Wp d kd hs J i (vO (wZ b) o):=by
   cases i with
   |zero=>simp
   | succ j =>
    have:=ht.more (k:=j);rw[Nat.add_sub_cancel,xt,xt]
    split
    ·rename_i h
     rw[if_pos w5] at this
     exact this
    ·lia
  have hl:(J.map λt=>D.int t.1).length=J.length:=zg ..
  have okL:∀m,okE (D.tup ((J.map λt=>D.int t.1).take m)) 20=true:=λm=>by rw[<- yQ];exact xh6 _
  have ec:Vp ((J.map λt=>D.int t.1).take i) none (some ((min (i-1) J.length:Nat):Int))=(J.map λt=>D.int t.1).take (i-1):=by
   rw[zt8 _ _ (by rw[xt,hl];lia),List.take_take,List.take_eq_take_iff,hl]
   lia
  simp;rw[ec];refine⟨okL _,okL _,?_⟩;rw[if_pos (Uo (okL _))];rw[xt,xt] at ag
  rw[if_neg (by
   intro z
   have e:((if min (i-1) J.length<min i J.length then 1 else 0:Nat):Int)=if min (i-1) J.length<min i J.length then 1 else 0:=by split<;>rfl
   rw[<- e] at z
   lia)]
  have aj:CX F [some (wG ns),none,some .st,some (wv d hs),some (qG o),some (vz b),some (yT kd),some (.int J.length),some (.tup ((J.map λt=>.int t.1).take i)),some (.int (Wp d kd hs J i (vO (wZ b) o))),some (.int i),some (.tup [.tup ((J.map λt=>.int t.1).take i),.int (Wp d kd hs J i (vO (wZ b) o)),.tup (L.map λy=>.tup ((xx y).map D.int))])] 3:=by
   subst hC;subst hW;simp[nh,no]
   have ak:(if J.length<i then(J.length:Int) else(i:Int))=((min i J.length:Nat):Int):=by split<;>lia
   rw[ak];refine⟨qu,qu,?_⟩;rw[if_pos (Uo (qu (k:=20)))]
   have okT:okE (D.tup (L.map λy=>.tup ((xx y).map D.int))) 20=true:=qS.mpr λe he=>by
    obtain⟨y,_,rfl⟩:=zi.mp he;exact zD1 _ 18
   split
   ·rename_i hk;have e0:=w2 hk;subst e0
    refine⟨okT,qS.mpr λe he=>by simp at he,?_⟩
    rw[if_pos (show eqD (D.tup (List.map (λy=>D.tup (List.map D.int (xx y))) [])) (D.tup [])=true from rfl)];exact wr
   ·exact wr
  subst hU;simp
  have ax:Vp [D.tup ((J.map λt=>D.int t.1).take i),.int (Wp d kd hs J i (vO (wZ b) o)),.tup (L.map λy=>.tup ((xx y).map D.int))] none (some 2)=[D.tup ((J.map λt=>D.int t.1).take i),.int (Wp d kd hs J i (vO (wZ b) o))]:=zt8 _ 2 (by simp)
  rw[ax];simp;exact aj
 have ai:∀F:EndsD,(∀rho:Rho,rho.length=12->rho[0]?=some (some (wG ns))->F.nx rho 3)->X F [some (wG ns),none,some .st,none,none,none,none,none,none,none,none,none] 3:=λF hF=>by
  subst hX;simp;refine⟨rfl,rfl,λd hs ah ac hg hz=>?_⟩;have nh:=vU d hs;simp[nh]
  have TT:∀R:D->Nat->Prop,(∀o:Option Tr,(o=none->hs=[])->(∀tr,o=some tr->TreeOf d hs tr)->R (qG o) 3)->Vz [.st,wv d hs] 3 R:=λR hR=>⟨d,hs,rfl,rfl,ah,ac,hg.u,w5,λh=>hR none (λ_=>h) λtr e=>(by cases e),λh tr g=>hR (some tr) (λe=>by cases e) λtr' e=>by cases e;exact g⟩
  refine TT _ λo ar aq=>?_;have no:=VY o;refine⟨d,hs,rfl,rfl,ac,hg,hz,λb hb hn=>?_⟩;refine⟨d,hs,rfl,rfl,ac,hg,hz,λkd hk=>?_⟩;have nb:we (vz b)=true:=rfl
  have ao:(wZ b).length=d:=by rw[qB];exact hb
  have av:∀p,kd=some p->p.length<=1000:=λp e=>by have:=(hk p e).1;lia
  simp[nb,nh]
  refine⟨b,rfl,w5,w5,?_⟩
  refine⟨d,hs,wZ b,kd,rfl,ah,w5,ao,λt ht=>(hg.each t ht).2.2.1,hg.nodup,w5,av,λJ p1 p2=>?_⟩
  have ht:TurnOk d hs o b kd J:=⟨ah,ac,hg,hz,ar,aq,hb,hk,p1,p2⟩;have am:=ht.rlen;simp
  refine⟨w5,w5,JMn [some (wG ns),none,some .st,some (wv d hs),some (qG o),some (vz b),some (yT kd),some (.int J.length)] d kd hs J (vO (wZ b) o),⟨rfl,none,none,?_⟩,?_,?_⟩
  ·have e0 : Wp d kd hs J 0 (vO (wZ b) o) = 0 := by unfold Wp; rw [if_neg w5, if_neg w5]
   show _=[some (wG ns),none,some .st,some (wv d hs),some (qG o),some (vz b),some (yT kd),some (.int J.length),some (.tup []),some (.int (Wp d kd hs J 0 (vO (wZ b) o))),none,none];rw[e0];rfl
  ·rintro i dd rho n' e4 ⟨rfl, aa, O, rfl⟩
   have e5:dd=.int (i:Int):=by
    have hk:((J.length:Int)+3).toNat=J.length+3:=w5
    rw[hk] at e4;exact(WT e4).2
   subst e5;simp only[List.cons_append,wf];simp;have:=ae (F:={ nx:=JMn [some (wG ns),none,some .st,some (wv d hs),some (qG o),some (vz b),some (yT kd),some (.int J.length)] d kd hs J (vO (wZ b) o) (i+1),rt:=F.rt,bk:=F.nx,ct:=JMn [some (wG ns),none,some .st,some (wv d hs),some (qG o),some (vz b),some (yT kd),some (.int J.length)] d kd hs J (vO (wZ b) o) (i+1) }) d hs J o b kd i _ O rfl ht λaa O=>⟨rfl,aa,O,rfl⟩;simp only[yQ] at this;exact this
  ·rintro rho n' ⟨rfl,aa,O,rfl⟩;exact hF _ rfl rfl
 clear ae;simp[startD,af]
 refine⟨w5,w5,JLaw ns,⟨rfl,_,_,_,_,_,_,_,_,_,_,_,rfl⟩,?_,?_⟩
 ·rintro i d' rho m e ⟨rfl, a1, a2, a3, a4, a5, a6, a7, a8, a9, a10, ad, rfl⟩;obtain⟨hi,rfl⟩:=WT e;simp
  refine zo2 ns (by simp) w6 rfl (i:Int) (by simp[af]) (λP P' h=>by simp[af];exact h _ _) ?_
  refine⟨ns,_,rfl,au,w5,w5,λx y hx hy al=>⟨[x,y,0],rfl,rfl,by simp[hx,hy],by simp[al],?_⟩⟩
  simp[Vd,kf]
  exact ai _ λrho h1 h2=>⟨rfl,h1,h2,rfl,by simp⟩
 ·rintro rho m ⟨rfl,a1,a2,a3,a4,a5,a6,a7,a8,a9,a10,ad,rfl⟩;simp
end
end K42
set_option maxHeartbeats 1000000
namespace K42
def vb{α:Type}{us:List α}{c:Nat}(h:us.length=c+1):∃a r,us=a::r/\r.length=c:=by
 cases us with
 |nil=>cases h
 |cons a r=>exact⟨a,r,rfl,Nat.succ.inj h⟩
def zw8{fd:FuncData}{ps:List Str}{us:QqW}(h:us.length=1)(q:∀J,bindArgs fd ⟨[J],[]⟩=pure (ps.zip [J])):bindArgs fd ⟨us,[]⟩=pure (ps.zip us):=by
 obtain⟨J,L,rfl,h0⟩:=vb h;obtain rfl:=zX.mp h0;exact q J
def Ji{fd:FuncData}{ps:List Str}{us:QqW}(h:us.length=2)(q:∀L J,bindArgs fd ⟨[L,J],[]⟩=pure (ps.zip [L,J])):bindArgs fd ⟨us,[]⟩=pure (ps.zip us):=by
 obtain⟨L,W,rfl,h0⟩:=vb h;obtain⟨J,O,rfl,h1⟩:=vb h0;obtain rfl:=zX.mp h1;exact q L J
def zY2{fd:FuncData}{ps:List Str}{us:QqW}(h:us.length=3)(q:∀O L J,bindArgs fd ⟨[O,L,J],[]⟩=pure (ps.zip [O,L,J])):bindArgs fd ⟨us,[]⟩=pure (ps.zip us):=by
 obtain⟨O,u0,rfl,h0⟩:=vb h;obtain⟨L,u1,rfl,h1⟩:=vb h0;obtain⟨J,Y,rfl,W⟩:=vb h1;obtain rfl:=zX.mp W;exact q O L J
def xt6{fd:FuncData}{ps:List Str}{us:QqW}(h:us.length=4)(q:∀W O L J,bindArgs fd ⟨[W,O,L,J],[]⟩=pure (ps.zip [W,O,L,J])):bindArgs fd ⟨us,[]⟩=pure (ps.zip us):=by
 obtain⟨W,u0,rfl,h0⟩:=vb h;obtain⟨O,u1,rfl,h1⟩:=vb h0;obtain⟨L,u2,rfl,h2⟩:=vb h1;obtain⟨J,u3,rfl,Y⟩:=vb h2;obtain rfl:=zX.mp Y;exact q W O L J
def xH2{fd:FuncData}{ps:List Str}{us:QqW}(h:us.length=5)(q:∀Y W O L J,bindArgs fd ⟨[Y,W,O,L,J],[]⟩=pure (ps.zip [Y,W,O,L,J])):bindArgs fd ⟨us,[]⟩=pure (ps.zip us):=by
 obtain⟨Y,u0,rfl,h0⟩:=vb h;obtain⟨W,u1,rfl,h1⟩:=vb h0;obtain⟨O,u2,rfl,h2⟩:=vb h1;obtain⟨L,u3,rfl,h3⟩:=vb h2;obtain⟨J,u4,rfl,h4⟩:=vb h3;obtain rfl:=zX.mp h4;exact q Y W O L J
def xP1{fd:FuncData}{ps:List Str}{us:QqW}(h:us.length=6)(q:∀x0 Y W O L J,bindArgs fd ⟨[x0,Y,W,O,L,J],[]⟩=pure (ps.zip [x0,Y,W,O,L,J])):bindArgs fd ⟨us,[]⟩=pure (ps.zip us):=by
 obtain⟨x0,u0,rfl,h0⟩:=vb h;obtain⟨Y,u1,rfl,h1⟩:=vb h0;obtain⟨W,u2,rfl,h2⟩:=vb h1;obtain⟨O,u3,rfl,h3⟩:=vb h2;obtain⟨L,u4,rfl,h4⟩:=vb h3;obtain⟨J,u5,rfl,h5⟩:=vb h4;obtain rfl:=zX.mp h5;exact q x0 Y W O L J
structure Dn(K:W.Frag)(x:Str)(st:Stmt):Prop where
 ex:∃(f:Addr) (fd:FuncData),W.nsIn K mainGlobals x=some (some (.ref f))/\Fun K x x st f fd
def dn{K:W.Frag}{x:Str}{st:Stmt}{f:Addr}{oc:Value}{od an:QqE}{L:Array (Option Value)}{kV O Y J ct:Value}(a:W.nsIn K mainGlobals x=some (some (.ref f)))(l:K.lookup f=some ⟨oc,od,.func (W.fnOf x x (qg st) (vP st) (xi st) .none kV O Y an J ct),L⟩)(c:W.codeIn K J x=true)(k:W.keepIn K (.ref f)=true):Dn K x st:=⟨f,_,a,zr8 (st:=st) l c k⟩
def Dn.fn{P:Program}{w:World}{K:W.Frag}{mg:QqM}{base h:Heap}{x:Str}{st:Stmt}{O k:Nat}{t:TF}{ps:List Str}(d:Dn K x st)(X:K.In h)(G:h.Ns mainGlobals mg)(b:∀(kV J Y:Value) (an:QqE) (L ct:Value) (us:QqW),us.length=ps.length->bindArgs (W.fnOf x x (qg st) (vP st) (xi st) .none kV J Y an L ct) ⟨us,[]⟩=pure (ps.zip us))(ok:∀(f:Addr) (fd:FuncData),Fun K x x st f fd->mg x=some (.ref f)->W.keepIn K (.ref f)=true->Binds K fd ps []->FnOk P w K mg base CX0 O f fd ps (spD K k t)):Fn P w K mg base x O k t:=by
 obtain⟨f,fd,a,F⟩:=d.ex;have m:=W.mg_of X G a;have B:=F.binds b;exact⟨f,fd,ps,ok f fd F m F.kp B,m,F.kp,B⟩
def Dn.fnT{P:Program}{w:World}{K:W.Frag}{mg:QqM}{base h:Heap}{x:Str}{st:Stmt}{O k:Nat}{t:TFT}{ps:List Str}(d:Dn K x st)(X:K.In h)(G:h.Ns mainGlobals mg)(b:∀(kV J Y:Value) (an:QqE) (L ct:Value) (us:QqW),us.length=ps.length->bindArgs (W.fnOf x x (qg st) (vP st) (xi st) .none kV J Y an L ct) ⟨us,[]⟩=pure (ps.zip us))(ok:∀(f:Addr) (fd:FuncData),Fun K x x st f fd->FnOk P w K mg base CX0 O f fd ps (spT K k t)):FnT P w K mg base x O k t:=by
 obtain⟨f,fd,a,F⟩:=d.ex;exact⟨⟨f,fd,ps,ok f fd F,W.mg_of X G a,F.kp,F.binds b⟩⟩
def all_mk{l:W.OpenLaw}{w:World}{K:W.Frag}{h:Heap}{mg:QqM}{fa aj ai:Addr}(X:K.In h)(G:h.Ns mainGlobals mg)(aF:mg "law" = some (.ref fa))
  {aw aC av ah:QqE}{am al:Array (Option Value)}{ay az aA ao O aB ax ad ae ac L af:Value}
  (d0:Dn K "least_of" Ym)
  (d1:Dn K "greatest_of" qL)
  (d2:Dn K "pair_of" Xw)
  (d3:Dn K "is_crossed" jh)
  (d4:Dn K "settled" Xv)
  (d5:Dn K "plain_box" Ze)
  (d6:Dn K "greater_of" ji)
  (d7:Dn K "lesser_of" Zg)
  (d8:Dn K "common_pair" qM)
  (d9:Dn K "common" VN)
  (d10:Dn K "lie_apart" Zf)
  (d11:Dn K "things_by_name" kK)
  (d12:Dn K "steps_to" Yl)
  (d13:Dn K "key_by" VM)
  (d14:Dn K "keyed" Jw)
  (d15:Dn K "drawn_past" jj)
  (d16:Dn K "drawn" Jx)
  (d17:Dn K "_law_left" Zj)
  (d18:Dn K "_law_pick" Zi)
  (d19:Dn K "_law_house" jm)
  (d20:Dn K "_law_number" qO)
  (d21:Dn K "_law_box" Yo)
  (d22:Dn K "_law_kind" Zk)
  (d23:Dn K "_law_bounds" qQ)
  (a24:W.nsIn K mainGlobals "_law_grown" = some (some (.ref aj))) (l24:K.lookup aj=some ⟨ay,aw,.func (W.fnOf "_law_grown" "_law_grown" (qg vY) (vP vY) (xi vY) .none az aA ao aC O aB),am⟩) (c24:W.codeIn K O "_law_grown" = true) (k24:W.keepIn K (.ref aj)=true)
  (d25:Dn K "_law_tree" Zh)
  (d26:Dn K "_law_plain" jl)
  (d27:Dn K "_law_inside" qP)
  (d28:Dn K "_law_fits" Zl)
  (d29:Dn K "_law_steps" jk)
  (d30:Dn K "_law_key" Yn)
  (d31:Dn K "_law_all" Yp)
  (d32:Dn K "_law_ranked" qN)
  (d33:Dn K "_law_thing_key" kM)
  (d34:Dn K "_law_apart_names" ke)
  (d35:Dn K "_law_waits_right" kc)
  (a36:W.nsIn K mainGlobals "law" = some (some (.ref ai))) (l36:K.lookup ai=some ⟨ax,av,.func (W.fnOf "law" "law" (qg VL) (vP VL) (xi VL) .none ad ae ac ah L af),al⟩) (c36:W.codeIn K L "law" = true) (k36:W.keepIn K (.ref ai)=true)
  {ag aD:Addr}{au:Value}{ar:QqE}{aq:Array (Option Value)}{Y:Array Value} (le24:O=.ref ag) (lk24:K.lookup ag=some ⟨au,ar,.fields Y,aq⟩) (lp24:Y[11]?=some (.ref aD))
  (zn0:W.nsIn K mainGlobals "set" = some none)
  {e0:Addr}{aJ:QqE}{aK:Nat}{aH aG:Tok}{aI:Array (Option Value)} (yy0:W.nsIn K mainGlobals "EMPTY_PAIR" = some (some (.ref e0))) (hh0:K.lookup e0=some ⟨.type "tuple",aJ,.seq #[.int 1 aH,.int 0 aG] aK,aI⟩)
  (z0:W.nsIn K mainGlobals "len" = some none) (z1:W.nsIn K mainGlobals "abs" = some none) (z2:W.nsIn K mainGlobals "all" = some none) (z3:W.nsIn K mainGlobals "any" = some none) (z4:W.nsIn K mainGlobals "isinstance" = some none) (z5:W.nsIn K mainGlobals "int" = some none) (z6:W.nsIn K mainGlobals "bool" = some none) (z7:W.nsIn K mainGlobals "str" = some none) (z8:W.nsIn K mainGlobals "tuple" = some none) (z9:W.nsIn K mainGlobals "list" = some none) (z10:W.nsIn K mainGlobals "range" = some none) (z11:W.nsIn K mainGlobals "zip" = some none) (z12:W.nsIn K mainGlobals "enumerate" = some none) (z13:W.nsIn K mainGlobals "max" = some none) (z14:W.nsIn K mainGlobals "min" = some none) (z15:W.nsIn K mainGlobals "sorted" = some none) (z16:W.nsIn K mainGlobals "sum" = some none) (z17:W.nsIn K mainGlobals "repr" = some none) (z18:W.nsIn K mainGlobals "dict" = some none) :
  ∃fd:FuncData,(∀(s:Shared) (v:Value),BindsTo s fd ⟨[v],[]⟩ [("_law_script",v)])/\∀base:Heap,K.In base->base.Ns mainGlobals mg->base.NoDigits->Jh K mg base->FnOk l.prog w K mg base CX0 36 fa fd ["_law_script"] (UH K):=by
 have aa:=zY8 a24 l24 le24 lk24 lp24;have e:=aF.symm.trans (W.mg_of X G a36);cases e;have T:Blt mg:=⟨W.mg_none_of X G z0,W.mg_none_of X G z1,W.mg_none_of X G z2,W.mg_none_of X G z3,W.mg_none_of X G z4,W.mg_none_of X G z5,W.mg_none_of X G z6,W.mg_none_of X G z7,W.mg_none_of X G z8,W.mg_none_of X G z9,W.mg_none_of X G z10,W.mg_none_of X G z11,W.mg_none_of X G z12,W.mg_none_of X G z13,W.mg_none_of X G z14,W.mg_none_of X G z15⟩;have T2:Blt2 mg:=⟨W.mg_none_of X G z16⟩;have T3:Blt3 mg:=⟨W.mg_none_of X G z17,W.mg_none_of X G z18⟩;have N_set:=W.mg_none_of X G zn0;have G_EMPTY_PAIR:xo2 K mg "EMPTY_PAIR" (.tup [.int 1,.int 0]):=zr7 (W.mg_of X G yy0) hh0;have ak:=zr8 (st:=vY) l24 c24 k24;have aL:=zr8 (st:=VL) l36 c36 k36;refine⟨W.fnOf "law" "law" (qg VL) (vP VL) (xi VL) .none ad ae ac ah L af,λs v=>.of_eq rfl,λbase _ _ ND LA=>?_⟩
 have aE:=LA "_law_grown" (by simp[qv]) _ _ aa
 have F_least_of:Fn l.prog w K mg base "least_of" 1 1 Yh:=d0.fn X G (ps:=["low"]) (λ_ _ _ _ _ _ us J=>zw8 J λ_=>rfl) λ_ _ U M N B=>JE U;have F_greatest_of:Fn l.prog w K mg base "greatest_of" 1 1 qH:=d1.fn X G (ps:=["high"]) (λ_ _ _ _ _ _ us J=>zw8 J λ_=>rfl) λ_ _ U M N B=>Ww U;have F_pair_of:Fn l.prog w K mg base "pair_of" 2 1 Xo:=d2.fn X G (ps:=["span"]) (λ_ _ _ _ _ _ us J=>zw8 J λ_=>rfl) λ_ _ U M N B=>zd4 U F_least_of F_greatest_of;have F_is_crossed:Fn l.prog w K mg base "is_crossed" 1 1 qk:=d3.fn X G (ps:=["pair"]) (λ_ _ _ _ _ _ us J=>zw8 J λ_=>rfl) λ_ _ U M N B=>VV U;have F_settled:Fn l.prog w K mg base "settled" 2 1 ZH:=d4.fn X G (ps:=["pairs"]) (λ_ _ _ _ _ _ us J=>zw8 J λ_=>rfl) λ_ _ U M N B=>zd3 T G_EMPTY_PAIR U F_is_crossed;have F_plain_box:Fn l.prog w K mg base "plain_box" 3 1 jX:=d5.fn X G (ps:=["box"]) (λ_ _ _ _ _ _ us J=>zw8 J λ_=>rfl) λ_ _ U M N B=>UW U F_pair_of F_settled;have F_greater_of:Fn l.prog w K mg base "greater_of" 1 2 jf:=d6.fn X G (ps:=q0) (λ_ _ _ _ _ _ us J=>Ji J λ_ _=>rfl) λ_ _ U M N B=>VW T U;have F_lesser_of:Fn l.prog w K mg base "lesser_of" 1 2 jZ:=d7.fn X G (ps:=q0) (λ_ _ _ _ _ _ us J=>Ji J λ_ _=>rfl) λ_ _ U M N B=>UZ T U;have F_common_pair:Fn l.prog w K mg base "common_pair" 2 2 qI:=d8.fn X G (ps:=q0) (λ_ _ _ _ _ _ us J=>Ji J λ_ _=>rfl) λ_ _ U M N B=>Wx U F_greater_of F_lesser_of;have F_common:Fn l.prog w K mg base "common" 3 2 VE:=d9.fn X G (ps:=q0) (λ_ _ _ _ _ _ us J=>Ji J λ_ _=>rfl) λ_ _ U M N B=>zn5 T U F_settled F_common_pair;have F_lie_apart:Fn l.prog w K mg base "lie_apart" 4 2 jY:=d10.fn X G (ps:=q0) (λ_ _ _ _ _ _ us J=>Ji J λ_ _=>rfl) λ_ _ U M N B=>UY U F_is_crossed F_common;have F_things_by_name:Fn l.prog w K mg base "things_by_name" 1 1 zM6:=d11.fn X G (ps:=["house"]) (λ_ _ _ _ _ _ us J=>zw8 J λ_=>rfl) λ_ _ U M N B=>xh0 T U;have F_steps_to:Fn l.prog w K mg base "steps_to" 1 2 Yg:=d12.fn X G (ps:=["place","limits"]) (λ_ _ _ _ _ _ us J=>Ji J λ_ _=>rfl) λ_ _ U M N B=>JD T T2 U;have F_key_by:Fn l.prog w K mg base "key_by" 2 3 VC:=d13.fn X G (ps:=["by_name","tree","kind"]) (λ_ _ _ _ _ _ us J=>zY2 J λ_ _ _=>rfl) λ_ _ U M N B=>zn4 T U F_steps_to;have F_keyed:FnT l.prog w K mg base "keyed" 6 4 VB:=d14.fnT X G (ps:=q4) (λ_ _ _ _ _ _ us J=>xt6 J λ_ _ _ _=>rfl) λ_ _ U=>zC6 T U F_lie_apart F_key_by;have F_drawn_past:Fn l.prog w K mg base "drawn_past" 7 6 Jp:=d15.fn X G (ps:=q10) (λ_ _ _ _ _ _ us J=>xP1 J λ_ _ _ _ _ _=>rfl) λ_ _ U M N B=>zD0 T U F_things_by_name F_plain_box F_keyed;have F_drawn:Fn l.prog w K mg base "drawn" 8 5 VD:=d16.fn X G (ps:=q5) (λ_ _ _ _ _ _ us J=>xH2 J λ_ _ _ _ _=>rfl) λ_ _ U M N B=>zC9 U F_drawn_past;have Y_left:Fn l.prog w K mg base "_law_left" 1 2 zi2:=d17.fn X G (ps:=["_law_script","_law_k"]) (λ_ _ _ _ _ _ us J=>Ji J λ_ _=>rfl) λ_ _ U M N B=>zR8 T U;have Y_pick:Fn l.prog w K mg base "_law_pick" 1 2 YL:=d18.fn X G (ps:=["_law_left_here","_law_many"]) (λ_ _ _ _ _ _ us J=>Ji J λ_ _=>rfl) λ_ _ U M N B=>zR6 U;have Y_house:Fn l.prog w K mg base "_law_house" 2 1 Jo:=d19.fn X G (ps:=["_law_left_here"]) (λ_ _ _ _ _ _ us J=>zw8 J λ_=>rfl) λ_ _ U M N B=>zC7 T U Y_pick;have Y_number:Fn l.prog w K mg base "_law_number" 2 3 ZI:=d20.fn X G (ps:=q9) (λ_ _ _ _ _ _ us J=>zY2 J λ_ _ _=>rfl) λ_ _ U M N B=>zn1 T U Y_pick;have Y_box:Fn l.prog w K mg base "_law_box" 3 2 zM8:=d21.fn X G (ps:=q1) (λ_ _ _ _ _ _ us J=>Ji J λ_ _=>rfl) λ_ _ U M N B=>xh3 T U Y_pick Y_number;have Y_kind:Fn l.prog w K mg base "_law_kind" 3 2 zi3:=d22.fn X G (ps:=q1) (λ_ _ _ _ _ _ us J=>Ji J λ_ _=>rfl) λ_ _ U M N B=>zR9 T U Y_pick Y_number;have Y_bounds:Fn l.prog w K mg base "_law_bounds" 1 1 zM7:=d23.fn X G (ps:=["_law_things"]) (λ_ _ _ _ _ _ us J=>zw8 J λ_=>rfl) λ_ _ U M N B=>xh1 T U;have Y_grown:Fn l.prog w K mg base "_law_grown" 34 4 (Xq 30):=⟨_,_,_,(zC8 T ak a24 aa aE (W.mg_of X G a24) k24 (ak.binds (ps:=q2) λ_ _ _ _ _ _ us J=>xt6 J λ_ _ _ _=>rfl) Y_pick Y_bounds 30),W.mg_of X G a24,k24,(ak.binds (ps:=q2) λ_ _ _ _ _ _ us J=>xt6 J λ_ _ _ _=>rfl)⟩;have Y_tree:Fn l.prog w K mg base "_law_tree" 35 2 Vz:=d25.fn X G (ps:=q1) (λ_ _ _ _ _ _ us J=>Ji J λ_ _=>rfl) λ_ _ U M N B=>zC4 T U Y_grown;have Y_plain:Fn l.prog w K mg base "_law_plain" 1 1 VA:=d26.fn X G (ps:=["_law_box_here"]) (λ_ _ _ _ _ _ us J=>zw8 J λ_=>rfl) λ_ _ U M N B=>zn3 T U;have Y_inside:Fn l.prog w K mg base "_law_inside" 1 2 Xp:=d27.fn X G (ps:=["_law_edges","_law_plain_here"]) (λ_ _ _ _ _ _ us J=>Ji J λ_ _=>rfl) λ_ _ U M N B=>zd5 T U;have Y_fits:Fn l.prog w K mg base "_law_fits" 2 2 Jn:=d28.fn X G (ps:=q6) (λ_ _ _ _ _ _ us J=>Ji J λ_ _=>rfl) λ_ _ U M N B=>zC5 U Y_inside;have Y_steps:Fn l.prog w K mg base "_law_steps" 1 2 ZJ:=d29.fn X G (ps:=q7) (λ_ _ _ _ _ _ us J=>Ji J λ_ _=>rfl) λ_ _ U M N B=>zn2 T T2 U;have Y_key:Fn l.prog w K mg base "_law_key" 2 3 zi1:=d30.fn X G (ps:=q8) (λ_ _ _ _ _ _ us J=>zY2 J λ_ _ _=>rfl) λ_ _ U M N B=>zR7 T U Y_steps;have Y_all:Fn l.prog w K mg base "_law_all" 32 2 (zi4 31):=d31.fn X G (ps:=q3) (λ_ _ _ _ _ _ us J=>Ji J λ_ _=>rfl) λ_ _ U M N B=>(xh5 U M N B 31);have Y_ranked:Fn l.prog w K mg base "_law_ranked" 3 3 Vy:=d32.fn X G (ps:=q11) (λ_ _ _ _ _ _ us J=>zY2 J λ_ _ _=>rfl) λ_ _ U M N B=>zm9 T U Y_fits Y_steps;have Y_thing_key:Fn l.prog w K mg base "_law_thing_key" 2 3 zi0:=d33.fn X G (ps:=q12) (λ_ _ _ _ _ _ us J=>zY2 J λ_ _ _=>rfl) λ_ _ U M N B=>zR5 T U Y_steps;have Y_apart_names:Fn l.prog w K mg base "_law_apart_names" 1 2 zy1:=d34.fn X G (ps:=["_law_names","_law_waiting"]) (λ_ _ _ _ _ _ us J=>Ji J λ_ _=>rfl) λ_ _ U M N B=>xh4 T N_set U;have Y_waits_right:Fn l.prog w K mg base "_law_waits_right" 33 5 Xe:=d35.fn X G (ps:=q13) (λ_ _ _ _ _ _ us J=>xH2 J λ_ _ _ _ _=>rfl) λ_ _ U M N B=>zm8 T T3 U Y_all Y_key Y_thing_key Y_apart_names;exact xh2 T aL Y_left Y_house Y_tree Y_box Y_kind Y_plain Y_ranked Y_waits_right F_drawn
def walk{l:W.OpenLaw}{q:Program}{loose:List Str}{XP:(Str->Option Value)->Heap->Prop}{YP:World->Heap->Prop}{d:DefRec}{K:Params->W.Frag}(hn:l.most=some 63)(O:d.params.defaults=[])
  (hY:∀(w:World) (h:Heap),YP w h->(K w.params).In h)
  (J:∀(w:World),∀y∈qv,∀c P,W.tabIn (K w.params) y=some (c,P)->∃d,(recsOf q).find? (λe=>e.name == y)=some d) (L:∀w:World,W.noTabs (K w.params)=true)
  (F : ∀ (w : World) (mg : Str -> Option Value) (Y : Addr) (h : Heap), (K w.params).In h -> h.Ns mainGlobals mg -> mg d.name = some (.ref Y) ->
   ∃fd:FuncData,(∀(s:Shared) (u:Value),BindsTo s fd ⟨[u],[]⟩ [("_law_script",u)])/\∀base:Heap,(K w.params).In base->base.Ns mainGlobals mg->base.NoDigits->Jh (K w.params) mg base->FnOk l.prog w (K w.params) mg base CX0 36 Y fd ["_law_script"] (UH (K w.params))) :
  W.WalkO q loose XP YP l.row.toRowW d [] (λf vs=>PySem.call f vs):=
 L2.zx4 (n:=63) (k:=36) (x := "_law_script") (CX:=λ_=>CX0) (sp:=λw=>UH (K w.params)) hn w6 O ⟨rfl,w6,w6,rfl⟩ hY J (λw=>zM5 (K w.params)) L F (λ_ _ a ns hl hO hS hT=>⟨a,ns,rfl,hO,hS,hl,hT,λH h=>⟨rfl,h⟩⟩) λ_ _ _ _ _ z=>z
end K42
open PySem PySem.W PyProof.Rows
set_option maxRecDepth 100000 in
set_option maxHeartbeats 0 in
theorem PySem.Challenge.cw_boxlayers_k42_one_more_each_time_holds : PySem.Challenge.rw_boxlayers_k42_one_more_each_time.Holds := by
 w_on; refine holds_law (by kernel_rfl) fun said => ?_; refine holds_open (q:=K42H.view) (loose:=[]) (N:=10000) (XP:=XL K42H.view []) (Xt:=λs=>xlAt K42H.view [] s && recOk (RowW.records (OpenRow.toRowW (OpenLaw.row PySem.Challenge.rw_boxlayers_k42_one_more_each_time))) s) (Yf:=Hook.obs K42H.hook) (Ya:=Hook.val K42H.hook) (YP:=Hook.says K42H.hook) K42H.left (Hook.of K42H.hook) (Hook.keeps K42H.hook) (λs e=>xl_of s (Bool.and_eq_true_iff.mp e).1) XL.keeps rfl rfl rfl (λs e=>recFacts_of (Bool.and_eq_true_iff.mp e).2) rfl (by first | assumption | decide +kernel) x3 ⟨rfl,rfl,rfl,rfl,rfl,x3⟩ ?_ ?_
 ·w_witness2
 k_fill
 refine K42.walk (l:=PySem.Challenge.rw_boxlayers_k42_one_more_each_time) rfl rfl (λw h Y=>PySem.W.km_in_of Y) ?R ?N ?F
 case R =>
  intro w y O c P e
  have z:y = "_law_grown" := by simpa [L2.qv] using O
  subst z;exact⟨_,rfl⟩
 case N =>
  intro w
  kernel_rfl
 case F =>
  intro w mg fa h KX G J;refine' K42.all_mk KX G J ?d0 ?d1 ?d2 ?d3 ?d4 ?d5 ?d6 ?d7 ?d8 ?d9 ?d10 ?d11 ?d12 ?d13 ?d14 ?d15 ?d16 ?d17 ?d18 ?d19 ?d20 ?d21 ?d22 ?d23 ?a24 ?l24 ?c24 ?k24 ?d25 ?d26 ?d27 ?d28 ?d29 ?d30 ?d31 ?d32 ?d33 ?d34 ?d35 ?a36 ?l36 ?c36 ?k36 ?le24 ?lk24 ?lp24 ?zn0 ?yy0 ?hh0 ?z0 ?z1 ?z2 ?z3 ?z4 ?z5 ?z6 ?z7 ?z8 ?z9 ?z10 ?z11 ?z12 ?z13 ?z14 ?z15 ?z16 ?z17 ?z18
  (case a24=>k_is)
  (case l24=>k_is)
  (case c24=>k_is)
  (case k24=>k_is)
  (case a36=>k_is)
  (case l36=>k_is)
  (case c36=>k_is)
  (case k36=>k_is)
  (case le24=>rfl)
  (case lk24=>k_is)
  (case lp24=>rfl)
  (case zn0=>k_is)
  (case yy0=>k_is)
  (case hh0=>k_is)
  (case z0=>k_is)
  (case z1=>k_is)
  (case z2=>k_is)
  (case z3=>k_is)
  (case z4=>k_is)
  (case z5=>k_is)
  (case z6=>k_is)
  (case z7=>k_is)
  (case z8=>k_is)
  (case z9=>k_is)
  (case z10=>k_is)
  (case z11=>k_is)
  (case z12=>k_is)
  (case z13=>k_is)
  (case z14=>k_is)
  (case z15=>k_is)
  (case z16=>k_is)
  (case z17=>k_is)
  (case z18=>k_is)
  all_goals (apply K42.dn;k_is;k_is;k_is;k_is)
end
#print axioms PySem.Challenge.cw_boxlayers_k42_one_more_each_time_holds
