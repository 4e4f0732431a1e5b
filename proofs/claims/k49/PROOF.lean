import PyProof.Rows.All
import Wide.All
import OpenK.AllK
import Wide.FinOn
import Lean
import PyProof.EqAt
import PyProof.EqKinds
import PyProof.TupleCall
import PyProof.CompFree
import PyProof.ZipIter
import PyProof.Cells
import PyProof.Rows.CellsFrame
import PyProof.EnumMake
import PyProof.TupleIter
import PyProof.IsiPairs
import PyProof.IsiSeqPairs
import PyProof.IsiNone
import PyProof.ConsumeWalk
import PyProof.DictCompW
import PyProof.NeKinds
import PyProof.MinMaxWalk
import PyProof.Rows.SortRev
import KE.KIsAll
import KE.KDictOf
import PyProof.AttrMissHeap
import PyProof.CallFns
import KE.KLam
import KE.KSortKey
import PyProof.MaxThree
import KE.KDictList
import PyProof.DictRoadsH
import PyProof.DictUpdate
import PyProof.DictWalks
import PyProof.Rows.SetFrom
import PySem.Challenge.RW_boxlayers_k49_drawn_papers_told
set_option Elab.async false
set_option linter.all false
namespace K49H
section
open PySem PySem.W PyProof.Rows
def top (i : Nat) : Stmt := PySem.Challenge.pw_boxlayers_k49_drawn_papers_told.main.body.getD i (.Pass ⟨0, 0, 0, 0⟩)
noncomputable def view:Program:={ PySem.Challenge.pw_boxlayers_k49_drawn_papers_told with main:={ PySem.Challenge.pw_boxlayers_k49_drawn_papers_told.main with body:=[top 1,top 2,top 3,top 4,top 5,top 6,top 7,top 8,top 9,top 10,top 11,top 12,top 13,top 14,top 16,top 18,top 19,top 20,top 21,top 22,top 24,top 25,top 26,top 28,top 29,top 30,top 32,top 33,top 34,top 35,top 36,top 37,top 38,top 39,top 40,top 41,top 42,top 43,top 44,top 45,top 46,top 47,top 48,top 49,top 50,top 51,top 52] } }
local macro_rules | `(tactic| o_head (kmHook $k $a $e $t)) => `(tactic| (assumption; exact ($a, $t)))
set_option maxRecDepth 100000 in
set_option maxHeartbeats 0 in
noncomputable def hk : List Addr × List Addr := by
  refine (fun (_ : (OpenLaw.row PySem.Challenge.rw_boxlayers_k49_drawn_papers_told).Holds → (OpenLaw.row PySem.Challenge.rw_boxlayers_k49_drawn_papers_told).Holds) => ?a) (fun h => ?b)
  rotate_left
  k_head
noncomputable abbrev hook : Hook := kmHook hk.heap_1 hk.1 (fun _ => by kernel_rfl) hk.2
set_option maxRecDepth 100000 in
set_option maxHeartbeats 0 in
theorem headF (w : World) : (fencedOpening treeTable (OpenLaw.row PySem.Challenge.rw_boxlayers_k49_drawn_papers_told).prog w 10000).map (fun a => (topFrom treeTable (OpenLaw.row PySem.Challenge.rw_boxlayers_k49_drawn_papers_told).prog (w.withFollow "special-get-raises" false) 10000 a).map (fun s => (openSeen view [] (importedModules (OpenLaw.row PySem.Challenge.rw_boxlayers_k49_drawn_papers_told).prog.main.body) (fun s => xlAt view [] s && recOk (RowW.records (OpenRow.toRowW (OpenLaw.row PySem.Challenge.rw_boxlayers_k49_drawn_papers_told))) s) true s, Hook.obs hook s))) = some (some (openGood view [], Hook.val hook (w.withFollow "special-get-raises" false))) := by kernel_rfl
set_option maxRecDepth 100000 in
set_option maxHeartbeats 0 in
theorem headT (w : World) : (fencedOpening treeTable (OpenLaw.row PySem.Challenge.rw_boxlayers_k49_drawn_papers_told).prog w 10000).map (fun a => (topFrom treeTable (OpenLaw.row PySem.Challenge.rw_boxlayers_k49_drawn_papers_told).prog (w.withFollow "special-get-raises" true) 10000 a).map (fun s => (openSeen view [] (importedModules (OpenLaw.row PySem.Challenge.rw_boxlayers_k49_drawn_papers_told).prog.main.body) (fun s => xlAt view [] s && recOk (RowW.records (OpenRow.toRowW (OpenLaw.row PySem.Challenge.rw_boxlayers_k49_drawn_papers_told))) s) true s, Hook.obs hook s))) = some (some (openGood view [], Hook.val hook (w.withFollow "special-get-raises" true))) := by kernel_rfl
theorem two_map {u v : Type} {o : Option u} {A B : u → v} {a b : v} (h1 : o.map A = some a) (h2 : o.map B = some b) : o.map (fun s => (A s, B s)) = some (a, b) := by
  cases o with
  | none => cases h1
  | some s => exact congrArg some (congr (congrArg Prod.mk (Option.some.inj h1)) (Option.some.inj h2))
theorem left : LeftO (OpenLaw.row PySem.Challenge.rw_boxlayers_k49_drawn_papers_told).prog view [] (fun s => xlAt view [] s && recOk (RowW.records (OpenRow.toRowW (OpenLaw.row PySem.Challenge.rw_boxlayers_k49_drawn_papers_told))) s) (Hook.obs hook) (Hook.val hook) 10000 := LeftO.of_split "special-get-raises" fun w => @two_map _ _ _ _ _ _ _ (headF w) (headT w)
end
end K49H
abbrev QqV:=PySem.Value->PySem.Shared->Prop
abbrev QqL:=List (PySem.Addr × PySem.Obj)
abbrev QqM:=PySem.Str->Option PySem.Value
abbrev QqA:=PySem.Addr->Prop
abbrev QqO:=Option (List Int)
abbrev QqI:=List (List Int)
abbrev QqW:=List PySem.Value
abbrev QqP:=Int × Int
abbrev QqE:=Option PySem.Addr
open PySem PySem.Spec PyProof.Rows
open List (set_comm of_mem_zip replicate length_nil length_drop map_nil all_cons forIn_nil forIn_cons zipIdx_cons getElem?_drop take_left' filter_append sum_cons range_succ nodup_nil length_zip map_take)
noncomputable section
set_option bootstrap.genMatcherCode false
set_option genSizeOf false
set_option compiler.extract_closed false
set_option Elab.async false
set_option autoImplicit true
set_option linter.all false
set_option maxRecDepth 100000
section
def xS:=@Array.getElem?_eq_getElem
def wJ:=@Array.getElem?_eq_none
def ym:=@Array.getElem?_map
def wT:=@Array.getElem?_toList
def xJ:=@Array.length_toList
def yO:=@Array.size_range
def yx:=@Array.toArray_toList
def zG:=@Bool.and_eq_true
def xW:=@Bool.eq_iff_iff
def zY:=@Bool.false_eq_true
def zR:=@Bool.false_ne_true
def zh:=@Heap.get?_push_of_some
def zr:=@Heap.get?_push_size
def wn:=@Heap.get?_update_other
def xI:=@Heap.get?_update_self
def zt:=@Heap.lt_size
def wc:=@Heap.size_push
def wZ:=@Int.emod_lt_of_pos
def wC:=@Int.emod_nonneg
def xz:=@Int.eq_ofNat_of_zero_le
def yS:=@Int.le_refl
def yD:=@Int.toNat_natCast
def wY:=@List.all_eq_true
def yE:=@List.any_cons
def yj:=@List.any_eq_true
def yC:=@List.append_assoc
def yh:=@List.append_nil
def wR:=@List.drop_left'
def yK:=@List.filterMap_cons
def yl:=@List.filterMap_map
def xo:=@List.filter_cons_of_neg
def xj:=@List.filter_cons_of_pos
def yJ:=@List.filter_sublist
def we:=@List.find?_cons
def yB:=@List.flatten_cons
def zS:=@List.getD_eq_getElem?_getD
def wq:=@List.getElem?_append_left
def xN:=@List.getElem?_append_right
def ze:=@List.getElem?_eq_getElem
def zm:=@List.getElem?_eq_some_iff
def zw:=@List.getElem?_map
def wO:=@List.getElem?_range
def xt:=@List.getElem?_replicate
def xg:=@List.getElem?_set_ne
def zU:=@List.getElem?_set_self
def wm:=@List.getElem_mem
def zu:=@List.length_append
def zJ:=@List.length_cons
def xb:=@List.length_eq_zero_iff
def wB:=@List.length_filter_le
def zg:=@List.length_map
def yg:=@List.length_range
def wA:=@List.length_replicate
def yi:=@List.length_take
def wu:=@List.length_zipWith
def zV:=@List.lookup_cons
def al_List_lookup_cons_self:=@List.lookup_cons_self
def zE:=@List.map_append
def yI:=@List.map_congr_left
def zD:=@List.map_cons
def zQ:=@List.map_map
def yG:=@List.map_zip_eq_zipWith
def xi:=@List.mem_append
def xv:=@List.mem_append_left
def zL:=@List.mem_append_right
def zj:=@List.mem_cons
def zn:=@List.mem_cons_of_mem
def xf:=@List.mem_cons_self
def zy:=@List.mem_filter
def zk:=@List.mem_map
def zM:=@List.mem_of_getElem?
def xV:=@List.mem_range
def zB:=@List.mem_singleton
def yw:=@List.nil_append
def wM:=@List.nodup_append
def xC:=@List.nodup_cons
def xM:=@List.nodup_iff_pairwise_ne
def zI:=@List.not_mem_nil
def wF:=@List.pairwise_cons
def wQ:=@List.pairwise_iff_getElem
def xE:=@List.pairwise_map
def wN:=@List.replicate_succ
def zp:=@List.size_toArray
def wP:=@List.sublist_append_right
def xm:=@List.take_add_one
def xY:=@List.take_length
def yA:=@List.take_sublist
def xF:=@List.zipWith_cons_cons
def wX:=@List.zip_cons_cons
def yv:=@Nat.le_of_lt
def zo:=@Nat.le_refl
def wl:=@Nat.le_succ
def zK:=@Nat.le_trans
def xx:=@Nat.lt_irrefl
def zX:=@Nat.lt_of_lt_of_le
def wL:=@Nat.lt_succ_of_lt
def yu:=@Nat.mod_lt
def xQ:=@Nat.ne_of_gt
def zA:=@Nat.ne_of_lt
def xq:=@Nat.zero_le
def zP:=@Option.some.inj
def zN:=@decide_eq_false
def xh:=@decide_eq_true
def ww:=@decide_eq_true_eq
def zb:=@wpAny_bind
def xy:=@wpAny_callSpecial?_slot
def wj:=@wpAny_call_entry
def wW:=@wpAny_comprehension_free
def xO:=@wpAny_dictEntries
def wh:=@wpAny_field
def xr:=@wpAny_holding
def yo:=@wpAny_letGo
def wv:=@wpAny_mono
def xl:=@wpAny_newObj_type
def yt:=@wpAny_passesOwn
def zd:=@wpAny_pure
def yz:=@wpAny_pyIter_list
def ye:=@wpAny_rule
def wz:=@wpAny_seqItems
def yk:=@wpAny_setField_rec
def wx:=@wpAny_standAt
def wK:=@wpAny_truthy_bool
def wU:=@wpAny_typeNameOfWhole_keyiter
def yr:=@wpAny_typeNameOf_keyiter
def xu:=@wpS_bind
def wy:=@wpS_pure
end
def q5 {p:Prop}(h:p:=by lia):p:=h
def q9 {p:Prop}(h:p:=by decide):p:=h
def w5 {p:Prop}(h:p:=by decide +kernel):p:=h
local macro_rules|`(tactic|exists $t)=>`(tactic|with_unfolding_all exact $t)
namespace L2
abbrev Key:=Sum Int Str
def zk0:Key->Value->Bool
 |.inl k,v=>Value.isInt k v
 |.inr x,v=>Value.isStrOf x v
def xR6(w:World):Key->Int
 |.inl k=>hashInt k
 |.inr x=>hashStr w x
theorem vm:∀{k:Key}{v:Value},zk0 k v=true->(∃i t,k=Sum.inl i/\v=Value.int i t)\/(∃x t,k=Sum.inr x/\v=Value.str x t)
 |.inl i,v,h=>by
  obtain⟨t,e⟩:=Value.isInt_shape (k:=i) (v:=v) h;exact .inl ⟨i,t,rfl,e⟩
 |.inr x,v,h=>by
  obtain⟨t,e⟩:=Value.isStrOf_shape (x:=x) (v:=v) h;exact .inr ⟨x,t,rfl,e⟩
def zx8(i:Int)(t:Tok):zk0 (.inl i) (.int i t)=true:=by simp[zk0,Value.isInt]
def zx7(x:Str)(t:Tok):zk0 (.inr x) (.str x t)=true:=by simp[zk0,Value.isStrOf]
def xn0(a b:Int):decide ((Sum.inl a:Key)=Sum.inl b)=(a == b):=by
 by_cases e:a=b
 ·subst e;simp
 ·have h:¬ (Sum.inl a:Key)=Sum.inl b:=λq=>e (Sum.inl.inj q);rw[zN h];exact(beq_eq_false_iff_ne.mpr e).symm
def xm7(a b:Str):decide ((Sum.inr a:Key)=Sum.inr b)=decide (a=b):=by
 by_cases e:a=b
 ·subst e;simp
 ·have h:¬ (Sum.inr a:Key)=Sum.inr b:=λq=>e (Sum.inr.inj q);rw[zN h,zN e]
def xm9(a:Int)(b:Str):decide ((Sum.inl a:Key)=Sum.inr b)=false:=zN (λq=>nomatch q)
def xm8(a:Str)(b:Int):decide ((Sum.inr a:Key)=Sum.inl b)=false:=zN (λq=>nomatch q)
def wV(prog:Program)(w:World):PySem.KeyKind prog w Key where
 is:=zk0
 hash:=xR6 w
 inj:=λv a b ha O=>by
  rcases vm ha with ⟨i,t,rfl,rfl⟩ |⟨x,t,rfl,rfl⟩
  ·rcases vm O with ⟨j, u, rfl, e⟩ | ⟨y, u, rfl, e⟩
   ·injection e with J _;rw[J]
   ·exact nomatch e
  ·rcases vm O with ⟨j, u, rfl, e⟩ | ⟨y, u, rfl, e⟩
   ·exact nomatch e
   ·injection e with J _;rw[J]
 byValue:=λk v h=>by
  rcases vm h with ⟨i,t,rfl,rfl⟩ |⟨x,t,rfl,rfl⟩<;>rfl
 pyHash:=λL h=>by
  rcases vm L with ⟨i,t,rfl,rfl⟩ |⟨x,t,rfl,rfl⟩
  ·exact wpAny_pyHash_int h
  ·exact wpAny_pyHash_str h
 eqBool:=λhu L h=>by
  rcases vm hu with ⟨i,t,rfl,rfl⟩ |⟨x,t,rfl,rfl⟩
  ·rcases vm L with ⟨j, u, rfl, rfl⟩ | ⟨y, u, rfl, rfl⟩
   ·rw[xn0] at h;exact wpAny_eqBool_int h
   ·rw[xm9] at h;exact SeqAt.EqAt.int_str i t y u _ _ _ _ h
  ·rcases vm L with ⟨j, u, rfl, rfl⟩ | ⟨y, u, rfl, rfl⟩
   ·rw[xm8] at h;exact SeqAt.EqAt.str_int x t j u _ _ _ _ h
   ·rw[xm7] at h;exact wpAny_eqBool_str h
 «strs»:=λk x t v h=>by
  rcases vm h with ⟨i,u,rfl,e⟩ |⟨y,u,rfl,e⟩
  ·exact nomatch e
  ·injection e with J _;subst J
   cases v<;>rfl
def QE(prog:Program)(w:World)(i:Int)(t:Tok):(wV prog w).is (.inl i) (.int i t)=true:=zx8 i t
def QD(prog:Program)(w:World)(x:Str)(t:Tok):(wV prog w).is (.inr x) (.str x t)=true:=zx7 x t
inductive V where
 |non |bl (b:Bool) |int (i:Int) |str (x:Str) |byt (b:Array UInt8) |flt (b:UInt64) |ref (a:Addr) |ty (n:String)
 deriving DecidableEq
def RelV:V->Value->Prop
 |.non,u=>u=Value.none
 |.bl b,u=>u=Value.bool b
 |.int i,u=>∃t,u=Value.int i t
 |.str x,u=>∃t,u=Value.str x t
 |.byt b,u=>∃t,u=Value.bytes b t
 |.flt b,u=>∃t,u=Value.float b t
 |.ref a,u=>u=Value.ref a
 |.ty n,u=>u=Value.type n
abbrev Vals:List V->List Value->Prop:=Paired RelV
def Vals.length(r:Vals xs us):xs.length=us.length:=Paired.length r
theorem Vals.get:∀{xs:List V}{us:QqW}{i:Nat}{x:V},Vals xs us->xs[i]?=some x->∃u,us[i]?=some u/\RelV x u
 |_,_,_,_,.nil,e=>by simp at e
 |_,_,0,_,.cons r _,e=>by simp at e;subst e;exact⟨_,rfl,r⟩
 |_,_,i+1,x,.cons _ t,e=>by
  obtain⟨u,h1,J⟩:=Vals.get (i:=i) (x:=x) t (by simpa using e)
  exact⟨u,by simpa using h1,J⟩
theorem Vals.set(r:RelV x u):∀{xs:List V}{us:QqW} (i:Nat),Vals xs us->Vals (xs.set i x) (us.set i u)
 |_,_,_,.nil=>.nil
 |_,_,0,.cons _ t=>.cons r t
 |_,_,i+1,.cons q t=>.cons q (Vals.set r i t)
theorem Vals.append:∀{xs ys:List V}{us ws:QqW},Vals xs us->Vals ys ws->Vals (xs++ys) (us++ws)
 |_,_,_,_,.nil,s=>s
 |_,_,_,_,.cons r t,s=>.cons r (Vals.append t s)
theorem Vals.take:∀{xs:List V}{us:QqW} (n:Nat),Vals xs us->Vals (xs.take n) (us.take n)
 |_,_,0,_=>.nil
 |_,_,_+1,.nil=>.nil
 |_,_,n+1,.cons r t=>.cons r (Vals.take n t)
theorem Vals.drop:∀{xs:List V}{us:QqW} (n:Nat),Vals xs us->Vals (xs.drop n) (us.drop n)
 |_,_,0,r=>r
 |_,_,_+1,.nil=>.nil
 |_,_,n+1,.cons _ t=>Vals.drop n t
def RelO:Option V->Option Value->Prop
 |some v,some u=>RelV v u
 |none,none=>True
 |_,_=>False
def KV{κ:Type}:List (κ × V)->List (κ × Value)->Prop:=Paired fun(p:κ × V) (q:κ × Value)=>p.1=q.1/\RelV p.2 q.2
def kV:Key->V
 |.inl i=>.int i
 |.inr x=>.str x
inductive HO where
 /-- a list -/
 |lst (xs:List V)
 /-- a tuple (never changes) -/
 |tup (xs:List V)
 /-- a dict whose keys are ints and texts; one whose keys are tuples of ints and texts (the empty one is both) -/
 |dK (kvs:List (Key × V)) |dT (kvs:List (List Key × V))
 /-- a set of ints: its members, its size -/
 |set (S:Int->Bool) (n:Nat)
 /-- an instance of the class at C, its dict at dx, its attributes -/
 |ins (C dx:Addr) (fs:List (Str × V))
 /-- the dict of the instance at x -/
 |own (x:Addr)
 /-- the dict of an exception -/
 |xd (fs:List (Str × V))
 /-- a bound method, f of x -/
 |met (f x:Addr)
 /-- a range object lo, lo + 1, .. below hi -/
 |rng (lo hi:Int)
 /-- a thing that is known to the object (the script; a dict while a loop walks it): read, never written while it is so -/
 |frz (o:Obj) (u:HO)
 /-- a code object's table -/
 |tbl (ps:Array Value)
 /-- a code object's table: the code objects in it are known and stay -/
 |cot (q:Str)
 /-- any other thing, by what is true of its one object (a def of one's own: SetO a S n := HO.ext λh => ..) -/
 |ext (φ:Heap->Prop)
abbrev Hp:=Addr->Option HO
def upd(H:Hp)(a:Addr)(o:HO):Hp:=λb=>if b=a then some o else H b
def yb:upd H a o a=some o:=by unfold upd;rw[if_pos rfl]
def xX(h:b≠a):upd H a o b=H b:=by unfold upd;rw[if_neg h]
def yd{H:Hp}{a b:Addr}{o:HO}(h:H a=some o)(h':H b=none):a≠b:=by
 intro e;subst e;rw[h] at h';cases h'
def xr0(J:Obj)(q:Str):Prop:=∃vs t,J.data=.fields vs/\vs[1]?=some (.str q t)
inductive TabG(φ:QqA):List Value->Prop where
 |nil:TabG φ []
 |cons {i j:Int}{t u:Tok}{c:Addr}{r:QqW} (h:φ c) (g:TabG φ r):TabG φ (.int i t::.int j u::.ref c::r)
def TabG.imp(f:∀c,φ c->ψ c)(g:TabG φ l):TabG ψ l:=by
 induction g with
 |nil=>exact .nil
 |cons h _ J=>exact .cons (f _ h) J
section
variable (P:Program) (w:World)
def ObjOk(H:Hp)(h:Heap)(a:Addr):HO->Prop
 |.lst xs=>xs.length<=sizeLine/\∃(its:QqW) (n:Nat),Vals xs its/\h.get? a=some { cls:=.type "list",data:=.seq its.toArray n }
 |.tup xs=>xs.length<=sizeLine/\∃its:List Value,Vals xs its/\IsTup h a its.toArray
 |.dK kvs=>kvs.length<=sizeLine/\(a == sysModules)=false/\∃vs,KV kvs vs/\h.DictOf (wV P w) a vs
 | .dT kvs => kvs.length <= sizeLine /\ (a == sysModules) = false /\ ∃ xs : List (List Key × Addr × Value),
   Paired (fun(p:List Key × V) (q:List Key × Addr × Value)=>p.1=q.1/\H q.2.1=some (.tup (p.1.map kV))/\RelV p.2 q.2.2) kvs xs /\
   ∃o es ep,h.get? a=some o/\o.ExactDict/\o.data=.dict es ep/\es.toList=xs.map (entryOfKey (tupleKind (wV P w)))/\(xs.map (·.1)).Nodup
 |.set S n=>h.SetOf (intKind P w) a S n
 | .ins C L fs => H L = some (.own a) /\ fs.length <= 1000 /\ L ≠ a /\ h.get? a = some (W.instObj C L) /\
   ∃J,h.Ns1 L J/\(∀f,RelO (fs.lookup f) (J f))/\PySem.Within J (fs.map (·.1))
 |.own _=>∃o,h.get? a=some o
 |.xd fs=>∃J,h.Ns1 a J/\∀f,RelO (fs.lookup f) (J f)
 |.rng lo hi=>∃t u v,h.get? a=some { cls:=.type "range",data:=.fields #[.int lo t,.int hi u,.int 1 v] }
 |.frz o u=>h.get? a=some o/\ObjOk H h a u
 |.tbl ps=>h.get? a=some { cls:=.none,data:=.fields ps }
 |.cot q=>∃ps:Array Value,h.get? a=some { cls:=.none,data:=.fields ps }/\TabG (λc=>∃O,H c=some (.frz O (.own 0))/\xr0 O q) ps.toList
 |.met f x=>h.get? a=some (W.methodObj (.ref f) (.ref x))
 |.ext φ=>φ h/\(∃o,h.get? a=some o)/\∀h1 Y:Heap,φ h1->(∀o,h1.get? a=some o->Y.get? a=some o)->φ Y
def HOk(H:Hp)(h:Heap):Prop:=∀a o,H a=some o->ObjOk P w H h a o
end
section
variable {P:Program}{w:World}{H H':Hp}{h h':Heap}{a:Addr}{o:HO}
def ObjOk.lt(x:ObjOk P w H h a o):a<h.objs.size:=by
 cases o with
 |lst xs=>obtain⟨_,_,_,_,e⟩:=x;exact zt e
 |tup xs=>obtain⟨_,_,_,p⟩:=x;exact p.lt
 |dK kvs=>obtain⟨_,_,_,_,o,_,_,e,_⟩:=x;exact zt e
 |dT kvs=>obtain⟨_,_,_,_,o,_,_,e,_⟩:=x;exact zt e
 |set S n=>obtain⟨o,_,_,_,e,_⟩:=x;exact zt e
 |ins C J fs=>obtain⟨_,_,_,e,_⟩:=x;exact zt e
 |own y=>obtain⟨_,e⟩:=x;exact zt e
 |xd fs=>obtain⟨_,⟨_,_,_,e,_⟩,_⟩:=x;exact zt e
 |rng lo hi=>obtain⟨_,_,_,e⟩:=x;exact zt e
 |frz ob u=>obtain⟨e,_⟩:=x;exact zt e
 |tbl ps=>exact zt (show h.get? a=some _ from x)
 |cot q=>obtain⟨ps,e,_⟩:=x;exact zt e
 |met f y=>exact zt (show h.get? a=some _ from x)
 |ext φ=>obtain⟨_,⟨_,e⟩,_⟩:=x;exact zt e
theorem Paired.mapP{α β:Type}{F G:α->β->Prop}:∀{J:List α}{l₂:List β},Paired F J l₂->(∀a b,F a b->G a b)->Paired G J l₂
 |_,_,.nil,_=>.nil
 |_,_,.cons r t,f=>.cons (f _ _ r) (Paired.mapP t f)
def ObjOk.stay(x:ObjOk P w H h a o)(k:∀b u,(b=a\/H b=some (.own a))->h.get? b=some u->h'.get? b=some u)
  (ho:∀b,H b=some (.own a)->H' b=some (.own a)) (ht:∀b xs,H b=some (.tup xs)->H' b=some (.tup xs)) (hz:∀b o u,H b=some (.frz o u)->H' b=some (.frz o u)):ObjOk P w H' h' a o:=by
 induction o with
 |lst xs=>obtain⟨z,its,n,r,e⟩:=x;exact⟨z,its,n,r,k _ _ (.inl rfl) e⟩
 |tup xs=>obtain⟨z,its,r,ob,e,c⟩:=x;exact⟨z,its,r,ob,k _ _ (.inl rfl) e,c⟩
 |dK kvs=>obtain⟨z,y,vs,r,ob,es,ep,e,c⟩:=x;exact⟨z,y,vs,r,ob,es,ep,k _ _ (.inl rfl) e,c⟩
 |dT kvs=>
  obtain⟨z,y,xs,r,ob,es,ep,e,c⟩:=x;exact⟨z,y,xs,Paired.mapP r λp q z=>⟨z.1,ht _ _ z.2.1,z.2.2⟩,ob,es,ep,k _ _ (.inl rfl) e,c⟩
 |set S n=>obtain⟨ob,es,ep,t,e,c⟩:=x;exact⟨ob,es,ep,t,k _ _ (.inl rfl) e,c⟩
 |ins C dx fs=>
  obtain⟨d,z,ne,e,L,⟨J,es,ep,e2,c⟩,r⟩:=x;exact⟨ho _ d,z,ne,k _ _ (.inl rfl) e,L,⟨J,es,ep,k _ _ (.inr d) e2,c⟩,r⟩
 |own y=>obtain⟨ob,e⟩:=x;exact⟨ob,k _ _ (.inl rfl) e⟩
 |xd fs=>obtain⟨L,⟨J,es,ep,e,c⟩,r⟩:=x;exact⟨L,⟨J,es,ep,k _ _ (.inl rfl) e,c⟩,r⟩
 |rng lo hi=>obtain⟨t,u,v,e⟩:=x;exact⟨t,u,v,k _ _ (.inl rfl) e⟩
 |frz ob u Y=>obtain⟨e,q⟩:=x;exact⟨k _ _ (.inl rfl) e,Y q⟩
 |cot q=>obtain⟨ps,e,g⟩:=x;exact⟨ps,k _ _ (.inl rfl) e,g.imp λc ⟨O,z,i⟩=>⟨O,hz _ _ _ z,i⟩⟩
 |tbl ps=>
  have e:h.get? a=some { cls:=.none,data:=.fields ps }:=x;show h'.get? a=some { cls:=.none,data:=.fields ps };exact k a _ (.inl rfl) e
 |met f y=>
  have e:h.get? a=some (W.methodObj (.ref f) (.ref y)):=x;show h'.get? a=some (W.methodObj (.ref f) (.ref y));exact k a _ (.inl rfl) e
 |ext φ=>obtain⟨p,⟨o,e⟩,st⟩:=x;exact⟨st _ _ p λo q=>k _ _ (.inl rfl) q,⟨o,k _ _ (.inl rfl) e⟩,st⟩
def HOk.lt(x:HOk P w H h)(e:H a=some o):a<h.objs.size:=(x a o e).lt
def HOk.fresh(x:HOk P w H h)(e:h.objs.size<=a):H a=none:=by
 cases q:H a with
 |none=>rfl
 |some u=>exact absurd (zX (x.lt q) e) (xx _)
def HOk.kept(x:HOk P w H h)(k:∀b u,h.get? b=some u->h'.get? b=some u):HOk P w H h':=λa o e=>
 (x a o e).stay (λb u _ q=>k b u q) (λ_ q=>q) (λ_ _ q=>q) λ_ _ _ q=>q
def HOk.laid(x:HOk P w H h)(k:∀b u,h.get? b=some u->h'.get? b=some u)(Y:h.objs.size<=a)(J:ObjOk P w (upd H a o) h' a o):HOk P w (upd H a o) h':=λb u e=>by
 have L:=x.fresh Y
 by_cases O:b=a
 ·subst O;rw[yb] at e;cases e;exact J
 ·rw [xX O] at e
  exact(x b u e).stay (λc v _ q=>k c v q) (λc q=>by rw[xX (yd q L)];exact q) (λc xs q=>by rw[xX (yd q L)];exact q) λc o u q=>by rw[xX (yd q L)];exact q
end
def Rd(H:Hp)(a:Addr)(u:HO):Prop:=H a=some u\/∃o,H a=some (.frz o u)
def Rd.ok(r:Rd H a u)(x:HOk P w H h):ObjOk P w H h a u:=by
 rcases r with r |⟨o,r⟩
 ·exact x a u r
 ·obtain⟨_,q⟩:=x a _ r;exact q
def Mut:Option HO->Prop
 |some (.lst _)=>True
 |some (.dK _)=>True
 |some (.dT _)=>True
 |some (.set _ _)=>True
 |some (.ins _ _ _)=>True
 |some (.ext _)=>True
 |_=>False
section
variable {P:Program}{w:World}{H:Hp}{h h':Heap}{x e:Addr}{o':HO}
def HOk.write(ok:HOk P w H h)(O:Mut (H x))(he:e=x\/H e=some (.own x))(k:∀b u,b≠e->h.get? b=some u->h'.get? b=some u)(ad:∃u,h'.get? e=some u)
  (aa:ObjOk P w (upd H x o') h' x o'):HOk P w (upd H x o') h':=λb u q=>by
 have L:∀c y,H c=some (.own y)->c≠x:=λc y r z=>by subst z;rw[r] at O;exact O
 have Y:∀c xs,H c=some (.tup xs)->c≠x:=λc xs r z=>by subst z;rw[r] at O;exact O
 by_cases hb:b=x
 ·subst hb;rw[yb] at q;cases q;exact aa
 ·rw [xX hb] at q
  by_cases J:b=e
  ·have q' : H b = some (.own x) := by
    rcases he with z |z
    ·exact absurd (J.trans z) hb
    ·rw[J];exact z
   rw[q] at q';cases q';obtain⟨v,hv⟩:=ad
   exact⟨v,by rw[J];exact hv⟩
  ·refine (ok b u q).stay (λc v hc r => k c v ?_ r) (λc r => by rw [xX (L c b r)]; exact r) (λc xs r => by rw [xX (Y c xs r)]; exact r) λc o u r => by rw [xX (λz => by rw [<- z, r] at O; exact O)]; exact r
   rcases hc with rfl |hc
   ·exact J
   ·rintro rfl
    rcases he with z |z
    ·exact L c b hc z
    ·rw[hc] at z;cases z;exact hb rfl
end
structure Un(fs ex:List Addr)(H H':Hp)(h h':Heap):Prop where
 keep:∀b o,h.get? b=some o->H b=none->b ∉ fs->b ∉ ex->h'.get? b=some o
 slot:∀b o,h.get? b=some o->H b=none->b∈fs->b ∉ ex->∃sl,h'.get? b=some { o with slots:=sl }
 free:∀b o,h.get? b=some o->H b=none->b ∉ ex->H' b=none
 there:∀b o,h.get? b=some o->b ∉ ex->∃o',h'.get? b=some o'
 tups:∀b xs,H b=some (.tup xs)->H' b=some (.tup xs)
 frzs:∀b o u,H b=some (.frz o u)->H' b=some (.frz o u)
 tbls:∀b ps,H b=some (.tbl ps)->∃more,H' b=some (.tbl (ps++more))
section
variable {fs fs' ex ex':List Addr}{H H1 H2:Hp}{h h1 h2 h':Heap}{a x e:Addr}{o:HO}
def Un.any(u:Un fs ex H H1 h h1)(q:h.get? b=some ob)(n:H b=none)(hx:b ∉ ex):∃L,h1.get? b=some { ob with slots:=L }:=by
 by_cases J:b∈fs
 ·exact u.slot b ob q n J hx
 ·exact⟨ob.slots,u.keep b ob q n J hx⟩
def Un.kept(k:∀b u,h.get? b=some u->h'.get? b=some u):Un fs ex H H h h':=
 ⟨λb ob q _ _ _=>k b ob q,λb ob q _ _ _=>⟨ob.slots,k b ob q⟩,λ_ _ _ n _=>n,λb ob q _=>⟨ob,k b ob q⟩,λ_ _ q=>q,λ_ _ _ q=>q,λ_ ps q=>⟨#[],by rw[q];simp⟩⟩
def Un.refl:Un fs ex H H h h:=Un.kept λ_ _ q=>q
def Un.laid(k:∀b u,h.get? b=some u->h'.get? b=some u)(L:h.objs.size<=a)(J:H a=none):Un fs ex H (upd H a o) h h' where
 keep:=λb u q _ _ _=>k b u q
 slot:=λb u q _ _ _=>⟨u.slots,k b u q⟩
 free:=λb u q n _=>by rw[xX (zA (zX (zt q) L))];exact n
 there:=λb u q _=>⟨u,k b u q⟩
 tups:=λb xs q=>by rw[xX (yd q J)];exact q
 frzs:=λb u xs q=>by rw[xX (yd q J)];exact q
 tbls:=λb ps q=>⟨#[],by rw[xX (yd q J),q];simp⟩
def Un.write(L:Mut (H x))(he:e=x\/H e=some (.own x))(k:∀b u,b≠e->h.get? b=some u->h'.get? b=some u)(Y:∃u,h'.get? e=some u):Un fs ex H (upd H x o) h h':=by
 have hx:∀b,H b=none->b≠x:=λb n z=>by subst z;rw[n] at L;exact L
 have hb:∀b,H b=none->b≠e:=λb n z=>by
  subst z
  rcases he with r |r
  ·exact hx b n r
  ·rw[n] at r;cases r
 have O:∀b u,H b=some u->¬ Mut (some u)->b≠x:=λb u q nm z=>by subst z;rw[q] at L;exact nm L
 refine⟨λb u q n _ _=>k b u (hb b n) q,λb u q n _ _=>⟨u.slots,k b u (hb b n) q⟩,λb u q n _=>by rw[xX (hx b n)];exact n,λb u q _=>?_,
  λb xs q=>by rw[xX (O b _ q λz=>z)];exact q,λb u xs q=>by rw[xX (O b _ q λz=>z)];exact q,λb ps q=>⟨#[],by rw[xX (O b _ q λz=>z),q];simp⟩⟩
 by_cases J:b=e
 ·subst J;exact Y
 ·exact⟨u,k b u J q⟩
end
def trk(h:Heap)(H:Hp):List Addr:=(List.range h.objs.size).filter λa=>(H a).isSome
def zE9(h:Heap)(H:Hp):Heap:=W.hideAll h (trk h H)
def zy9(h:Heap)(H:Hp):(zE9 h H).objs.size=h.objs.size:=W.hideAll_size _ _
def zM9(e:h.get? b=some o)(n:H b=none):(zE9 h H).get? b=some o:=
 PySem.W.hideAll_get _ e λJ=>by
  have q:(H b).isSome=true:=(zy.mp J).2;rw[n] at q;simp at q
def zZ4(e:(zE9 h H).get? b=some o):h.get? b=some o/\H b=none:=by
 have e':h.get? b=some o:=W.of_hideAll (trk h H) e;refine⟨e',?_⟩
 cases q:H b with
 |none=>rfl
 |some x=>
  have J:b∈trk h H:=zy.mpr ⟨xV.mpr (zt e'),by simp[q]⟩
  have z:(zE9 h H).get? b=none:=W.hideAll_none (trk h H) J;rw[z] at e;cases e
def xd9(g h:Heap)(L:Addr):List (Addr × Obj):=(List.range h.objs.size).filterMap λa=>if a=L\/(g.get? a).isSome=true then none else(h.get? a).map λo=>(a,o)
def rest(g h:Heap)(L d:Addr):List (Addr × Obj):=(xd9 g h L).filter λp=>decide (p.1≠d)
structure Mod(K:W.Frag)(mg:QqM)(base:Heap):Prop where
 kin:K.In base
 glob:base.Ns mainGlobals mg
 blt:∃mb,base.Ns builtinsNs mb/\∀x:Str,x ≠ "__name__" -> mb x=bootBuiltins x
 nolimit:base.NoLimit
structure Cx where
 prog:Program
 w:World
 K:W.Frag
 mg:Str->Option Value
 base:Heap
 A:Around
 N:List Str
 s₀:Shared
 H₀:Hp
 env:Env
 outer:List Env
 stack:List Env
 ex:List Addr
 fn:Str->Bool
 calm:Bool
 pn:List (Addr × Obj)
 xe:Value->Shared->Prop
def frs(l:List Env):List Addr:=l.filterMap (·.frame)
abbrev Cx.fs(X:Cx):List Addr:=frs X.outer
def Vis(sc:Scope)(x:Str):Prop:=sc.names.lookup x=some .local\/sc.names.lookup x=some .cell\/sc.names.lookup x=some .free
def Loc(sc:Scope)(x:Str):Prop:=sc.names.lookup x=some .local\/sc.names.lookup x=some .cell
def xT2(env:Env)(h:Heap)(m:QqM)(x:Str)(u:Value):Prop:=
 (env.kindOf x=some .local/\m x=some u)\/((env.kindOf x=some .cell\/env.kindOf x=some .free)/\∃c,env.cells.lookup x=some c/\h.IsCell c (some u))
structure Cx.Ok(X:Cx):Prop where
 mod:Mod X.K X.mg X.base
 kind:X.env.scope.kind=.function
 glob:X.env.globals=mainGlobals
 blt:X.env.builtins=builtinsNs
 above:X.s₀.heap.objs.size<=X.env.locals
 inj:∀x y c,X.env.cells.lookup x=some c->X.env.cells.lookup y=some c->x=y
 has:∀x,(X.env.kindOf x=some .cell\/X.env.kindOf x=some .free)->∃c,X.env.cells.lookup x=some c
 cab:∀x c,X.fn x=true->X.env.cells.lookup x=some c->X.s₀.heap.objs.size<=c
 hd:X.calm=true->X.A.handled=none
 frames:X.A.frames=some X.stack
 stk:X.stack=X.outer\/(X.stack=X.env::X.outer/\X.env.frame=some X.env.locals)
 exf:∀b∈X.ex,b≠X.env.locals/\∀x c,X.env.cells.lookup x=some c->c≠b
 bs:∀b o,X.base.get? b=some o->X.s₀.heap.get? b=some o/\X.H₀ b=none
 bsz:X.base.objs.size<=X.s₀.heap.objs.size
 noex:∀b o,X.base.get? b=some o->b ∉ X.ex
 exfs:∀b∈X.ex,b ∉ X.fs
 funs:X.s₀.heap.FunFrames X.base X.outer
 frf:∀b∈X.fs,X.H₀ b=none
structure Inv(X:Cx)(pins:QqL)(σ:List (Option V))(H:Hp)(s:Shared):Prop where
 ok:X.Ok
 os:s.os=X.s₀.os
 bare:AllBare s.gens
 base:Un X.fs X.ex X.H₀ H X.s₀.heap s.heap
 loc:∃m,s.heap.Ns X.env.locals m/\∀(i:Nat) (x:Str) (v:V),X.N[i]?=some x->σ[i]?=some (some v)->Vis X.env.scope x->∃u,RelV v u/\xT2 X.env s.heap m x u
 cell:∀x c,X.env.cells.lookup x=some c->∃v,s.heap.IsCell c v
 free:H X.env.locals=none
 freeC:∀x c,X.env.cells.lookup x=some c->H c=none
 pin:∀p∈X.pn++pins,s.heap.get? p.1=some p.2/\H p.1=none/\p.1≠X.env.locals/\p.1 ∉ X.fs/\∀v,p.2.data≠.cell v
 hok:HOk X.prog X.w H s.heap
 len:σ.length=X.N.length
section
variable {X:Cx}{pins:QqL}{σ:List (Option V)}{H H':Hp}{s:Shared}{h':Heap}
def Cx.Ok.nofr(ok:X.Ok)(e:X.base.get? b=some o):b ∉ X.fs:=λJ=>by
 have:=(ok.funs.mem J).1;rw[e] at this;cases this
def Inv.bs(I:Inv X pins σ H s):∀b o,X.base.get? b=some o->s.heap.get? b=some o/\H b=none:=λb o e=>
 ⟨I.base.keep b o (I.ok.bs b o e).1 (I.ok.bs b o e).2 (I.ok.nofr e) (I.ok.noex b o e),I.base.free b o (I.ok.bs b o e).1 (I.ok.bs b o e).2 (I.ok.noex b o e)⟩
def Inv.bk(I:Inv X pins σ H s):∀b o,X.base.get? b=some o->s.heap.get? b=some o:=λb o e=>(I.bs b o e).1
def Inv.mod(I:Inv X pins σ H s):Mod X.K X.mg X.base:=I.ok.mod
def Inv.kIn(I:Inv X pins σ H s):X.K.In s.heap:=I.ok.mod.kin.keeps I.bk
def Inv.nolimit(I:Inv X pins σ H s):s.heap.NoLimit:=I.ok.mod.nolimit.keeps I.bk
def Inv.lt(I:Inv X pins σ H s):X.env.locals<s.heap.objs.size:=let ⟨_,J,_⟩:=I.loc;J.lt
def Inv.sz(I:Inv X pins σ H s):X.s₀.heap.objs.size<=s.heap.objs.size:=zK I.ok.above (yv I.lt)
def Inv.nofs(I:Inv X pins σ H s)(h:s.heap.objs.size<=a):a ∉ X.fs:=λJ=>by
 obtain⟨_,o,ho,_⟩:=I.ok.funs.mem J;exact absurd (zX (zt ho) (zK I.sz h)) (xx _)
def Inv.cne(I:Inv X pins σ H s):∀x c,X.env.cells.lookup x=some c->c≠X.env.locals:=λx c e z=>by
 obtain⟨v,o,ho,hd⟩:=I.cell x c e;obtain⟨m,⟨o',es,ep,ho',hd',_⟩,_⟩:=I.loc;rw[z,ho'] at ho;cases ho;rw[hd'] at hd;cases hd
def Inv.funs(I:Inv X pins σ H s):s.heap.FunFrames X.base X.outer:=by
 have all:∀(l:List Env),(∀b∈frs l,b∈X.fs)->X.s₀.heap.FunFrames X.base l->s.heap.FunFrames X.base l:=by
  intro l
  induction l with
  |nil=>intro _ _;trivial
  |cons env r ih=>
   intro hs hl;obtain⟨hk,⟨L,o,J,hn,ho,hd⟩,hr⟩:=hl
   have Y:L∈X.fs:=hs L (by unfold frs;rw[yK,J];exact xf)
   obtain⟨sl,e⟩:=I.base.slot L o ho (I.ok.frf L Y) Y λz=>I.ok.exfs L z Y
   exact⟨hk,⟨L,_,J,hn,e,hd⟩,ih (λb O=>hs b (by unfold frs;rw[yK,J];exact zn _ O)) hr⟩
 exact all X.outer (λ_ O=>O) I.ok.funs
def Inv.stack(I:Inv X pins σ H s):s.heap.FunFrames X.base X.stack:=by
 rcases I.ok.stk with e |⟨e,L⟩
 ·rw[e];exact I.funs
 ·rw [e];obtain⟨m,J,_⟩:=I.loc
  refine .cons (by rw[I.ok.kind];decide) L J ?_ I.funs
  exact Heap.get?_none_of_le (zK I.ok.bsz I.ok.above)
def Inv.stkSub(I:Inv X pins σ H s):∀b∈frs X.stack,b∈X.env.locals::X.fs:=λb J=>by
 rcases I.ok.stk with e |⟨e,L⟩
 ·rw[e] at J;exact zn _ J
 ·rw[e] at J;unfold frs at J;rw[yK,L] at J;exact J
def Inv.stkFree(I:Inv X pins σ H s):∀b∈frs X.stack,H b=none:=λb J=>by
 rcases zj.mp (I.stkSub b J) with e |J
 ·rw[e];exact I.free
 ·obtain⟨_,o,ho,_⟩:=I.ok.funs.mem J;exact I.base.free b o ho (I.ok.frf b J) λz=>I.ok.exfs b z J
def Inv.step{g':Array GenState}{t':Nat}{d':Drawn}{ch:List Addr}(I:Inv X pins σ H s)
  (L:∀b∈ch,(b∈X.ex\/X.s₀.heap.objs.size<=b)/\b≠X.env.locals/\(∀x c,X.env.cells.lookup x=some c->c≠b)/\∀p∈X.pn++pins,p.1≠b)
  (keep:∀b o,b≠X.env.locals->b ∉ X.fs->b ∉ ch->s.heap.get? b=some o->H b=none->h'.get? b=some o)
  (slot:∀b o,b≠X.env.locals->b∈X.fs->b ∉ ch->s.heap.get? b=some o->H b=none->∃sl,h'.get? b=some { o with slots:=sl }) (free:∀b o,b ∉ ch->s.heap.get? b=some o->H b=none->H' b=none)
  (there:∀b o,b ∉ ch->s.heap.get? b=some o->∃o',h'.get? b=some o')
  (tups:∀b xs,H b=some (.tup xs)->H' b=some (.tup xs)) (frzs:∀b o u,H b=some (.frz o u)->H' b=some (.frz o u)) (tbls:∀b ps,H b=some (.tbl ps)->∃more,H' b=some (.tbl (ps++more)))
  (ns:∀m,s.heap.Ns X.env.locals m->h'.Ns X.env.locals m) (hok:HOk X.prog X.w H' h') (hg:AllBare g') :
  Inv X pins σ H' { s with heap:=h',gens:=g',drawn:=d',toks:=t' }:=by
 have aa:∀b o,X.s₀.heap.get? b=some o->b≠X.env.locals:=λb o e=>zA (zX (zt e) I.ok.above)
 have Y:∀b o,X.s₀.heap.get? b=some o->b ∉ X.ex->b ∉ ch:=λb o e hx hb=>by
  rcases(L b hb).1 with z |z
  ·exact hx z
  ·exact absurd (zX (zt e) z) (xx _)
 have O:∀x c,X.env.cells.lookup x=some c->∀v,s.heap.IsCell c v->h'.IsCell c v:=λx c e v ⟨o,ho,hd⟩=>by
  have J:c ∉ ch:=λz=>(L c z).2.2.1 x c e rfl
  by_cases hc:c∈X.fs
  ·obtain⟨sl,q⟩:=slot c o (I.cne x c e) hc J ho (I.freeC x c e);exact⟨_,q,hd⟩
  ·exact⟨o,keep c o (I.cne x c e) hc J ho (I.freeC x c e),hd⟩
 refine⟨I.ok,I.os,hg,⟨λb o e n hb hx=>?_,λb o e n hb hx=>?_,λb o e n hx=>?_,λb o e hx=>?_,λb xs e=>tups b xs (I.base.tups b xs e),λb o xs e=>frzs b o xs (I.base.frzs b o xs e),λb ps e=>?_⟩,?_,λx c e=>?_,?_,λx c e=>?_,λp hp=>?_,hok,I.len⟩
 ·exact keep b o (aa b o e) hb (Y b o e hx) (I.base.keep b o e n hb hx) (I.base.free b o e n hx)
 ·obtain⟨sl,e1⟩:=I.base.slot b o e n hb hx;obtain⟨sl',e2⟩:=slot b _ (aa b o e) hb (Y b o e hx) e1 (I.base.free b o e n hx);exact⟨sl',e2⟩
 ·obtain⟨o',e1⟩:=I.base.there b o e hx;exact free b o' (Y b o e hx) e1 (I.base.free b o e n hx)
 ·obtain⟨o',e1⟩:=I.base.there b o e hx;exact there b o' (Y b o e hx) e1
 ·obtain ⟨m1, e1⟩ := I.base.tbls b ps e;obtain⟨m2,e2⟩:=tbls b _ e1
  exact⟨m1++m2,by rw[e2,Array.append_assoc]⟩
 ·obtain ⟨m, hn, hl⟩ := I.loc;refine⟨m,ns m hn,λi x v e1 e2 e3=>?_⟩;obtain⟨u,r,l⟩:=hl i x v e1 e2 e3;refine⟨u,r,?_⟩
  rcases l with l |⟨k,c,e,z⟩
  ·exact .inl l
  ·exact .inr ⟨k,c,e,O x c e _ z⟩
 ·obtain⟨v,z⟩:=I.cell x c e;exact⟨v,O x c e v z⟩
 ·obtain⟨m,⟨o,_,_,ho,_⟩,_⟩:=I.loc;exact free _ o (λz=>(L _ z).2.1 rfl) ho I.free
 ·obtain⟨v,o,ho,hd⟩:=I.cell x c e;exact free c o (λz=>(L c z).2.2.1 x c e rfl) ho (I.freeC x c e)
 ·obtain⟨e,n,ne,nf,d⟩:=I.pin p hp;have J:p.1 ∉ ch:=λz=>(L p.1 z).2.2.2 p hp rfl;exact⟨keep p.1 p.2 ne nf J e n,free p.1 p.2 J e n,ne,nf,d⟩
def Inv.un{t':Nat}(I:Inv X pins σ H s)(u:Un X.fs [] H H' s.heap h')(hok:HOk X.prog X.w H' h'):Inv X pins σ H' { s with heap:=h',toks:=t' }:=by
 obtain⟨m,⟨o,es,ep,ho,r⟩,_⟩:=id I.loc
 obtain⟨Y,O⟩:=u.any ho I.free (by simp)
 exact I.step (g':=s.gens) (d':=s.drawn) (ch:=[]) (λ_ z=>nomatch z) (λb o _ J _ e n=>u.keep b o e n J (by simp)) (λb o _ J _ e n=>u.slot b o e n J (by simp)) (λb o _ e n=>u.free b o e n (by simp)) (λb o _ e=>u.there b o e (by simp)) u.tups u.frzs u.tbls (λm' L=>by
  obtain⟨o',es',ep',ho',r'⟩:=L;rw[ho] at ho';cases ho'
  exact⟨_,es',ep',O,r'⟩) hok I.bare
def Inv.call{t':Nat}(I:Inv X pins σ H s)(u:Un (frs X.stack) ch H H' s.heap h')(hok:HOk X.prog X.w H' h')(hg:AllBare g')
  (L:∀b∈ch,(b∈X.ex\/X.s₀.heap.objs.size<=b)/\b≠X.env.locals/\(∀x c,X.env.cells.lookup x=some c->c≠b)/\∀p∈X.pn++pins,p.1≠b) :
  Inv X pins σ H' { s with heap:=h',gens:=g',drawn:=d',toks:=t' }:=by
 obtain⟨m,⟨o,es,ep,ho,r⟩,_⟩:=id I.loc;obtain⟨sl,O⟩:=u.any ho I.free λz=>(L _ z).2.1 rfl
 exact I.step (ch:=ch) L (λb o O hb J e n=>u.keep b o e n (λz=>(zj.mp (I.stkSub b z)).elim O hb) J) (λb o _ _ J e n=>u.any e n J) (λb o J e n=>u.free b o e n J) (λb o J e=>u.there b o e J) u.tups u.frzs u.tbls (λm' Y=>by
  obtain⟨o',es',ep',ho',r'⟩:=Y;rw[ho] at ho';cases ho'
  exact⟨_,es',ep',O,r'⟩) hok hg
def Inv.turned{t':Nat}(I:Inv X pins σ H s)(k:∀b o,b≠it->s.heap.get? b=some o->h'.get? b=some o)(Y:H it=none)(O:it≠X.env.locals)
  (h1:it∈X.ex\/X.s₀.heap.objs.size<=it) (h2:∀x c,X.env.cells.lookup x=some c->c≠it) (h3:∀p∈X.pn++pins,p.1≠it):Inv X pins σ H { s with heap:=h',toks:=t' }:=by
 have L:∀b u,H b=some u->b≠it:=λb u e z=>by rw[z,Y] at e;cases e
 refine I.step (g':=s.gens) (d':=s.drawn) (ch:=[it]) (λb hb=>?_) (λb o _ _ J e _=>k b o (λz=>J (by simp[z])) e) (λb o _ _ J e _=>⟨o.slots,k b o (λz=>J (by simp[z])) e⟩) (λ_ _ _ _ n=>n)
  (λb o J e=>⟨o,k b o (λz=>J (by simp[z])) e⟩) (λ_ _ e=>e) (λ_ _ _ e=>e) (λb ps e=>⟨#[],by rw[e];simp⟩) (λm hm=>?_) (λb u e=>?_) I.bare
 ·have e : b = it := by simpa using hb
  subst e;exact⟨h1,O,h2,h3⟩
 ·obtain⟨o,es,ep,ho,r⟩:=hm;exact⟨o,es,ep,k _ o (Ne.symm O) ho,r⟩
 ·refine (I.hok b u e).stay (λc v J q => k c v ?_ q) (λ_ q => q) (λ_ _ q => q) λ_ _ _ q => q
  rcases J with z |z
  ·rw[z];exact L b u e
  ·exact L c _ z
def Inv.tok(I:Inv X pins σ H s)(t:Nat):Inv X pins σ H { s with toks:=t }:=I.un (h':=s.heap) (t':=t) Un.refl I.hok
def Inv.kept{t':Nat}(I:Inv X pins σ H s)(k:∀b u,s.heap.get? b=some u->h'.get? b=some u):Inv X pins σ H { s with heap:=h',toks:=t' }:=I.un (Un.kept k) (I.hok.kept k)
def Inv.laid{t':Nat}(I:Inv X pins σ H s)(k:∀b u,s.heap.get? b=some u->h'.get? b=some u)(L:s.heap.objs.size<=a)(J:ObjOk X.prog X.w (upd H a o) h' a o) :
  Inv X pins σ (upd H a o) { s with heap:=h',toks:=t' }:=I.un (Un.laid k L (I.hok.fresh L)) (I.hok.laid k L J)
def Inv.write{t':Nat}(I:Inv X pins σ H s)(O:Mut (H x))(he:e=x\/H e=some (.own x))(k:∀b u,b≠e->s.heap.get? b=some u->h'.get? b=some u)(J:∃u,h'.get? e=some u)
  (L:ObjOk X.prog X.w (upd H x o) h' x o):Inv X pins σ (upd H x o) { s with heap:=h',toks:=t' }:=I.un (Un.write O he k J) (I.hok.write O he k J L)
def Inv.weak(I:Inv X pins σ H s)(L:σ'.length=σ.length)(w:∀(i:Nat) v,σ'[i]?=some (some v)->σ[i]?=some (some v)):Inv X pins σ' H s:=
 ⟨I.ok,I.os,I.bare,I.base,let ⟨m,J,hl'⟩:=I.loc;⟨m,J,λi x v e1 Y O=>hl' i x v e1 (w i v Y) O⟩,I.cell,I.free,I.freeC,I.pin,I.hok,L.trans I.len⟩
def Inv.pins_of(I:Inv X pins σ H s)(h:∀p∈pins',s.heap.get? p.1=some p.2/\H p.1=none/\p.1≠X.env.locals/\p.1 ∉ X.fs/\∀v,p.2.data≠.cell v):Inv X pins' σ H s:=
 ⟨I.ok,I.os,I.bare,I.base,I.loc,I.cell,I.free,I.freeC,λp J=>(xi.mp J).elim (λz=>I.pin p (xv _ z)) (h p),I.hok,I.len⟩
def zd9{N:List Str}(J:N.Nodup){i j:Nat}{x:Str}(a:N[i]?=some x)(b:N[j]?=some x):i=j:=by
 obtain⟨h1,O⟩:=zm.mp a;obtain⟨Y,L⟩:=zm.mp b;exact(List.getElem_inj J).mp (O.trans L.symm)
def Kh{i:Nat}(I:Inv X pins σ H s)(hN:X.N.Nodup)(hi:X.N[i]?=some x)(hx:Loc X.env.scope x)(r:RelV v u)
  (h:∀s',Inv X pins (σ.set i (some v)) H s'->(∃a,Heap.SameBut a s.heap s'.heap/\(a=X.env.locals\/X.env.cells.lookup x=some a))->Q () s') (hf:X.fn x=true\/X.env.scope.names.lookup x=some .local:=by first |exact .inl rfl |exact .inr rfl |assumption):wpAny M A (storeName X.env x u) Q E s:=by
 obtain⟨m,hn,hl⟩:=id I.loc
 have ag:(X.env.scope.kind == .class||(X.env.scope.kind == .module&&X.env.locals != X.env.globals))=false:=by rw[I.ok.kind];rfl
 have af:i<σ.length:=by rw[I.len];exact(zm.mp hi).1
 have cne:=I.cne
 have tracked:∀{a:Addr}{h':Heap},(∃o,s.heap.get? a=some o/\H a=none)->Heap.SameBut a s.heap h'->HOk X.prog X.w H h':=λ{a h'} ha hs b ob e=>by
  obtain⟨_,_,O⟩:=ha;refine(I.hok b ob e).stay (λc w' L q=>(hs.2 c ?_).trans q) (λ_ q=>q) (λ_ _ q=>q) λ_ _ _ q=>q;rintro rfl
  rcases L with rfl |L
  ·rw[O] at e;cases e
  ·rw[O] at L;cases L
 rcases hx with hk |hk
 ·refine wpAny_storeName_local hk hn (λh' hn' hs => ?_) ag;obtain⟨oL,_,_,ai,_⟩:=id hn
  refine h _ ⟨I.ok,I.os,I.bare,⟨λb o e n hb hx=>?_,λb o e n hb hx=>?_,I.base.free,λb o e hx=>?_,I.base.tups,I.base.frzs,I.base.tbls⟩,⟨_,hn',λj y v' J Y e3=>?_⟩,λy c e=>?_,I.free,I.freeC,λp hp=>?_,tracked ⟨oL,ai,I.free⟩ hs,by simpa using I.len⟩ ⟨_,hs,.inl rfl⟩
  ·exact(hs.2 b (zA (zX (zt e) I.ok.above))).trans (I.base.keep b o e n hb hx)
  ·obtain⟨sl,J⟩:=I.base.slot b o e n hb hx;exact⟨sl,(hs.2 b (zA (zX (zt e) I.ok.above))).trans J⟩
  ·obtain⟨o',J⟩:=I.base.there b o e hx;exact⟨o',(hs.2 b (zA (zX (zt e) I.ok.above))).trans J⟩
  ·by_cases hj : j = i
   ·subst hj;rw[hi] at J;cases J;rw[zU af] at Y;cases Y
    exact⟨u,r,.inl ⟨hk,by simp⟩⟩
   ·rw [xg (Ne.symm hj)] at Y;obtain⟨u',r',q⟩:=hl j y v' J Y e3;refine⟨u',r',?_⟩
    rcases q with ⟨k,e⟩ |⟨k,c,e,z⟩
    ·refine .inl ⟨k,?_⟩;have:y≠x:=λe=>hj (zd9 hN J (e ▸ hi));simp[this,e]
    ·exact .inr ⟨k,c,e,z.sameBut hs (cne y c e)⟩
  ·obtain⟨w',z⟩:=I.cell y c e;exact⟨w',z.sameBut hs (cne y c e)⟩
  ·obtain⟨e,n,ne,nf,d⟩:=I.pin p hp;exact⟨(hs.2 p.1 ne).trans e,n,ne,nf,d⟩
 ·have aa : X.fn x = true := by
   rcases hf with z |z
   ·exact z
   ·rw[z] at hk;cases hk
  obtain⟨c,L⟩:=I.ok.has x (.inl hk);obtain⟨w',z⟩:=I.cell x c L;refine wpAny_storeName_cell I.ok.kind hk L z (λh' hc' hs=>?_);obtain⟨oc,ae,ad⟩:=id z
  refine h { s with heap:=h' } ⟨I.ok,I.os,I.bare,⟨λb o e n hb hx=>?_,λb o e n hb hx=>?_,I.base.free,λb o e hx=>?_,I.base.tups,I.base.frzs,I.base.tbls⟩,⟨m,hn.sameBut hs (Ne.symm (cne x c L)),λj y v' J Y e3=>?_⟩,λy c' e=>?_,I.free,I.freeC,λp hp=>?_,tracked ⟨oc,ae,I.freeC x c L⟩ hs,by simpa using I.len⟩ ⟨c,hs,.inr L⟩
  ·exact(hs.2 b (zA (zX (zt e) (I.ok.cab x c aa L)))).trans (I.base.keep b o e n hb hx)
  ·obtain⟨sl,J⟩:=I.base.slot b o e n hb hx;exact⟨sl,(hs.2 b (zA (zX (zt e) (I.ok.cab x c aa L)))).trans J⟩
  ·obtain⟨o',J⟩:=I.base.there b o e hx;exact⟨o',(hs.2 b (zA (zX (zt e) (I.ok.cab x c aa L)))).trans J⟩
  ·by_cases hj : j = i
   ·subst hj;rw[hi] at J;cases J;rw[zU af] at Y;cases Y;exact⟨u,r,.inr ⟨.inl hk,c,L,hc'⟩⟩
   ·rw [xg (Ne.symm hj)] at Y;obtain⟨u',r',q⟩:=hl j y v' J Y e3;refine⟨u',r',?_⟩
    rcases q with q |⟨k,c',e,z'⟩
    ·exact .inl q
    ·refine .inr ⟨k,c',e,z'.sameBut hs ?_⟩;rintro rfl;exact hj (zd9 hN J (I.ok.inj _ _ _ e L ▸ hi))
  ·by_cases ah : c' = c
   ·subst ah;exact⟨_,hc'⟩
   ·obtain⟨w2,z2⟩:=I.cell y c' e;exact⟨w2,z2.sameBut hs ah⟩
  ·obtain ⟨e, n, ne, nf, d⟩ := I.pin p hp;refine⟨(hs.2 p.1 ?_).trans e,n,ne,nf,d⟩;intro q;rw[q,ae] at e;have q':oc=p.2:=zP e
   exact d w' (by rw[<- q'];exact ad)
def qd{i:Nat}(I:Inv X pins σ H s)(L:X.N.Nodup)(hi:X.N[i]?=some x)(hx:Loc X.env.scope x)(r:RelV v u)
  (h:∀s',Inv X pins (σ.set i (some v)) H s'->Q () s') (J:X.fn x=true\/X.env.scope.names.lookup x=some .local:=by first |exact .inl rfl |exact .inr rfl |assumption):wpAny M A (storeName X.env x u) Q E s:=
 Kh I L hi hx r (λs' I' _=>h s' I') J
def Inv.call'(I:Inv X pins σ H s)(ho:s'.os=s.os)(u:Un (frs X.stack) ch H H' s.heap s'.heap)(hok:HOk X.prog X.w H' s'.heap)(hg:AllBare s'.gens)
  (J:∀b∈ch,(b∈X.ex\/X.s₀.heap.objs.size<=b)/\b≠X.env.locals/\(∀x c,X.env.cells.lookup x=some c->c≠b)/\∀p∈X.pn++pins,p.1≠b):Inv X pins σ H' s':=by
 obtain⟨h',g',d',t',o'⟩:=s';have e:o'=s.os:=ho;subst e;exact I.call (g':=g') (t':=t') (d':=d') u hok hg J
end
abbrev XK:=Value->Option Addr->Hp->Prop
abbrev St:=List (Option V)
abbrev VK:=V->Hp->Prop
abbrev TE:=St->Hp->VK->Prop
abbrev TT:=St->Hp->(Bool->Hp->Prop)->Prop
abbrev TA:=St->Hp->(List V->Hp->Prop)->Prop
structure VC where
 nx:St->Hp->Prop
 rt:VK
 bk:St->Hp->Prop:=λ_ _=>False
 ct:St->Hp->Prop:=λ_ _=>False
abbrev TS:=VC->St->Hp->Prop
def EP(X:Cx)(pins:QqL)(σ:St)(Q:VK)(u:Value)(s':Shared):Prop:=∃v H',Inv X pins σ H' s'/\RelV v u/\Q v H'
def TP(X:Cx)(pins:QqL)(σ:St)(Q:Bool->Hp->Prop)(b:Bool)(s':Shared):Prop:=∃H',Inv X pins σ H' s'/\Q b H'
def AP(X:Cx)(pins:QqL)(σ:St)(Q:List V->Hp->Prop)(us:QqW)(s':Shared):Prop:=∃vs H',Inv X pins σ H' s'/\Vals vs us/\Q vs H'
def SP(X:Cx)(pins:QqL)(D:VC)(f:Flow)(s':Shared):Prop:=
 match f with
 |.next=>∃σ' H',Inv X pins σ' H' s'/\D.nx σ' H'
 |.brk=>∃σ' H',Inv X pins σ' H' s'/\D.bk σ' H'
 |.cont=>∃σ' H',Inv X pins σ' H' s'/\D.ct σ' H'
 |.ret u=>∃v σ' H',Inv X pins σ' H' s'/\RelV v u/\D.rt v H'
def PE(X:Cx)(e:Expr)(t:TE):Prop:=
 ∀(pins:QqL) (s:Shared) (σ:St) (H:Hp) (Q:VK),Inv X pins σ H s->t σ H Q->wpAny (model X.prog X.w) X.A (eval e X.env) (EP X pins σ Q) X.xe s
def PT(X:Cx)(e:Expr)(t:TT):Prop:=
 ∀(pins:QqL) (s:Shared) (σ:St) (H:Hp) (Q:Bool->Hp->Prop),Inv X pins σ H s->t σ H Q->wpAny (model X.prog X.w) X.A (isTrue e X.env (eval e X.env)) (TP X pins σ Q) X.xe s
def PW(X:Cx)(e:Expr)(t:TT):Prop:=
 ∀(J:Sem Value) (pins:QqL) (s:Shared) (σ:St) (H:Hp) (Q:Bool->Hp->Prop),Inv X pins σ H s->t σ H Q->wpAny (model X.prog X.w) X.A (isTrue e X.env J) (TP X pins σ Q) X.xe s
def PW.pt(h:PW X e t):PT X e t:=h _
def PA(X:Cx)(es:List Expr)(t:TA):Prop:=
 ∀(pos:Pos) (pins:QqL) (s:Shared) (σ:St) (H:Hp) (Q:List V->Hp->Prop),Inv X pins σ H s->t σ H Q->wpAny (model X.prog X.w) X.A (spliced (backTo pos (starEach es X.env))) (AP X pins σ Q) X.xe s
def PS(X:Cx)(st:Stmt)(t:TS):Prop:=
 ∀(pins:QqL) (s:Shared) (σ:St) (H:Hp) (D:VC),Inv X pins σ H s->t D σ H->wpAny (model X.prog X.w) X.A (exec st X.env) (SP X pins D) X.xe s
def PSs(X:Cx)(st:List Stmt)(t:TS):Prop:=
 ∀(pins:QqL) (s:Shared) (σ:St) (H:Hp) (D:VC),Inv X pins σ H s->t D σ H->wpAny (model X.prog X.w) X.A (execs st X.env) (SP X pins D) X.xe s
def thn{α:Type}{t:Sem α}{Q Q':α->Shared->Prop}{M:Model}{A:Around}{E:QqV}{s:Shared}(h:wpAny M A t Q E s)(J:∀a s,Q a s->Q' a s):wpAny M A t Q' E s:=wv h J λ_ _ x=>x
section
variable {X:Cx}
def xF6(i:Nat):TE:=λσ H Q=>∃v,σ[i]?=some (some v)/\Q v H
def tC(v:V):TE:=λ_ H Q=>Q v H
def qp{i:Nat}(hN:X.N[i]?=some x)(Y:Vis X.env.scope x)(hd:(x == ("__debug__" : Str))=false:=by decide)(L:(x == ("__classdict__" : Str))=false:=by decide):PE X (.Name x pos) (xF6 i):=by
 intro pins s σ H Q I h;obtain⟨v,e,h⟩:=h;obtain⟨m,hn,hl⟩:=I.loc;obtain⟨u,r,l⟩:=hl i x v hN e Y;have fin:EP X pins σ Q u s:=⟨v,H,I,r,h⟩
 rcases l with ⟨hk,hm⟩ |⟨hk,c,O,J⟩
 ·exact wpAny_Name (wpAny_loadName_local I.ok.kind hk hn hm fin) hd
 ·rcases hk with hk | hk
  ·exact wpAny_Name (wpAny_loadName_cell I.ok.kind hk O J fin) hd
  ·exact wpAny_Name (wpAny_loadName_free I.ok.kind hk O J fin L) hd
def KA{i j pos}:PE X (.Constant (.int i) j pos) (tC (.int i)):=λ_ _ _ H _ I h=>wpAny_Constant_int ⟨.int i,H,I.tok _,⟨_,rfl⟩,h⟩
def xk0{b j pos}:PE X (.Constant (.bool b) j pos) (tC (.bl b)):=λ_ _ _ H _ I h=>Constant_bool ⟨.bl b,H,I,rfl,h⟩
def xj7{j pos}:PE X (.Constant .none j pos) (tC .non):=λ_ _ _ H _ I h=>Constant_none ⟨.non,H,I,rfl,h⟩
def xj4{x j pos}:PE X (.Constant (.str x) j pos) (tC (.str x)):=λ_ _ _ H _ I h=>Calls.Constant_str ⟨.str x,H,I.tok _,⟨_,rfl⟩,h⟩
def Gl(X:Cx)(x:Str):Prop:=X.env.kindOf x=some .globalImplicit
def zw9(I:Inv X pins σ H s)(hg:Gl X x)(J:X.mg x=some u)(h:Q u s)
  (hd:(x == ("__debug__" : Str))=false:=by decide):wpAny (model X.prog X.w) X.A (eval (.Name x pos) X.env) Q E s:=
 Calls.Name_function_global I.ok.kind hg (Calls.loadGlobal_global (by rw[I.ok.glob];exact I.mod.glob.keeps I.bk) J h) hd
def Jg(I:Inv X pins σ H s)(hg:Gl X x)(O:X.mg x=none)(J:bootBuiltins x=some u)(h:Q u s)
  (L:x ≠ "__name__" := by decide) (hd:(x == ("__debug__" : Str))=false:=by decide):wpAny (model X.prog X.w) X.A (eval (.Name x pos) X.env) Q E s:=by
 obtain⟨mb,h1,Y⟩:=I.mod.blt
 exact Calls.Name_function_global I.ok.kind hg (Calls.loadGlobal_builtin (by rw[I.ok.glob];exact I.mod.glob.keeps I.bk) O (by rw[I.ok.blt];exact h1.keeps I.bk) ((Y x L).trans J) h) hd
def zX2(hg:Gl X x)(J:X.mg x=some u)(r:RelV v u)(hd:(x == ("__debug__" : Str))=false:=by decide):PE X (.Name x pos) (tC v):=
 λ_ _ _ H _ I h=>zw9 I hg J ⟨v,H,I,r,h⟩ hd
variable {a b:Expr}{ta tb:TE}{pos:Pos}
def tB(t:TE):TT:=λσ H Q=>t σ H λx H1=>∃c,x=.bl c/\Q c H1
def xi6{e:Expr}{t:TE}(h:PE X e t)(he:∀J,isTrue e X.env J=(do let v <- J;standAt e.pos;holding [v] (truthy v)):=by intro _;rfl):PT X e (tB t):=by
 intro pins s σ H Q I O;refine isTrue_plain (thn (h pins s σ H _ I O) λv s1 ⟨x,H1,Y,L,q1⟩=>?_) (he _);obtain⟨d,rfl,q⟩:=q1;cases L;exact wK ⟨H1,Y,q⟩
variable {tA tB':TT}{rest:List Expr}
def xN5(t u:TT):TT:=λσ H Q=>t σ H λc H1=>if c=true then u σ H1 Q else Q false H1
def tOr(t u:TT):TT:=λσ H Q=>t σ H λc H1=>if c=true then Q true H1 else u σ H1 Q
def xM8(t:TT):TT:=λσ H Q=>t σ H λc H1=>Q (!c) H1
def zW0(ha:PT X a tA):PW X (.BoolOp .And [a] pos) tA:=by
 intro J pins s σ H Q I h;refine isTrue_and (thn (ha pins s σ H Q I h) λc s1 e=>?_)
 cases c with
 |true=>exact isTrue_and_nil e
 |false=>exact e
def xi3(ha:PT X a tA):PW X (.BoolOp .Or [a] pos) tA:=by
 intro J pins s σ H Q I h;refine isTrue_or (thn (ha pins s σ H Q I h) λc s1 e=>?_)
 cases c with
 |false=>exact isTrue_or_nil e
 |true=>exact e
def xi4(ha:PT X a tA)(O:PW X (.BoolOp .And (b::rest) pos) tB'):PW X (.BoolOp .And (a::b::rest) pos) (xN5 tA tB'):=by
 intro L pins s σ H Q I h;refine isTrue_and (thn (ha pins s σ H _ I h) λc s1 ⟨H1,J,q1⟩=>?_)
 cases c with
 |true=>exact O L pins s1 σ H1 Q J q1
 |false=>exact⟨H1,J,q1⟩
def xC7(ha:PT X a tA)(O:PW X (.BoolOp .Or (b::rest) pos) tB'):PW X (.BoolOp .Or (a::b::rest) pos) (tOr tA tB'):=by
 intro L pins s σ H Q I h;refine isTrue_or (thn (ha pins s σ H _ I h) λc s1 ⟨H1,J,q1⟩=>?_)
 cases c with
 |true=>exact⟨H1,J,q1⟩
 |false=>exact O L pins s1 σ H1 Q J q1
def xi7(ha:PT X a tA):PT X (.UnaryOp .Not a pos) (xM8 tA):=by
 intro pins s σ H Q I h;exact isTrue_not (ha pins s σ H (λc H1=>Q (!c) H1) I h)
def xv8(ta tb:TE):TE:=λσ H Q=>ta σ H λx H1=>∃c,x=.bl c/\if c=true then tb σ H1 Q else Q (.bl false) H1
def xv1(ta:TE):TE:=λσ H Q=>ta σ H λx H1=>∃c,x=.bl c/\Q (.bl (!c)) H1
def xj5{op}(h:PE X a t):PE X (.BoolOp op [a] pos) t:=λpins s σ H Q I J=>BoolOp_one (h pins s σ H Q I J)
def xk1(ha:PE X a ta)(O:PE X (.BoolOp .And (b::rest) pos) tb):PE X (.BoolOp .And (a::b::rest) pos) (xv8 ta tb):=by
 intro pins s σ H Q I h;refine BoolOp_and (thn (ha pins s σ H _ I h) λv s1 ⟨x,H1,J,L,q1⟩=>?_);obtain⟨c,rfl,q1⟩:=q1;cases L;refine wK ?_
 cases c with
 |true=>exact O pins s1 σ H1 Q J q1
 |false=>exact⟨.bl false,H1,J,rfl,q1⟩
def xj6(ha:PE X a ta):PE X (.UnaryOp .Not a pos) (xv1 ta):=by
 intro pins s σ H Q I h;refine UnaryOp_ (thn (ha pins s σ H _ I h) λv s1 ⟨x,H1,L,J,q1⟩=>?_);obtain⟨c,rfl,q1⟩:=q1;cases J;exact not_of (wK ⟨.bl (!c),H1,L,rfl,q1⟩)
def tIf(t:TT)(ta tb:TE):TE:=λσ H Q=>t σ H λc H1=>if c=true then ta σ H1 Q else tb σ H1 Q
def zJ0{c:Expr}(L:PT X c tA)(ha:PE X a ta)(O:PE X b tb):PE X (.IfExp c a b pos) (tIf tA ta tb):=by
 intro pins s σ H Q I h;refine wpAny_IfExp (thn (L pins s σ H _ I h) λd s1 ⟨H1,J,q1⟩=>?_)
 cases d with
 |true=>exact ha pins s1 σ H1 Q J q1
 |false=>exact O pins s1 σ H1 Q J q1
end
def SqL(K:W.Frag)(H:Hp)(a:Addr)(xs:List V):Prop:=
 Rd H a (.lst xs) \/
  ∃(o:Obj) (its:Array Value) (n:Nat),K.lookup a=some o/\o.cls=.type "list" /\ o.dict=none/\o.data=.seq its n/\its.size<=sizeLine/\Vals xs its.toList
def SqT(K:W.Frag)(H:Hp)(a:Addr)(xs:List V):Prop:=
 Rd H a (.tup xs) \/
  ∃(o:Obj) (its:Array Value) (n:Nat),K.lookup a=some o/\o.cls=.type "tuple" /\ o.data=.seq its n/\its.size<=sizeLine/\Vals xs its.toList
def xT0:Value->Option V
 |.none=>some .non
 |.bool b=>some (.bl b)
 |.int i _=>some (.int i)
 |.str x _=>some (.str x)
 |.bytes b _=>some (.byt b)
 |.float b _=>some (.flt b)
 |.ref a=>some (.ref a)
 |.type n=>some (.ty n)
 |_=>none
def RelV.abs(r:RelV x u):xT0 u=some x:=by
 cases x with
 |non=>cases r;rfl
 |bl _=>cases r;rfl
 |int _=>obtain⟨t,rfl⟩:=r;rfl
 |str _=>obtain⟨t,rfl⟩:=r;rfl
 |byt _=>obtain⟨t,rfl⟩:=r;rfl
 |flt _=>obtain⟨t,rfl⟩:=r;rfl
 |ref _=>cases r;rfl
 |ty _=>cases r;rfl
def RelV.inj(r:RelV x u)(q:RelV y u):x=y:=zP (r.abs.symm.trans q.abs)
theorem Vals.inj:∀{xs ys:List V}{us:QqW},Vals xs us->Vals ys us->xs=ys
 |_,_,_,.nil,.nil=>rfl
 |_,_,_,.cons r t,.cons r' t'=>by rw[r.inj r',Vals.inj t t']
section
variable {X:Cx}{pins:QqL}{σ:St}{H:Hp}{s:Shared}{a:Addr}{xs ys:List V}
def SqL.of{K:W.Frag}(h:H a=some (.lst xs)):SqL K H a xs:=.inl (.inl h)
def Inv.list(I:Inv X pins σ H s)(h:SqL X.K H a xs):∃its:List Value,Vals xs its/\PlainL s.heap a its.toArray/\xs.length<=sizeLine:=by
 rcases h with h |⟨o,its,n,hk,J,hd,hs,hz,r⟩
 ·obtain⟨z,its,n,r,e⟩:=h.ok I.hok;exact⟨its,r,⟨_,n,e,rfl,rfl,rfl⟩,z⟩
 ·refine ⟨its.toList, r, ⟨o, n, I.kIn a o hk, J, hd, by simpa using hs⟩, ?_⟩
  have e:=r.length;simp only[xJ] at e;lia
def Inv.tuple(I:Inv X pins σ H s)(h:SqT X.K H a xs):∃its:List Value,Vals xs its/\IsTup s.heap a its.toArray/\xs.length<=sizeLine:=by
 rcases h with h |⟨o,its,n,hk,J,hs,hz,r⟩
 ·obtain⟨z,its,r,p⟩:=h.ok I.hok;exact⟨its,r,p,z⟩
 ·refine ⟨its.toList, r, ⟨o, I.kIn a o hk, J, n, by simpa using hs⟩, ?_⟩
  have e:=r.length;simp only[xJ] at e;lia
def Inv.list_inj(I:Inv X pins σ H s)(h:SqL X.K H a xs)(h':SqL X.K H a ys):xs=ys:=by
 obtain⟨its,r,⟨o,n,e,_,_,d⟩,_⟩:=I.list h;obtain⟨its',r',⟨o',n',e',_,_,d'⟩,_⟩:=I.list h';rw[e] at e';cases e';rw[d] at d';injection d' with d1 _
 have:its=its':=by simpa using congrArg Array.toList d1
 subst this;exact r.inj r'
def Inv.tuple_inj(I:Inv X pins σ H s)(h:SqT X.K H a xs)(h':SqT X.K H a ys):xs=ys:=by
 obtain⟨its,r,⟨o,e,_,n,d⟩,_⟩:=I.tuple h;obtain⟨its',r',⟨o',e',_,n',d'⟩,_⟩:=I.tuple h';rw[e] at e';cases e';rw[d] at d';injection d' with d1 _
 have:its=its':=by simpa using congrArg Array.toList d1
 subst this;exact r.inj r'
end
abbrev Cx.wish(X:Cx)(E:QqV):Cx:={ X with xe:=E }
abbrev Cx.nox(X:Cx):Cx:=X.wish λ_ _=>False
def Cx.Ok.wish{X:Cx}(ok:X.Ok)(E:QqV):(X.wish E).Ok:=
 ⟨ok.mod,ok.kind,ok.glob,ok.blt,ok.above,ok.inj,ok.has,ok.cab,ok.hd,ok.frames,ok.stk,ok.exf,ok.bs,ok.bsz,ok.noex,ok.exfs,ok.funs,ok.frf⟩
def Cx.Ok.unwish{X:Cx}{E:QqV}(ok:(X.wish E).Ok):X.Ok:=
 ⟨ok.mod,ok.kind,ok.glob,ok.blt,ok.above,ok.inj,ok.has,ok.cab,ok.hd,ok.frames,ok.stk,ok.exf,ok.bs,ok.bsz,ok.noex,ok.exfs,ok.funs,ok.frf⟩
section
variable {X:Cx}{pins:QqL}{σ:St}{H:Hp}{s:Shared}{E:QqV}
def Inv.wish(I:Inv X pins σ H s)(E:QqV):Inv (X.wish E) pins σ H s:=⟨I.ok.wish E,I.os,I.bare,I.base,I.loc,I.cell,I.free,I.freeC,I.pin,I.hok,I.len⟩
def Inv.unwish(I:Inv (X.wish E) pins σ H s):Inv X pins σ H s:=⟨I.ok.unwish,I.os,I.bare,I.base,I.loc,I.cell,I.free,I.freeC,I.pin,I.hok,I.len⟩
def SP.unwish(h:SP (X.wish E) pins D f s'):SP X pins D f s':=by
 cases f with
 |next=>obtain⟨σ',H',I,q⟩:=h;exact⟨σ',H',I.unwish,q⟩
 |brk=>obtain⟨σ',H',I,q⟩:=h;exact⟨σ',H',I.unwish,q⟩
 |cont=>obtain⟨σ',H',I,q⟩:=h;exact⟨σ',H',I.unwish,q⟩
 |ret u=>obtain⟨v,σ',H',I,r,q⟩:=h;exact⟨v,σ',H',I.unwish,r,q⟩
def PSs.nox{st:List Stmt}{t:TS}(h:PSs X.nox st t):PSs X st t:=λpins s σ H D I J=>
 wv (h pins s σ H D (I.wish _) J) (λ_ _ q=>q.unwish) λ_ _ z=>False.elim z
end
section
variable {X:Cx}{st:Stmt}{rest:List Stmt}{t u:TS}{e:Expr}{te:TE}{pos:Pos}
def xv2:TS:=λD σ H=>D.nx σ H
def xM5(t u:TS):TS:=λD σ H=>t { D with nx:=u D } σ H
def zr6:PSs X [] xv2:=λ_ _ σ H _ I h=>wpAny_execs_nil ⟨σ,H,I,h⟩
def Uj(h1:PS X st t)(J:PSs X rest u):PSs X (st::rest) (xM5 t u):=by
 intro pins s σ H D I h;refine wpAny_execs_cons (thn (h1 pins s σ H { D with nx:=u D } I h) λf s1 q=>?_)
 cases f with
 |next=>
  obtain⟨σ',H',I',q⟩:=q;exact J pins s1 σ' H' D I' q
 |ret v=>exact q
 |brk=>exact q
 |cont=>exact q
def zW3(h1:PS X st t):PSs X [st] t:=by
 intro pins s σ H D I h;refine wpAny_execs_cons (thn (h1 pins s σ H D I h) λf s1 q=>?_)
 cases f with
 |next=>exact wpAny_execs_nil q
 |ret v=>exact q
 |brk=>exact q
 |cont=>exact q
def Inv.quiet(I:Inv X pins σ H s):interactive X.env=false:=by simp[interactive,I.ok.kind]
def xv3(te:TE):TS:=λD σ H=>te σ H λ_ H1=>D.nx σ H1
def zr8(he:PE X e te)(hs:swapsWith e none pos.line X.env=pure false:=by rfl):PS X (.Expr e pos) (xv3 te):=by
 intro pins s σ H D I h;exact wpAny_Expr_any (thn (he pins s σ H _ I h) λv s1 ⟨x,H1,J,L,q1⟩=>⟨σ,H1,J,q1⟩) I.quiet hs
def xM6(te:TE):TS:=λD σ H=>te σ H D.rt
def zQ8(he:PE X e te):PS X (.Return (some e) pos) (xM6 te):=by
 intro pins s σ H D I h;exact wpAny_Return_some (thn (he pins s σ H _ I h) λv s1 ⟨x,H1,L,J,q1⟩=>⟨x,σ,H1,L,J,q1⟩)
def xN1(c:TT)(t u:TS):TS:=λD σ H=>c σ H λb H1=>if b=true then t D σ H1 else u D σ H1
def xC9{c:Expr}{a b:List Stmt}{tc:TT}(L:PT X c tc)(ha:PSs X a t)(O:PSs X b u):PS X (.If c a b pos) (xN1 tc t u):=by
 intro pins s σ H D I h;refine wpAny_If (thn (L pins s σ H _ I h) λd s1 ⟨H1,J,q1⟩=>?_)
 cases d with
 |true=>exact ha pins s1 σ H1 D J q1
 |false=>exact O pins s1 σ H1 D J q1
end
abbrev TG:=V->St->Hp->(St->Hp->Prop)->Prop
abbrev TGs:=List V->St->Hp->(St->Hp->Prop)->Prop
def PG(X:Cx)(target:Expr)(t:TG):Prop:=
 ∀(pins:QqL) (s:Shared) (σ:St) (H:Hp) (v:V) (u:Value) (Q:St->Hp->Prop),Inv X pins σ H s->RelV v u->t v σ H Q ->
  wpAny (model X.prog X.w) X.A (assign target X.env u) (λ_ s'=>∃σ' H',Inv X pins σ' H' s'/\Q σ' H') X.xe s
def PGs(X:Cx)(ts:List Expr)(t:TGs):Prop:=
 ∀(pins:QqL) (s:Shared) (σ:St) (H:Hp) (vs:List V) (us:QqW) (Q:St->Hp->Prop),Inv X pins σ H s->Vals vs us->t vs σ H Q ->
  wpAny (model X.prog X.w) X.A (assignInOrder ((assignEach ts X.env).map (·.2)) us) (λ_ s'=>∃σ' H',Inv X pins σ' H' s'/\Q σ' H') X.xe s
abbrev xF2:=V->V->V->Hp->(Hp->Prop)->Prop
def xL7(X:Cx)(t:xF2):Prop:=
 ∀(pins:QqL) (s:Shared) (σ:St) (H:Hp) (o i v:V) (J L u:Value) (Q:Hp->Prop),Inv X pins σ H s->RelV o J->RelV i L->RelV v u->t o i v H Q ->
  wpAny (model X.prog X.w) X.A (setItem J L u) (λ_ s'=>∃H',Inv X pins σ H' s'/\Q H') X.xe s
abbrev TIp:=V->V->Hp->VK->Prop
def PIp(X:Cx)(op:Operator)(t:TIp):Prop:=
 ∀(pins:QqL) (s:Shared) (σ:St) (H:Hp) (x y:V) (v u:Value) (Q:VK),Inv X pins σ H s->RelV x v->RelV y u->t x y H Q ->
  wpAny (model X.prog X.w) X.A (inplaceOp op v u) (EP X pins σ Q) X.xe s
section
variable {X:Cx}{pos:Pos}
def zN4(i:Nat):TG:=λv σ H Q=>Q (σ.set i (some v)) H
def zX0{i:Nat}(L:X.N.Nodup)(hi:X.N[i]?=some x)(hx:Loc X.env.scope x)(J:X.fn x=true\/X.env.scope.names.lookup x=some .local:=by first |exact .inl rfl |exact .inr rfl |assumption):PG X (.Name x pos) (zN4 i):=by
 intro pins s σ H v u Q I r h;exact wpAny_assign_Name (qd I L hi hx r (λs' I'=>⟨_,H,I',h⟩) J)
def xS3:TGs:=λvs σ H Q=>vs=[]/\Q σ H
def xE5(t:TG)(u:TGs):TGs:=λvs σ H Q=>∃v r,vs=v::r/\t v σ H λσ' H'=>u r σ' H' Q
def zW9:PGs X [] xS3:=by
 intro pins s σ H vs us Q I r h;obtain⟨e,h⟩:=h;subst e;cases r;exact assignInOrder_nil ⟨σ,H,I,h⟩
def zI8{e:Expr}{es:List Expr}{t:TG}{u:TGs}(h1:PG X e t)(O:PGs X es u)
  (hs:(assignEach (e::es) X.env).map (·.2)=assign e X.env::(assignEach es X.env).map (·.2):=by rfl):PGs X (e::es) (xE5 t u):=by
 intro pins s σ H vs us Q I r h;obtain⟨v,vr,Y,h⟩:=h;subst Y
 cases r with
 |cons r L=>
  rw[hs];refine assignInOrder_cons (thn (h1 pins s σ H _ _ _ I r h) λ_ s1 ⟨J,H1,I1,q1⟩=>?_);exact O pins s1 J H1 _ _ Q I1 L q1
def xS1(K:W.Frag)(n:Nat)(t:TGs):TG:=λv σ H Q=>∃a xs,v=.ref a/\SqT K H a xs/\xs.length=n/\t xs σ H Q
def xj2{k:Nat}{n:Nat}(hc:X.calm=true)(h:PGs X es t)
  (Y:(assignEach es X.env).length=n:=by rfl) (L:(assignEach es X.env).findIdx? (·.1)=none:=by rfl):PG X (.Tuple es k pos) (xS1 X.K n t):=by
 intro pins s σ H v u Q I r J;obtain⟨a,xs,e1,O,hl,J⟩:=J;subst e1;cases r;obtain⟨its,rv,ht,hz⟩:=I.tuple O
 refine assign_Tuple_tuple (I.ok.hd hc) ht (by simp[Y,<- hl,rv.length]) L λh' hx=>?_
 have I1:Inv X pins σ H { s with heap:=h' }:=I.kept (t':=s.toks) λb o e=>hx b o (zA (zt e)) e
 exact h pins _ σ H xs _ Q I1 (by simpa using rv) J
def xS2(to ti:TE)(t:xF2):TG:=λv σ H Q=>to σ H λo H1=>ti σ H1 λi H2=>t o i v H2 λJ=>Q σ J
def xj3{o i:Expr}{to ti:TE}{t:xF2}(ho:PE X o to)(hi:PE X i ti)(hs:xL7 X t)
  (ha : ∀ v, assign (.Subscript o i pos) X.env v = (do
   let J <- holding [v] (eval o X.env)
   let L <- holding [v,J] (eval i X.env)
   standAt pos
   holding [v,J,L] (setItem J L v)
   release [v,J,L] []):=by intro _;rfl):PG X (.Subscript o i pos) (xS2 to ti t):=by
 intro pins s σ H v u Q I r h;rw[ha];refine zb (xr (thn (ho pins s σ H _ I h) λJ s1 ⟨x,H1,I1,r1,q1⟩=>?_));refine zb (xr (thn (hi pins s1 σ H1 _ I1 q1) λL O ⟨y,H2,I2,Y,q2⟩=>?_));refine zb (wx (zb (xr (thn (hs pins O σ H2 x y v J L u _ I2 r1 Y r q2) λ_ s3 ⟨H3,I3,q3⟩=>?_))));exact wpAny_release ⟨σ,H3,I3,q3⟩
def xv7(te:TE)(g:TG):TS:=λD σ H=>te σ H λx H1=>g x σ H1 D.nx
def zd0{tg e:Expr}{te:TE}{g:TG}(he:PE X e te)(hg:PG X tg g)(hs:swapsWithSole [tg] e pos.line X.env=pure false:=by rfl)(L:swappedStores [tg] e X.env=pure none:=by rfl)
  (h1:(assignEach [tg] X.env).map (·.2)=[assign tg X.env]:=by rfl):PS X (.Assign [tg] e pos) (xv7 te g):=by
 intro pins s σ H D I h;refine wpAny_Assign_stores (thn (he pins s σ H _ I h) λv s1 ⟨x,H1,O,J,q1⟩=>?_) hs L;rw[h1];exact thn (hg pins s1 σ H1 x v _ O J q1) λ_ Y q=>q
def zc9{i:Nat}{x:Str}{e:Expr}{te:TE}{pos':Pos}(O:X.N.Nodup)(hi:X.N[i]?=some x)(hx:Loc X.env.scope x)(he:PE X e te)(hs:swapsWith e (some (.Name x pos')) pos.line X.env=pure false:=by rfl)(L:X.fn x=true\/X.env.scope.names.lookup x=some .local:=by first |exact .inl rfl |exact .inr rfl |assumption) :
  PS X (.Assign [.Name x pos'] e pos) (xv7 te (zN4 i)):=by
 intro pins s σ H D I h;refine wpAny_Assign_Name (thn (he pins s σ H _ I h) λv s1 ⟨y,H1,I1,J,q1⟩=>?_) hs;exact qd I1 O hi hx J (λs2 Y=>⟨_,H1,Y,q1⟩) L
def xM7(i j:Nat)(ta:TA):TS:=λD σ H=>ta σ H λvs H1=>∃v w,vs=[v,w]/\D.nx ((σ.set i (some v)).set j (some w)) H1
def zQ9{i j:Nat}{x y:Str}{a b:Expr}{ta:TA}{px py pt:Pos}{L O J}(hc:X.calm=true)(hN:X.N.Nodup)(hi:X.N[i]?=some x)(hj:X.N[j]?=some y)(Y:i≠j)
  (hx:X.env.scope.names.lookup x=some .local) (hy:X.env.scope.names.lookup y=some .local) (ha:PA X [a,b] ta)
  (hw:swappedStores [.Tuple [.Name x px,.Name y py] L pt] (.Tuple [a,b] O J) X.env=pure (some [x,y]))
  (hs:swapsWithSole [.Tuple [.Name x px,.Name y py] L pt] (.Tuple [a,b] O J) pos.line X.env=pure false:=by rfl) :
  PS X (.Assign [.Tuple [.Name x px,.Name y py] L pt] (.Tuple [a,b] O J) pos) (xM7 i j ta):=by
 intro pins s σ H D I h;rw[exec_Assign_arm];refine zb (wx ?_);rw[hs];refine zb (zd ?_)
 rw[if_neg q9]
 refine zb (Tuple_ (thn (ha _ pins s σ H _ I h) λus s1 ⟨vs,H1,I1,r1,q1⟩=>?_));obtain⟨v,w,e1,q1⟩:=q1;subst e1
 obtain⟨u1,u2,rfl,rv,rw'⟩:∃u1 u2,us=[u1,u2]/\RelV v u1/\RelV w u2:=by
  cases r1 with
  | cons p q =>
   cases q with
   |cons p' q'=>
    cases q';exact⟨_,_,rfl,p,p'⟩
 refine xl ?_ (by show 2<=sizeLine;decide)
 have I2:Inv X pins σ H1 { s1 with heap:=s1.heap.push { cls:=.type "tuple",data:=.seq [u1,u2].toArray } }:=I1.kept (t':=s1.toks) λb o e=>zh _ e;rw[hw];refine zb (zd ?_)
 show wpAny (model X.prog X.w) X.A (do rule "assign.swapped-stores";let items <- unpackItems (.ref s1.heap.objs.size) 2 none;assignInOrder [λv=>bindName X.env y v,λv=>bindName X.env x v] items.reverse;pure Flow.next) _ _ _
 refine zb (ye (zb (unpackItems_tuple (items:=#[u1,u2]) (I.ok.hd hc) (IsTup.new s1.heap _) λh' hx'=>?_)));have I3:=I2.kept (h':=h') (t':=s1.toks) λb o e=>hx' b o (zA (zt e)) e;show wpAny _ _ (assignInOrder [λv=>bindName X.env y v,λv=>bindName X.env x v] [u2,u1] >>= λ_=>pure Flow.next) _ _ _;refine zb (assignInOrder_cons (wpAny_bindName (qd I3 hN hj (.inl hy) rw' (λs2 I4=>?_) (.inr hy))));refine assignInOrder_cons (wpAny_bindName (qd I4 hN hi (.inl hx) rv (λs3 I5=>assignInOrder_nil (zd ?_)) (.inr hx)));rw[set_comm _ _ (Ne.symm Y)] at I5;exact⟨_,H1,I5,q1⟩
def xN4(i:Nat)(te:TE)(ti:TIp):TS:=λD σ H=>∃x,σ[i]?=some (some x)/\te σ H λy H1=>ti x y H1 λz H2=>D.nx (σ.set i (some z)) H2
def xi9{i:Nat}{x:Str}{e:Expr}{te:TE}{op:Operator}{ti:TIp}{pos':Pos}(hN:X.N.Nodup)(hi:X.N[i]?=some x)(hx:Loc X.env.scope x)(he:PE X e te)(ho:PIp X op ti)(hf:X.fn x=true\/X.env.scope.names.lookup x=some .local:=by first |exact .inl rfl |exact .inr rfl |assumption) :
  PS X (.AugAssign (.Name x pos') op e pos) (xN4 i te ti):=by
 intro pins s σ H D I h;obtain⟨v,e1,h⟩:=h;obtain⟨m,hn,hl⟩:=I.loc
 have L:Vis X.env.scope x:=by rcases hx with k |k;exact .inl k;exact .inr (.inl k)
 obtain⟨u,r,l⟩:=hl i x v hi e1 L;refine wpAny_AugAssign_Name ?_
 have go:wpAny (model X.prog X.w) X.A (eval e X.env) (λw Y=>wpAny (model X.prog X.w) X.A (inplaceOp op u w) (λr O=>wpAny (model X.prog X.w) X.A (storeName X.env x r) (λ_=>SP X pins D .next) X.xe O) X.xe Y) X.xe s:=by
  refine thn (he pins s σ H _ I h) λw s1 ⟨y,H1,I1,r1,q1⟩=>?_;refine thn (ho pins s1 σ H1 v y u w _ I1 r r1 q1) λz s2 ⟨zv,H2,I2,r2,q2⟩=>?_;exact qd I2 hN hi hx r2 (λs3 I3=>⟨_,H2,I3,q2⟩) hf
 rcases l with ⟨hk,hm⟩ |⟨hk,c,hc,J⟩
 ·exact wpAny_loadName_local I.ok.kind hk hn hm go
 ·rcases hk with hk | hk
  ·exact wpAny_loadName_cell I.ok.kind hk hc J go
  ·rcases hx with k | k
   ·have:X.env.scope.names.lookup x=some .free:=hk;rw[k] at this;cases this
   ·have:X.env.scope.names.lookup x=some .free:=hk;rw[k] at this;cases this
def ipI(f:Int->Int->Int):TIp:=λx y H Q=>∃i j,x=.int i/\y=.int j/\Q (.int (f i j)) H
def xo2:PIp X .Add (ipI λi j=>i+j):=by
 intro pins s σ H x y v u Q I L J h;obtain⟨i,j,Y,O,q⟩:=h;subst Y;subst O;obtain⟨t,rfl⟩:=L;obtain⟨t',rfl⟩:=J;exact iadd_int ⟨.int _,H,I.tok _,⟨_,rfl⟩,q⟩
def xe9(c:TT)(tb:TS):TS:=λD σ H=>∃W:Nat->St->Hp->Prop,(∃m,W m σ H)/\∀m σ H,W m σ H ->
 c σ H λb H1=>if b=true then ∃N:St->Hp->Prop,(∀σ' H',N σ' H'->∃m',m'<m/\W m' σ' H')/\tb { D with nx:=N,ct:=N,bk:=D.nx } σ H1 else D.nx σ H1
def zI6{c:Expr}{body:List Stmt}{tc:TT}{tb:TS}(hp:PassesOwn (model X.prog X.w) X.A X.env X.xe)(hc:PT X c tc)(hb:PSs X body tb):PS X (.While c body [] pos) (xe9 tc tb):=by
 intro pins s σ H D I h;obtain⟨W,⟨m0,w0⟩,turn⟩:=h;refine wpAny_While (codeAny_whileLoop (λn s'=>∃σ' H',Inv X pins σ' H' s'/\W n σ' H') ?_ m0 ⟨σ,H,I,w0⟩);rintro n s1 ⟨O,H1,I1,w1⟩;refine yt hp (thn (hc pins s1 O H1 _ I1 (turn n O H1 w1)) λb s2 ⟨H2,I2,q2⟩=>?_)
 cases b with
 | true =>
  obtain⟨N,hN,q2⟩:=q2;rw[if_pos rfl];refine yt hp (thn (hb pins s2 O H2 _ I2 q2) λf s3 Y=>?_)
  cases f with
  |next=>
   obtain⟨J,L,I3,n3⟩:=Y;obtain⟨m',hm,w3⟩:=hN J L n3;exact⟨m',hm,J,L,I3,w3⟩
  |cont=>
   obtain⟨J,L,I3,n3⟩:=Y;obtain⟨m',hm,w3⟩:=hN J L n3;exact⟨m',hm,J,L,I3,w3⟩
  |brk=>exact Y
  |ret v=>exact Y
 |false=>
  rw[if_neg zR];exact wpAny_execs_nil ⟨O,H2,I2,q2⟩
end
structure It where
 go:Nat->Hp->Prop
 yld:Nat->Hp->V->Hp->Prop
 stop:Nat->Hp->Prop
def FpOk(X:Cx)(pins:QqL)(H:Hp)(b:Addr):Prop:=
 H b=none/\b≠X.env.locals/\b ∉ X.fs/\(b∈X.ex\/X.s₀.heap.objs.size<=b)/\(∀x c,X.env.cells.lookup x=some c->c≠b)/\∀p∈X.pn++pins,p.1≠b
def Inv.fpOk(I:Inv X pins σ H s)(J:s.heap.objs.size<=b)(O:H' b=none):FpOk X pins H' b:=by
 refine⟨O,xQ (zX I.lt J),I.nofs J,.inr (zK I.sz J),λx c e z=>?_,λp L z=>?_⟩
 ·obtain ⟨v, q⟩ := I.cell x c e
  exact absurd (zX q.lt (by rw[z];exact J)) (xx _)
 ·exact absurd (zX (zt (I.pin p L).1) (by rw[z];exact J)) (xx _)
structure Turn(P:Program)(w:World)(K:W.Frag)(tg:Expr)(J:It)(fp:List Addr)(it:Addr)(tn:Nat->Heap->Prop):Prop where
 mem:it∈fp
 obj:∀i h,tn i h->∀b∈fp,∃o,h.get? b=some o/\∀v,o.data≠.cell v
 keep:∀i h h',tn i h->(∀b∈fp,∀o,h.get? b=some o->h'.get? b=some o)->tn i h'
 item:∀(X:Cx),X.prog=P->X.w=w->X.K=K->X.calm=true->∀(i:Nat) (pins:QqL) (s:Shared) (σ:St) (H:Hp) (E:QqV),Inv X pins σ H s->(∀b∈fp,FpOk X pins H b)->tn i s.heap->J.go i H ->
  wpAny (model P w) X.A (pyNext (.ref it)) (λr s1=>∃u,r=some u /\
   wpAny (model P w) X.A (letOwnedTupleGo tg (.ref it) u) (λ_ s2=>∃x H',Inv X pins σ H' s2/\RelV x u/\J.yld i H x H'/\tn (i+1) s2.heap/\∀b∈fp,H' b=none) E s1) E s
 done:∀(X:Cx),X.prog=P->X.w=w->X.K=K->X.calm=true->∀(i:Nat) (pins:QqL) (s:Shared) (σ:St) (H:Hp) (E:QqV),Inv X pins σ H s->(∀b∈fp,FpOk X pins H b)->tn i s.heap->J.stop i H ->
  wpAny (model P w) X.A (pyNext (.ref it)) (λr s1=>r=none/\Inv X pins σ H s1) E s
 self:∀(A:Around) (i:Nat) (s:Shared) (Q:QqV) (E:QqV),tn i s.heap->Q (.ref it) s->wpAny (model P w) A (pyIter (.ref it)) Q E s
abbrev TI:=St->Hp->(It->Hp->Prop)->Prop
def PIE(X:Cx)(pins:QqL)(σ:St)(tg:Expr)(R:It->Hp->Prop)(L:Value)(Y:Shared):Prop:=
 ∃(it:Addr) (fp:List Addr) (O:Nat->Heap->Prop) (J:It) (H':Hp),L=.ref it/\Inv X pins σ H' Y/\Turn X.prog X.w X.K tg J fp it O/\O 0 Y.heap/\(∀b∈fp,FpOk X pins H' b)/\R J H'
def PI(X:Cx)(tg iter:Expr)(wi:TI):Prop:=
 ∀(pins:QqL) (s:Shared) (σ:St) (H:Hp) (R:It->Hp->Prop),Inv X pins σ H s->wi σ H R ->
  wpAny (model X.prog X.w) X.A (eval iter X.env) (λv s1=>wpAny (model X.prog X.w) X.A (pyIter v) (PIE X pins σ tg R) X.xe s1) X.xe s
def xc1(ho:s.heap.get? it=some o)(O:o.cls=.type n)(hd:o.data=.fields vs)
    (L:["enumerate","zip","dict_itemiterator","dict_reverseitemiterator","odict_iterator","itertools.zip_longest","itertools.pairwise"].contains n=false) (J:Q () s):wpAny M A (letOwnedTupleGo tg (.ref it) u) Q E s:=by
  unfold letOwnedTupleGo
  cases tg <;> first
    |exact zd J
    |(cases u<;>first
        |exact zd J
        | (refine zb (wpAny_load ho ?_)
           rw[O,hd]
           show wpAny M A (if (["enumerate","zip","dict_itemiterator","dict_reverseitemiterator","odict_iterator","itertools.zip_longest","itertools.pairwise"].contains n&&vs[0]? == some (rawInt _))=true then _ else _) Q E s
           rw[if_neg (by intro h;rw[L,Bool.false_and] at h;cases h)]
           exact zd J))
def Itl(K:W.Frag)(a:Addr):It:=
 ⟨λi H=>∃xs x,SqL K H a xs/\xs[i]?=some x,λi H x H'=>H'=H/\∀xs,SqL K H a xs->xs[i]?=some x,λi H=>∃xs,SqL K H a xs/\xs.length<=i⟩
def Itt(K:W.Frag)(a:Addr):It:=
 ⟨λi H=>∃xs x,SqT K H a xs/\xs[i]?=some x,λi H x H'=>H'=H/\∀xs,SqT K H a xs->xs[i]?=some x,λi H=>∃xs,SqT K H a xs/\xs.length<=i⟩
def Itr(lo:Int)(n:Nat):It:=⟨λi _=>i<n,λi H x H'=>H'=H/\x=.int (lo+i),λi _=>n<=i⟩
def zo1{P:Program}{w:World}{K:W.Frag}{tg:Expr}(a it:Addr):Turn P w K tg (Itl K a) [it] it (λi h=>h.IsListIter it a i) where
 mem:=by simp
 obj:=λi h st b J=>by
  have e:b=it:=by simpa using J
  subst e;obtain⟨o,e,c,d⟩:=st
  exact⟨o,e,λv z=>by rw[d] at z;cases z⟩
 keep:=λi h h' st k=>st.at λo e=>k it (by simp) o e
 item:=by
  intro X hP Y hK hc i pins s σ H E I O st hg;subst hP Y hK;obtain⟨xs,x,L,hx⟩:=hg;obtain⟨its,rv,p,hz⟩:=I.list L;obtain⟨u,hu,ru⟩:=rv.get hx
  obtain⟨f0,f1,f2,f3,f4,f5⟩:=O it (by simp)
  refine wpAny_pyNext_list_item st p.isList (x:=u) (by simpa using hu) λh' st' sb=>?_
  have I1:Inv X pins σ H { s with heap:=h' }:=I.turned (t':=s.toks) (λb o J e=>(sb.2 b J).trans e) f0 f1 f3 f4 f5;obtain⟨o,e,c,d⟩:=id st'
  exact⟨u,rfl,xc1 (s:={ s with heap:=h' }) e c d q9 ⟨x,H,I1,ru,⟨rfl,λys hy=>by rw[I.list_inj hy L];exact hx⟩,st',λb J=>(O b J).1⟩⟩
 done:=by
  intro X hP Y hK hc i pins s σ H E I O st hg;subst hP Y hK;obtain⟨xs,L,hx⟩:=hg;obtain⟨its,rv,p,hz⟩:=I.list L
  obtain⟨f0,f1,f2,f3,f4,f5⟩:=O it (by simp)
  have hl:=rv.length
  exact wpAny_pyNext_list_end (I.ok.hd hc) st p.isList (by simp;lia) λh' eb=>⟨rfl,I.turned (t':=s.toks) (λb o J e=>eb b o J e) f0 f1 f3 f4 f5⟩
 self:=λ_ _ _ _ _ st h=>wpAny_pyIter_listiter st h
def zh6{P:Program}{w:World}{K:W.Frag}{tg:Expr}(a it:Addr):Turn P w K tg (Itt K a) [it] it (λi h=>h.IsTupleIter it a i) where
 mem:=by simp
 obj:=λi h st b J=>by
  have e:b=it:=by simpa using J
  subst e;obtain⟨o,e,c,d⟩:=st
  exact⟨o,e,λv z=>by rw[d] at z;cases z⟩
 keep:=λi h h' st k=>st.at λo e=>k it (by simp) o e
 item:=by
  intro X hP Y hK hc i pins s σ H E I O st hg;subst hP Y hK;obtain⟨xs,x,L,hx⟩:=hg;obtain⟨its,rv,p,hz⟩:=I.tuple L;obtain⟨u,hu,ru⟩:=rv.get hx
  obtain⟨f0,f1,f2,f3,f4,f5⟩:=O it (by simp)
  refine wpAny_pyNext_tuple_item st (show s.heap.IsTuple a its.toArray from p) (x:=u) (by simpa using hu) λh' st' sb=>?_
  have I1:Inv X pins σ H { s with heap:=h' }:=I.turned (t':=s.toks) (λb o J e=>(sb.2 b J).trans e) f0 f1 f3 f4 f5;obtain⟨o,e,c,d⟩:=id st'
  exact⟨u,rfl,xc1 (s:={ s with heap:=h' }) e c d q9 ⟨x,H,I1,ru,⟨rfl,λys hy=>by rw[I.tuple_inj hy L];exact hx⟩,st',λb J=>(O b J).1⟩⟩
 done:=by
  intro X hP Y hK hc i pins s σ H E I O st hg;subst hP Y hK;obtain⟨xs,L,hx⟩:=hg;obtain⟨its,rv,p,hz⟩:=I.tuple L
  obtain⟨f0,f1,f2,f3,f4,f5⟩:=O it (by simp)
  have hl:=rv.length
  exact wpAny_pyNext_tuple_end (I.ok.hd hc) st (show s.heap.IsTuple a its.toArray from p) (by simp;lia) λh' eb=>⟨rfl,I.turned (t':=s.toks) (λb o J e=>eb b o J e) f0 f1 f3 f4 f5⟩
 self:=λ_ _ _ _ _ st h=>wpAny_pyIter_tupleiter st h
def zh7{P:Program}{w:World}{K:PySem.W.Frag}{tg:Expr}(it:Addr)(lo:Int)(n:Nat):Turn P w K tg (Itr lo n) [it] it (λi h=>IsRangeIter h it (lo+(i:Nat)*1) ((n:Int)-(i:Nat)) 1) where
 mem:=by simp
 obj:=λi h st b J=>by
  have e:b=it:=by simpa using J
  subst e
  exact⟨_,st,λv z=>by
   have z':Data.fields _=Data.cell v:=z
   cases z'⟩
 keep:=λi h h' st k=>k it (by simp) _ st
 item:=by
  intro X hP O hK Y i pins s σ H E I L st hg;subst hP O hK
  obtain⟨f0,f1,f2,f3,f4,f5⟩:=L it (by simp)
  have W:=Walks.range (prog:=X.prog) (w:=X.w) (I.ok.hd Y) it lo 1 n;refine W.item i s _ _ hg st λv h' tk hv st' kk=>?_;obtain⟨t,rfl⟩:=hv
  have I1:Inv X pins σ H { s with heap:=h',toks:=tk }:=I.turned (λb o J e=>kk b o (by simpa using J) e) f0 f1 f3 f4 f5
  refine⟨_,rfl,xc1 (s:={ s with heap:=h',toks:=tk }) (n := "range_iterator") st' rfl rfl q9 ⟨.int (lo+i),H,I1,⟨t,?_⟩,⟨rfl,rfl⟩,st',λb J=>(L b J).1⟩⟩
  rw[Int.mul_one]
 done:=by
  intro X hP O hK Y i pins s σ H E I L st hg;subst hP O hK
  obtain⟨f0,f1,f2,f3,f4,f5⟩:=L it (by simp)
  exact wpAny_pyNext_range_end (I.ok.hd Y) st (by have:n<=i:=hg;lia) λh' eb=>⟨rfl,I.turned (t':=s.toks) (λb o J e=>eb b o J e) f0 f1 f3 f4 f5⟩
 self:=λ_ _ _ _ _ st h=>wpAny_pyIter_rangeiter st h
section
variable {X:Cx}{tg:Expr}
def zH7{lo hi:Int}{tk:Nat}(I:Inv X pins σ H s)(h1:-(2^62)<=lo)(Y:lo<2^62)(O:-(2^62)<=hi)(h4:hi<2^62)
  (q:R (Itr lo (hi-lo).toNat) H):wpAny (model X.prog X.w) X.A (pyIter (.ref s.heap.objs.size)) (PIE X pins σ tg R) E { s with heap:=s.heap.push { cls:=.type "range",data:=.fields #[.int lo t,.int hi u,.int 1 v] },toks:=tk }:=by
 refine wpAny_pyIter_range (IsRange.new ..) (small_one h1 Y O h4) ?_;have J:Inv X pins σ H { s with heap:=s.heap.push { cls:=.type "range",data:=.fields #[.int lo t,.int hi u,.int 1 v] },toks:=tk }:=I.kept λb o e=>zh _ e
 refine⟨(s.heap.push { cls:=.type "range",data:=.fields #[.int lo t,.int hi u,.int 1 v] }).objs.size,[(s.heap.push { cls:=.type "range",data:=.fields #[.int lo t,.int hi u,.int 1 v] }).objs.size],_,_,H,rfl,
  J.kept (t':=tk) λb o e=>zh _ e,zh7 _ lo (hi-lo).toNat,?_,λb L=>?_,q⟩
 ·have e1 : lo + ((0 : Nat) : Int) * 1 = lo := by simp
  have e2:(((hi-lo).toNat:Nat):Int)-((0:Nat):Int)=Builtin.Range.rangeSize lo hi 1:=by rw[rangeSize_one];split<;>lia
  show IsRangeIter _ _ (lo+((0:Nat):Int)*1) ((((hi-lo).toNat:Nat):Int)-((0:Nat):Int)) 1;rw[e1,e2];exact zr _ rfl
 ·have e : b = (s.heap.push { cls := .type "range", data := .fields #[.int lo t, .int hi u, .int 1 v] }).objs.size := by simpa using L
  subst e;exact J.fpOk (zo _) (J.hok.fresh (zo _))
def xE4(ta:TA):TI:=λσ H R=>ta σ H λvs H1=>∃j:Int,vs=[.int j]/\-(2^62)<=j/\j<2^62/\R (Itr 0 j.toNat) H1
def zs2{a:Expr}{ta:TA}{p pos:Pos}(hg:Gl X "range")(Y:X.mg "range" = none)(ha:PA X [a] ta)(hs:starEach [a] X.env=[(false,eval a X.env)]:=by rfl):PI X tg (.Call (.Name "range" p) [a] [] pos) (xE4 ta):=by
 intro pins s σ H R I h;refine Call_ (Jg I hg Y boot_range (PyProof.Rows.callWith_type1 (thn (ha pos pins s σ H _ I h) λus s1 ⟨vs,H1,I1,L,q1⟩=>?_) hs rfl));obtain⟨j,e,q1,O,q⟩:=q1;subst e
 cases L with
 |cons r J=>
  cases J;obtain⟨t,rfl⟩:=r
  exact call_range_1 (zH7 I1 q5 q5 q1 O (by simpa using q))
def xN2(wi:TI)(g:TG)(tb:TS):TS:=λD σ H=>wi σ H λJ H1=>∃W:Nat->Nat->St->Hp->Prop,(∃m,W 0 m σ H1)/\∀i m σ H,W i m σ H ->
 (J.stop i H/\D.nx σ H)\/(J.go i H/\∃N:St->Hp->Prop,(∀σ' H',N σ' H'->∃m',m'<m/\W (i+1) m' σ' H')/\∀x H',J.yld i H x H'->g x σ H' λL H2=>tb { D with nx:=N,ct:=N,bk:=D.nx } L H2)
def YR(fp:List Addr)(h:Heap):List (Addr × Obj):=fp.filterMap λb=>(h.get? b).map λo=>(b,o)
def kI(J:b∈fp)(e:h.get? b=some o):(b,o)∈YR fp h:=List.mem_filterMap.mpr ⟨b,J,by rw[e];rfl⟩
def XT(J:p∈YR fp h):p.1∈fp/\h.get? p.1=some p.2:=by
 obtain⟨b,L,e⟩:=List.mem_filterMap.mp J
 cases q:h.get? b with
 |none=>rw[q] at e;cases e
 |some o=>
  rw[q] at e;have e':(b,o)=p:=zP e;subst e';exact⟨L,q⟩
def Inv.pinned(I:Inv X pins σ H s)(O:∀b∈fp,FpOk X pins H b)(ho:∀b∈fp,∃o,s.heap.get? b=some o/\∀v,o.data≠.cell v):Inv X (pins++YR fp s.heap) σ H s:=
 I.pins_of λp L=>(xi.mp L).elim (λz=>I.pin p (zL _ z)) λz=>by
  obtain⟨J,e⟩:=XT z;obtain⟨f0,f1,Y,_⟩:=O p.1 J;obtain⟨o,e',d⟩:=ho p.1 J;rw[e] at e';cases e';exact⟨e,f0,f1,Y,d⟩
def Inv.unpinned(I:Inv X (pins++pl) σ H s):Inv X pins σ H s:=I.pins_of λp J=>I.pin p (zL _ (xv _ J))
def xi8{iter:Expr}{body:List Stmt}{wi:TI}{g:TG}{tb:TS}{pos:Pos}(hp:PassesOwn (model X.prog X.w) X.A X.env X.xe)(hc:X.calm=true)(hi:PI X tg iter wi)(hg:PG X tg g)(Y:PSs X body tb)
  (hs:∀x,foldedSetIterable iter X.env x=pure x:=by intro _;rfl):PS X (.For tg iter body [] pos) (xN2 wi g tb):=by
 intro pins s σ H D I h;refine wpAny_For (thn (hi pins s σ H _ I h) λv s1 h1=>thn h1 λah s2 h2=>?_) hs;obtain⟨it,fp,tn,J,H2,e,I2,T,af,f2,W,⟨m0,w0⟩,turn⟩:=h2;subst e;have O:∀{H':Hp},(∀b∈fp,H' b=none)->∀b∈fp,FpOk X pins H' b:=λhn b Y=>⟨hn b Y,(f2 b Y).2⟩;refine codeAny_forLoop_any (λn s'=>∃i σ' H',Inv X pins σ' H' s'/\tn i s'.heap/\(∀b∈fp,H' b=none)/\W i n σ' H') ?_ m0 ⟨0,σ,H2,I2,af,λb Y=>(f2 b Y).1,w0⟩;rintro n s3 ⟨i,σ3,H3,I3,ad,ae,w3⟩
 rcases turn i n σ3 H3 w3 with ⟨stop,qn⟩ |⟨go,N,hN,step⟩
 ·refine yt hp (thn (T.done X rfl rfl rfl hc i pins s3 σ3 H3 X.xe I3 (O ae) ad stop) λr s4 ⟨hr,I4⟩=>?_);subst hr;exact wpAny_execs_nil ⟨σ3,H3,I4,qn⟩
 ·refine yt hp (thn (T.item X rfl rfl rfl hc i pins s3 σ3 H3 X.xe I3 (O ae) ad go) λr s4 ⟨u, hr, h4⟩ => ?_);subst hr;refine yt hp (thn h4 λ_ s5 ⟨x,H5,I5,r5,y5,aa,ag⟩=>?_);have I5':=I5.pinned (O ag) (T.obj _ _ aa);refine yt hp (thn (hg _ s5 σ3 H5 x u _ I5' r5 (step x H5 y5)) λ_ s6 ⟨σ6,H6,I6,q6⟩=>?_);refine yt hp (thn (Y _ s6 σ6 H6 _ I6 q6) λf s7 q7=>?_)
  have again:∀{L:St}{H7:Hp},Inv X (pins++YR fp s5.heap) L H7 s7->N L H7->∃m,m<n/\∃i σ' H',Inv X pins σ' H' s7/\tn i s7.heap/\(∀b∈fp,H' b=none)/\W i m σ' H':=λ{L H7} I7 n7=>by
   obtain⟨m',hm,w7⟩:=hN L H7 n7;refine⟨m',hm,i+1,L,H7,I7.unpinned,T.keep _ _ _ aa λb Y o e=>(I7.pin (b,o) (zL _ (zL _ (kI Y e)))).1,λb Y=>?_,w7⟩;obtain⟨o,e,d⟩:=T.obj _ _ aa b Y;exact(I7.pin (b,o) (zL _ (zL _ (kI Y e)))).2.1
  cases f with
  |next=>obtain⟨L,H7,I7,n7⟩:=q7;exact again I7 n7
  |cont=>obtain⟨L,H7,I7,n7⟩:=q7;exact again I7 n7
  |brk=>obtain⟨L,H7,I7,q7⟩:=q7;exact⟨L,H7,I7.unpinned,q7⟩
  |ret v=>obtain⟨x7,L,H7,I7,r7,q7⟩:=q7;exact⟨x7,L,H7,I7.unpinned,r7,q7⟩
end
abbrev R2:=V->V->Hp->VK->Prop
def OpR(X:Cx)(f:Value->Value->Sem Value)(r:R2):Prop:=
 ∀(pins:QqL) (s:Shared) (σ:St) (H:Hp) (x y:V) (v u:Value) (Q:VK),Inv X pins σ H s->RelV x v->RelV y u->r x y H Q ->
  wpAny (model X.prog X.w) X.A (f v u) (EP X pins σ Q) X.xe s
def UnR(X:Cx)(f:Value->Sem Value)(r:V->Hp->VK->Prop):Prop:=
 ∀(pins:QqL) (s:Shared) (σ:St) (H:Hp) (x:V) (v:Value) (Q:VK),Inv X pins σ H s->RelV x v->r x H Q ->
  wpAny (model X.prog X.w) X.A (f v) (EP X pins σ Q) X.xe s
def kG(X:Cx)(f:Value)(r:List V->Hp->VK->Prop):Prop:=
 ∀(pins:QqL) (s:Shared) (σ:St) (H:Hp) (xs:List V) (us:QqW) (Q:VK),Inv X pins σ H s->Vals xs us->r xs H Q ->
  wpAny (model X.prog X.w) X.A (call f us) (EP X pins σ Q) X.xe s
def tOp(r:R2)(ta tb:TE):TE:=λσ H Q=>ta σ H λx H1=>tb σ H1 λy H2=>r x y H2 Q
def tUn(r:V->Hp->VK->Prop)(ta:TE):TE:=λσ H Q=>ta σ H λx H1=>r x H1 Q
def rI(C:Int->Int->Prop)(g:Int->Int->V):R2:=λx y H Q=>∃i j,x=.int i/\y=.int j/\C i j/\Q (g i j) H
def rI0(g:Int->Int->V):R2:=λx y H Q=>∃i j,x=.int i/\y=.int j/\Q (g i j) H
def rU(g:Int->V):V->Hp->VK->Prop:=λx H Q=>∃i,x=.int i/\Q (g i) H
section
variable {X:Cx}{a b c:Expr}{ta tb tc:TE}{pos:Pos}
def xE9(ha:PE X a ta)(hb:PE X b tb){pins:QqL}{s:Shared}{σ:St}{H:Hp}{R:V->V->Hp->Prop}(I:Inv X pins σ H s)
  (h:ta σ H λx H1=>tb σ H1 λy H2=>R x y H2) {Q:QqV}{f:Value->Value->Sem Value}
  (hf:∀v u J x y H2,Inv X pins σ H2 J->RelV x v->RelV y u->R x y H2->wpAny (model X.prog X.w) X.A (f v u) Q X.xe J) :
  wpAny (model X.prog X.w) X.A (eval a X.env) (λv O=>wpAny (model X.prog X.w) X.A (eval b X.env) (λu L=>wpAny (model X.prog X.w) X.A (f v u) Q X.xe L) X.xe O) X.xe s:=by
 refine thn (ha pins s σ H _ I h) λv s1 ⟨x,H1,I1,r1,q1⟩=>?_;refine thn (hb pins s1 σ H1 _ I1 q1) λu J ⟨y,H2,I2,Y,q2⟩=>?_;exact hf v u J x y H2 I2 r1 Y q2
def xD1(ho:OpR X (binaryOp op) r)(ha:PE X a ta)(Y:PE X b tb):PE X (.BinOp a op b pos) (tOp r ta tb):=by
 intro pins s σ H Q I h;exact wpAny_BinOp (xE9 ha Y I h λv u J x y H2 I2 O L q=>ho pins J σ H2 x y v u Q I2 O L q)
def xD0{op:UnaryOp}{r:V->Hp->VK->Prop}(ho:UnR X (unaryOp op) r)(ha:PE X a ta):PE X (.UnaryOp op a pos) (tUn r ta):=by
 intro pins s σ H Q I h;exact UnaryOp_ (thn (ha pins s σ H _ I h) λv s1 ⟨x,H1,L,J,q1⟩=>ho pins s1 σ H1 x v Q L J q1)
def opI{f:Value->Value->Sem Value}{C:Int->Int->Prop}{g:Int->Int->Int}
  (rule:∀(i j:Int) (t u:Tok) (s:Shared) (Q:QqV) (E:QqV),C i j->Q (.int (g i j) s.toks) { s with toks:=s.toks+1 }->wpAny (model X.prog X.w) X.A (f (.int i t) (.int j u)) Q E s) :
  OpR X f (rI C λi j=>.int (g i j)):=by
 intro pins s σ H x y v u Q I L J h;obtain⟨i,j,rfl,rfl,O,q⟩:=h;obtain⟨t,rfl⟩:=L;obtain⟨t',rfl⟩:=J;exact rule i j t t' s _ _ O ⟨.int (g i j),H,I.tok _,⟨_,rfl⟩,q⟩
def xK6{f:Value->Value->Sem Value}{g:Int->Int->Int}
  (rule:∀(i j:Int) (t u:Tok) (s:Shared) (Q:QqV) (E:QqV),Q (.int (g i j) s.toks) { s with toks:=s.toks+1 }->wpAny (model X.prog X.w) X.A (f (.int i t) (.int j u)) Q E s) :
  OpR X f (rI0 λi j=>.int (g i j)):=by
 intro pins s σ H x y v u Q I L J h;obtain⟨i,j,rfl,rfl,q⟩:=h;obtain⟨t,rfl⟩:=L;obtain⟨t',rfl⟩:=J;exact rule i j t t' s _ _ ⟨.int (g i j),H,I.tok _,⟨_,rfl⟩,q⟩
def xD5{f:Value->Value->Sem Value}{g:Int->Int->Bool}
  (rule:∀(i j:Int) (t u:Tok) (s:Shared) (Q:QqV) (E:QqV),Q (.bool (g i j)) s->wpAny (model X.prog X.w) X.A (f (.int i t) (.int j u)) Q E s) :
  OpR X f (rI0 λi j=>.bl (g i j)):=by
 intro pins s σ H x y v u Q I L J h;obtain⟨i,j,rfl,rfl,q⟩:=h;obtain⟨t,rfl⟩:=L;obtain⟨t',rfl⟩:=J;exact rule i j t t' s _ _ ⟨.bl (g i j),H,I,rfl,q⟩
def xM1(i j:Int):Prop:=0<j/\j<1073741824
def xM0(i j:Int):Prop:=0<=j/\j<=1000000/\i.natAbs<2^64
def CMul(i j:Int):Prop:=(-(2^64)<i/\i<2^64)\/(-(2^64)<j/\j<2^64)
def CMul.ok{i j:Int}(h:CMul i j):IntMulOk i j:=by
 rcases h with ⟨h1,J⟩ |⟨h1,J⟩
 ·exact .of_left (intBits_le_64 h1 J)
 ·exact .of_right (intBits_le_64 h1 J)
def xl3:OpR X (binaryOp .Add) (rI0 λi j=>.int (i+j)):=xK6 λ_ _ _ _ _ _ _ q=>add_int q
def xk8:OpR X (binaryOp .Sub) (rI0 λi j=>.int (i-j)):=xK6 λ_ _ _ _ _ _ _ q=>sub_int q
def xl0:OpR X (binaryOp .Mult) (rI CMul λi j=>.int (i*j)):=opI λ_ _ _ _ _ _ _ J q=>mul_int q J.ok
def zY1:OpR X (binaryOp .FloorDiv) (rI xM1 λi j=>.int (i/j)):=opI λi j _ _ _ _ _ J q=>by
 have h1:(0:Int)<j:=J.1;have L:j<1073741824:=J.2
 exact floordiv_int q5 (by rw[Int.fdiv_eq_ediv_of_nonneg i q5];exact q) (.inl (PyProof.noPylong_small q5))
def xl1:OpR X (binaryOp .Mod) (rI (λ_ j=>0<j) λi j=>.int (i%j)):=opI λi j _ _ _ _ _ J q=>by
 have h1:(0:Int)<j:=J
 exact mod_int' q5 (by rw[Int.fmod_eq_emod_of_nonneg i q5];exact q)
def xk9:OpR X (binaryOp .Pow) (rI xM0 λi j=>.int (i^j.toNat)):=opI λ_ _ _ _ _ _ _ J q=>pow_int_small J.1 J.2.1 J.2.2 q
def unI{f:Value->Sem Value}{g:Int->Int}
  (rule:∀(i:Int) (t:Tok) (s:Shared) (Q:QqV) (E:QqV),Q (.int (g i) s.toks) { s with toks:=s.toks+1 }->wpAny (model X.prog X.w) X.A (f (.int i t)) Q E s) :
  UnR X f (rU λi=>.int (g i)):=by
 intro pins s σ H x v Q I J h;obtain⟨i,rfl,q⟩:=h;obtain⟨t,rfl⟩:=J;exact rule i t s _ _ ⟨.int (g i),H,I.tok _,⟨_,rfl⟩,q⟩
def xe8:UnR X (unaryOp .USub) (rU λi=>.int (-i)):=unI λ_ _ _ _ _ q=>neg_int q
end
def xF8:V->V->Bool
 |.non,.non=>true |.non,.int _=>true |.int _,.non=>true |.non,.bl _=>true |.bl _,.non=>true |.non,.str _=>true |.str _,.non=>true
 |.int _,.int _=>true |.bl _,.bl _=>true |.str _,.str _=>true |.byt _,.byt _=>true
 |.int _,.str _=>true |.str _,.int _=>true |.bl _,.str _=>true |.str _,.bl _=>true
 |_,_=>false
def rEq:R2:=λx y H Q=>xF8 x y=true/\Q (.bl (decide (x=y))) H
def xc9{i j:Int}:decide (V.int i=V.int j)=(i == j):=by
 rw[xW];simp
def xp7{i j:Bool}:decide (V.bl i=V.bl j)=(i == j):=by
 rw[xW];simp
def xc8:decide (V.str i=V.str j)=(i == j):=by
 rw[xW];simp
def xd0:decide (V.byt i=V.byt j)=(i.toList == j.toList):=by
 rw[xW];cases i;cases j;simp
section
variable {X:Cx}{a b c:Expr}{ta tb tc:TE}{pos:Pos}
def ki{k k':Bool}(I:Inv X pins σ H s)(q:Q (.bl k) H)(e:k=k'):EP X pins σ Q (.bool k') s:=by
 subst e;exact⟨.bl k,H,I,rfl,q⟩
def WJ:OpR X (compareOp .Eq) rEq:=by
 intro pins s σ H x y v u Q I L J h;obtain⟨hs,q⟩:=h
 cases x with
 |non=>
  cases L
  cases y with
  |non=>cases J;exact PySem.EqNone.eq_none_none (ki I q (by simp))
  |bl j=>cases J;exact PySem.EqNone.eq_none_bool (ki I q (by simp))
  |int j=>obtain⟨t',rfl⟩:=J;exact PySem.EqNone.eq_none_int (ki I q (by simp))
  |str j=>obtain⟨t',rfl⟩:=J;exact PySem.EqNone.eq_none_str (ki I q (by simp))
  |_=>exact absurd (show false=true from hs) zR
 |bl i=>
  cases L
  cases y with
  |non=>cases J;exact PySem.EqNone.eq_bool_none (ki I q (by simp))
  |bl j=>cases J;exact eq_bool (ki I q xp7)
  |str j=>obtain⟨t',rfl⟩:=J;exact PySem.EqMixed.eq_bool_str (ki I q (by simp))
  |_=>exact absurd (show false=true from hs) zR
 |int i=>
  obtain⟨t,rfl⟩:=L
  cases y with
  |non=>cases J;exact PySem.EqNone.eq_int_none (ki I q (by simp))
  |int j=>obtain⟨t',rfl⟩:=J;exact eq_int (ki I q xc9)
  |str j=>obtain⟨t',rfl⟩:=J;exact PySem.EqMixed.eq_int_str (ki I q (by simp))
  |_=>exact absurd (show false=true from hs) zR
 |str i=>
  obtain⟨t,rfl⟩:=L
  cases y with
  |non=>cases J;exact PySem.EqNone.eq_str_none (ki I q (by simp))
  |bl j=>cases J;exact PySem.EqMixed.eq_str_bool (ki I q (by simp))
  |int j=>obtain⟨t',rfl⟩:=J;exact PySem.EqMixed.eq_str_int (ki I q (by simp))
  |str j=>obtain⟨t',rfl⟩:=J;exact eq_str (ki I q xc8)
  |_=>exact absurd (show false=true from hs) zR
 |byt i=>
  obtain⟨t,rfl⟩:=L
  cases y with
  |byt j=>obtain⟨t',rfl⟩:=J;exact W.eq_bytes (ki I q xd0)
  |_=>exact absurd (show false=true from hs) zR
 |_=>cases y<;>exact absurd (show false=true from hs) zR
def zK0:OpR X (compareOp .Lt) (rI0 λi j=>.bl (decide (i<j))):=xD5 λ_ _ _ _ _ _ _ q=>lt_int q
def YZ:OpR X (compareOp .Gt) (rI0 λi j=>.bl (decide (j<i))):=xD5 λ_ _ _ _ _ _ _ q=>gt_int q
def xD4:OpR X (compareOp .GtE) (rI0 λi j=>.bl (decide (j<=i))):=xD5 λ_ _ _ _ _ _ _ q=>ge_int q
def kB:OpR X (compareOp .Is) (λx y H Q=>y=.non/\Q (.bl (decide (x=.non))) H):=by
 intro pins s σ H x y v u Q I J L h;obtain⟨rfl,q⟩:=h;cases L;refine is_none_gen (ki I q ?_)
 cases x<;>first
  |(cases J;rfl)
  |(obtain⟨t,rfl⟩:=J;rfl)
def jv:OpR X (compareOp .IsNot) (λx y H Q=>y=.non/\Q (.bl (!decide (x=.non))) H):=by
 intro pins s σ H x y v u Q I J L h;obtain⟨rfl,q⟩:=h;cases L;refine isnot_none_gen (ki I q ?_)
 cases x<;>first
  |(cases J;rfl)
  |(obtain⟨t,rfl⟩:=J;rfl)
def wg(b:Expr)(h:op≠.In:=by decide)(J:op≠.NotIn:=by decide):behindInMarks op b=false:=by
 have O:(op == CmpOp.In)=false:=by cases op<;>first |rfl |exact absurd rfl h
 have L:(op == CmpOp.NotIn)=false:=by cases op<;>first |rfl |exact absurd rfl J
 cases b<;>simp[behindInMarks,O,L]
def zX6(ho:OpR X (compareOp op) r)(ha:PE X a ta)(hb:PE X b tb)(Y:behindInMarks op b=false):PE X (.Compare a [op] [b] pos) (tOp r ta tb):=by
 intro pins s σ H Q I h;exact wpAny_Compare1 (xE9 ha hb I h λv u J x y H2 I2 O L q=>ho pins J σ H2 x y v u Q I2 O L q) Y
def xf0(t:TE):TT:=λσ H Q=>t σ H λx H'=>∃k,x=.bl k/\Q k H'
def zr5{op:CmpOp}{r:R2}(ho:OpR X (compareOp op) r)(ha:PE X a ta)(hb:PE X b tb)(hm:behindInMarks op b=false):PT X (.Compare a [op] [b] pos) (xf0 (tOp r ta tb)):=by
 intro pins s σ H Q I h
 refine wpAny_isTrue_Compare1 (thn (ha pins s σ H _ I h) λv s1 ⟨x,H1,I1,Y,q1⟩=>thn (hb pins s1 σ H1 _ I1 q1) λu J ⟨y,H2,I2,O,q2⟩=>
  thn (ho pins J σ H2 x y v u _ I2 Y O q2) λc s3 ⟨z,H3,I3,L,k,e,q3⟩=>?_) hm
 subst e;cases L;exact wK ⟨H3,I3,q3⟩
def Vn:(sizeLine:Nat)<2^63:=by rw[sizeLine_eq];decide
def ZH(r:Vals [x] us):∃u,us=[u]/\RelV x u:=by
 cases r with
 |cons L J=>cases J;exact⟨_,rfl,L⟩
def zT6(r:Vals [x,y] us):∃u w',us=[u,w']/\RelV x u/\RelV y w':=by
 cases r with
 |cons Y O=>
  cases O with
  |cons L J=>cases J;exact⟨_,_,rfl,Y,L⟩
def zg2:kG X (.builtin "abs") (λxs H Q=>∃i,xs=[.int i]/\Q (.int (if i<0 then -i else i)) H):=by
 intro pins s σ H xs us Q I r h;obtain⟨i,rfl,q⟩:=h;obtain⟨u,rfl,t,rfl⟩:=ZH r
 exact call_abs_int λu tk=>⟨.int (if i<0 then -i else i),H,I.tok _,⟨_,rfl⟩,q⟩
def JC(L:X.calm=true):kG X (.builtin "max") (λxs H Q=>∃i j,xs=[.int i,.int j]/\Q (.int (if j > i then j else i)) H):=by
 intro pins s σ H xs us Q I r h;obtain⟨i,j,rfl,q⟩:=h;obtain⟨u,w',rfl,⟨t,rfl⟩,⟨t',rfl⟩⟩:=zT6 r;refine max_two_ints (I.ok.hd L) λh' tk k=>⟨_,H,I.kept k,?_,q⟩
 by_cases J:j > i
 ·rw[if_pos J,if_pos J];exact⟨_,rfl⟩
 ·rw[if_neg J,if_neg J];exact⟨_,rfl⟩
def Jz(L:X.calm=true):kG X (.builtin "min") (λxs H Q=>∃i j,xs=[.int i,.int j]/\Q (.int (if j<i then j else i)) H):=by
 intro pins s σ H xs us Q I r h;obtain⟨i,j,rfl,q⟩:=h;obtain⟨u,w',rfl,⟨t,rfl⟩,⟨t',rfl⟩⟩:=zT6 r;refine min_two_ints (I.ok.hd L) λh' tk k=>⟨_,H,I.kept k,?_,q⟩
 by_cases J:j<i
 ·rw[if_pos J,if_pos J];exact⟨_,rfl⟩
 ·rw[if_neg J,if_neg J];exact⟨_,rfl⟩
def Wz:kG X (.type "int") (λxs H Q=>(∃i,xs=[.int i]/\Q (.int i) H)\/∃k,xs=[.bl k]/\Q (.int (if k then 1 else 0)) H):=by
 intro pins s σ H xs us Q I r h
 rcases h with ⟨i,rfl,q⟩ |⟨k,rfl,q⟩
 ·obtain⟨u,rfl,t,rfl⟩:=ZH r;exact call_int_int ⟨.int i,H,I,⟨_,rfl⟩,q⟩
 ·obtain ⟨u, rfl, J⟩ := ZH r;cases J
  exact call_int_bool ⟨.int (if k then 1 else 0),H,I.tok _,⟨_,rfl⟩,q⟩
end
section
variable {prog:Program}{w:World}{A:Around}{E:QqV}{s:Shared}{K:W.Frag}{x dx C f:Addr}{mA:QqM}{name:Str}{v:Value}
end
def RelO.some_of(r:RelO (some v) o):∃u,o=some u/\RelV v u:=by
 cases o with
 |none=>exact(show False from r).elim
 |some u=>exact⟨u,rfl,r⟩
section
variable {P:Program}{w:World}{H H':Hp}{h h':Heap}{a C dx:Addr}{fs fs':List (Str × V)}
end
section
variable {X:Cx}{pins:QqL}{σ:St}{H:Hp}{s:Shared}{a C dx:Addr}{fs:List (Str × V)}{f:Str}{v:V}{A:Around}{E:QqV}
end
section
variable {X:Cx}{o e value:Expr}{f:Str}{pos pos' tpos:Pos}{ta tv:TE}
end
section
variable {X:Cx}{pins:QqL}{σ:St}{H:Hp}{s:Shared}{A:Around}{E:QqV}{Q:QqV}{c:Value}{b:Bool}
end
structure Room(k:Nat)(A:Around):Prop where
 hd:A.handled=none
 dp:A.depth+3*k+5<recursionLimit
 un:A.units+16*k+200<cLine
 gd:A.guards=some []
def Room.mono{j k:Nat}(r:Room k A)(h:j<=k):Room j A:=⟨r.hd,by have:=r.dp;lia,by have:=r.un;lia,r.gd⟩
def Room.deeper{k:Nat}(r:Room (k+1) A)(env:Env):Room k (A.deeper env):=
 ⟨r.hd,by have:=r.dp;show A.depth+1+3*k+5<_;lia,by have:=r.un;show A.units+3+16*k+200<_;lia,r.gd⟩
def Room.in1{k:Nat}(r:Room (k+1) A):Room k A.in1:=
 ⟨r.hd,by have:=r.dp;show A.depth+3*k+5<_;lia,by have:=r.un;show A.units+1+16*k+200<_;lia,r.gd⟩
def Room.depth{k:Nat}(r:Room k A):A.depth<recursionLimit:=by have:=r.dp;lia
def Room.units{k:Nat}(r:Room k A):A.units+64<cLine:=by have:=r.un;lia
def xM9:TA:=λ_ H Q=>Q [] H
def xv5(ta:TE)(tr:TA):TA:=λσ H Q=>ta σ H λx H1=>tr σ H1 λxs H2=>Q (x::xs) H2
section
variable {X:Cx}{e:Expr}{es:List Expr}{te:TE}{t:TA}{pos:Pos}
def jZ:PA X [] xM9:=λ_ _ _ _ H Q I h=>Calls.spliced_nil ⟨[],H,I,.nil,h⟩
def qh(ha:PE X e te)(Y:PA X es t)(hs:starEach (e::es) X.env=(false,eval e X.env)::starEach es X.env:=by rfl):PA X (e::es) (xv5 te t):=by
 intro pos pins s σ H Q I h;rw[hs];show wpAny _ _ (spliced ((false,eval e X.env)::backTo pos (starEach es X.env))) _ _ s;refine Calls.spliced_cons (thn (ha pins s σ H _ I h) λu s1 ⟨x,H1,I1,L,q1⟩=>?_);exact thn (Y pos pins s1 σ H1 _ I1 q1) λus s2 ⟨xs,H2,I2,J,O⟩=>⟨x::xs,H2,I2,.cons L J,O⟩
def xM4(t:TA):TE:=λσ H Q=>t σ H λxs H1=>xs.length<=sizeLine/\∀p,H1 p=none->Q (.ref p) (upd H1 p (.tup xs))
def xN0(t:TA):TE:=λσ H Q=>t σ H λxs H1=>xs.length<=sizeLine/\∀p,H1 p=none->Q (.ref p) (upd H1 p (.lst xs))
def zR1{L}(h:PA X es t):PE X (.Tuple es L pos) (xM4 t):=by
 intro pins s σ H Q I O
 refine wpAny_Tuple_spliced (thn (h pos pins s σ H _ I O) λus s1 ⟨xs,H1,J,r,z,q⟩=>⟨by rw[<- r.length];exact z,?_⟩)
 have Y:H1 s1.heap.objs.size=none:=J.hok.fresh (zo _);refine⟨.ref s1.heap.objs.size,upd H1 s1.heap.objs.size (.tup xs),J.laid (t':=s1.toks) (λb u e=>zh _ e) (zo _) ?_,rfl,q _ Y⟩;exact⟨z,us,r,⟨_,zr _ rfl,rfl,_,rfl⟩⟩
def Kz(h:PA X es t):PE X (.List es pos) (xN0 t):=by
 intro pins s σ H Q I L
 refine wpAny_List_spliced (thn (h pos pins s σ H _ I L) λus s1 ⟨xs,H1,J,r,z,q⟩=>⟨by rw[<- r.length];exact z,?_⟩)
 have O:H1 s1.heap.objs.size=none:=J.hok.fresh (zo _);refine⟨.ref s1.heap.objs.size,upd H1 s1.heap.objs.size (.lst xs),J.laid (t':=s1.toks) (λb u e=>zh _ e) (zo _) ?_,rfl,q _ O⟩;exact⟨z,us,0,r,zr _ rfl⟩
end
abbrev Sp:=List V->Hp->VK->XK->Prop
abbrev CXT:=List Env->Hp->Shared->XK->Value->Shared->Prop
structure Env0(P:Program)(w:World)(K:W.Frag)(mg:QqM)(base:Heap)(A:Around)(outer:List Env)(s:Shared)(H:Hp):Prop where
 frames:A.frames=some outer
 mod:Mod K mg base
 bs:∀b o,base.get? b=some o->s.heap.get? b=some o/\H b=none
 bsz:base.objs.size<=s.heap.objs.size
 funs:s.heap.FunFrames base outer
 frf:∀b∈frs outer,H b=none
 hok:HOk P w H s.heap
 bare:AllBare s.gens
def CE(outer:List Env)(P:Program)(w:World)(H:Hp)(s:Shared)(Q:VK)(u:Value)(s':Shared):Prop:=
 ∃v H',s'.os=s.os/\AllBare s'.gens/\Un (frs outer) [] H H' s.heap s'.heap/\HOk P w H' s'.heap/\RelV v u/\Q v H'
def CR(CX:CXT)(outer:List Env)(P:Program)(w:World)(H:Hp)(s:Shared)(Q:VK)(E:XK)(r:Result)(s':Shared):Prop:=
 match r with
 |.ok (.ret u)=>CE outer P w H s Q u s'
 |.ok _=>False
 |.error e=>CX outer H s E e s'
structure FnOk(P:Program)(w:World)(K:W.Frag)(mg:QqM)(base:Heap)(CX:CXT)(k:Nat)(f:Addr)(fd:FuncData)(ps:List Str)(sp:Sp):Prop where
 len:∀vs H Q E,sp vs H Q E->vs.length=ps.length
 run:∀(A:Around) (outer:List Env) (s:Shared) (H:Hp) (args:Args) (us:QqW) (vs:List V) (Q:VK) (E:XK),Room k A->Env0 P w K mg base A outer s H->BindsTo s fd args (ps.zip us)->Vals vs us->sp vs H Q E ->
  codeAny (model P w) A (.call (.ref f) args) (CR CX outer P w H s Q E) s
section
variable {X:Cx}{pins:QqL}{σ:St}{H:Hp}{s s':Shared}
def Inv.env0(I:Inv X pins σ H s):Env0 X.prog X.w X.K X.mg X.base X.A X.stack s H:=
 ⟨I.ok.frames,I.ok.mod,I.bs,zK I.ok.bsz I.sz,I.stack,I.stkFree,I.hok,I.bare⟩
def Inv.after(I:Inv X pins σ H s)(h:CE X.stack X.prog X.w H s Q u s'):EP X pins σ Q u s':=by
 obtain⟨v,H',os,bare,un,hok,r,q⟩:=h;obtain⟨J,g,d,t,os'⟩:=s';obtain rfl:os'=s.os:=os
 exact⟨v,H',I.call (h':=J) (g':=g) (d':=d) (t':=t) (ch:=[]) un hok bare (λb z=>absurd z (by simp)),r,q⟩
end
def xv6(sp:Sp)(J:List V)(E:XK)(t:TA):TE:=λσ H Q=>t σ H λvs H1=>sp (vs++J) H1 Q E
def Binds(K:W.Frag)(fd:FuncData)(ps:List Str)(ds:QqW):Prop:=
 ∀(s:Shared) (us:QqW),K.In s.heap->(us++ds).length=ps.length->BindsTo s fd ⟨us,[]⟩ (ps.zip (us++ds))
def Binds.all{K:W.Frag}{fd:FuncData}{ps:List Str}(h:∀us:List Value,us.length=ps.length->bindArgs fd ⟨us,[]⟩=pure (ps.zip us)):Binds K fd ps []:=λs us _ J=>by
 rw[yh] at J ⊢;exact .of_eq (h us J)
def zE4(CX:CXT)(X:Cx)(E:XK):Prop:=∀(pins:QqL) (σ:St) (H:Hp) (s:Shared) (e:Value) (s':Shared),Inv X pins σ H s->CX X.stack H s E e s'->X.xe e s'
section
variable {X:Cx}{CX:CXT}{k:Nat}{f C:Addr}{fd:FuncData}{ps:List Str}{sp:Sp}{dvs:List V}{ds:QqW}{E:XK}{x m:Str}{p pos apos:Pos}{e o:Expr}{es:List Expr}{ta:TE}{t:TA}
def xg5(F:FnOk X.prog X.w X.K X.mg X.base CX k f fd ps sp)(O:Room k X.A)(hb:Binds X.K fd ps ds)(hd:Vals dvs ds)(hx:zE4 CX X E)
  (I:Inv X pins σ H s) (r:Vals vs us) (h:sp (vs++dvs) H Q E):wpAny (model X.prog X.w) X.A (call (.ref f) us) (EP X pins σ Q) X.xe s:=by
 have L:Vals (vs++dvs) (us++ds):=r.append hd
 have Y:(us++ds).length=ps.length:=by rw[<- L.length];exact F.len _ _ _ _ h
 refine wpAny_call (codeAny_mono (F.run X.A X.stack s H ⟨us,[]⟩ (us++ds) (vs++dvs) Q E O I.env0 (hb s us I.kIn Y) L h) λr s' J=>?_)
 cases r with
 |error e=>exact hx pins σ H s e s' I J
 |ok fl=>
  cases fl with
  |ret u=>exact I.after J
  |next=>exact False.elim J
  |brk=>exact False.elim J
  |cont=>exact False.elim J
def Ul(F:FnOk X.prog X.w X.K X.mg X.base CX k f fd ps sp)(Y:Room k X.A)(hg:Gl X x)(hm:X.mg x=some (.ref f))(hk:W.keepIn X.K (.ref f)=true)(hb:Binds X.K fd ps ds)(hd:Vals dvs ds)(hx:zE4 CX X E)
  (ha:PA X (e::es) t) (L:(x == ("__debug__" : Str))=false:=by decide) (he:starEach (e::es) X.env=(false,eval e X.env)::starEach es X.env:=by rfl) (J:(backTo pos (starEach es X.env)).any (·.1)=false:=by rfl) :
  PE X (.Call (.Name x p) (e::es) [] pos) (xv6 sp dvs E t):=by
 intro pins s σ H Q I h;refine wpAny_Call_Name_kw (zw9 I hg hm ?_ L);refine W.callWith_K (h₀:=X.base) I.ok.mod.kin hk (thn (ha pos pins s σ H _ I h) λus s1 ⟨vs,H1,O,r,q⟩=>⟨O.kIn,?_⟩) he J;exact xg5 F Y hb hd hx O r q
end
section
variable {X:Cx}{CX:CXT}{k:Nat}{f C:Addr}{fd:FuncData}{ps ks:List Str}{sp:Sp}{E:XK}{x m:Str}{p pos apos kpos:Pos}{e o:Expr}{es:List Expr}{kws:List Keyword}{te ta:TE}{t tk:TA}{nm:Option Str}
variable {g:List Value->List Value->List Value}{gV:List V->List V->List V}
end
structure FnScope(N P:List Str)(sc:Scope):Prop where
 kind:sc.kind=.function
 co:sc.isCoroutine=false
 gen:sc.isGenerator=false
 nd:N.Nodup
 pre:N.take P.length=P
 par:∀x∈P,sc.names.lookup x=some .local\/sc.names.lookup x=some .cell
 nofree:∀y∈sc.names,y.2≠.free
theorem JG{kindOf:Str->Option NameKind}{x:Str}:∀{binds:List (Str × Value)}{m:QqM},(∀v,(x,v) ∉ binds)->bindL kindOf binds m x=m x
 |[],_,_=>rfl
 | (n, v) :: r, m, h => by
  unfold bindL;rw[JG λw J=>h w (zn _ J)]
  split
  ·have : x ≠ n := by rintro rfl; exact h v xf
   simp[this]
  ·rfl
theorem JI{kindOf:Str->Option NameKind}{x:Str}:∀{binds:List (Str × Value)}{m:QqM},(∀v,(x,v) ∉ binds)->bindC kindOf binds m x=m x
 |[],_,_=>rfl
 | (n, v) :: r, m, h => by
  unfold bindC;rw[JI λw J=>h w (zn _ J)]
  split
  ·rfl
  ·have : x ≠ n := by rintro rfl; exact h v xf
   simp[this]
def JH{kindOf:Str->Option NameKind}{x:Str}{v:Value}:∀{P:List Str}{vs:QqW}{i:Nat}{m:QqM},P.Nodup->P[i]?=some x->vs[i]?=some v->kindOf x=some .local ->
  bindL kindOf (P.zip vs) m x=some v
 |[],_,_,_,_,h,_,_=>by simp at h
 |_::_,[],_,_,_,_,h,_=>by simp at h
 |p::P,w::vs,0,m,nd,h1,J,hk=>by
  simp at h1 J;subst h1;subst J;show bindL kindOf ((p,w)::P.zip vs) m p=_;unfold bindL;rw[JG λv L=>(xC.mp nd).1 (of_mem_zip L).1,if_pos hk];simp
 |p::P,w::vs,i+1,m,nd,h1,J,hk=>by
  show bindL kindOf ((p,w)::P.zip vs) m x=_;unfold bindL
  exact JH (i:=i) (xC.mp nd).2 (by simpa using h1) (by simpa using J) hk
def JJ{kindOf:Str->Option NameKind}{x:Str}{v:Value}:∀{P:List Str}{vs:QqW}{i:Nat}{m:QqM},P.Nodup->P[i]?=some x->vs[i]?=some v->kindOf x≠some .local ->
  bindC kindOf (P.zip vs) m x=some v
 |[],_,_,_,_,h,_,_=>by simp at h
 |_::_,[],_,_,_,_,h,_=>by simp at h
 |p::P,w::vs,0,m,nd,h1,J,hk=>by
  simp at h1 J;subst h1;subst J;show bindC kindOf ((p,w)::P.zip vs) m p=_;unfold bindC;rw[JI λv L=>(xC.mp nd).1 (of_mem_zip L).1,if_neg hk];simp
 |p::P,w::vs,i+1,m,nd,h1,J,hk=>by
  show bindC kindOf ((p,w)::P.zip vs) m x=_;unfold bindC
  exact JJ (i:=i) (xC.mp nd).2 (by simpa using h1) (by simpa using J) hk
def start(N:List Str)(vs:List V):St:=vs.map some++replicate (N.length-vs.length) none
def zF1(CX:CXT)(P:Program)(w:World)(K:W.Frag)(mg:QqM)(base:Heap)(N:List Str)(J:Str)(scope:Scope)(f:Addr)(L:Value)(A:Around)(outer:List Env)(s:Shared)(H:Hp)(E:XK):Cx where
 prog:=P
 w:=w
 K:=K
 mg:=mg
 base:=base
 A:=A.deeper (envOfC J scope s.heap.objs.size f L)
 N:=N
 s₀:=s
 H₀:=H
 env:=envOfC J scope s.heap.objs.size f L
 outer:=outer
 stack:=envOfC J scope s.heap.objs.size f L::outer
 ex:=[]
 calm:=true
 fn:=λ_=>true
 pn:=[]
 xe:=λe s'=>wpAny (model P w) (A.deeper (envOfC J scope s.heap.objs.size f L)) (leaving (envOfC J scope s.heap.objs.size f L) e) (λ_ s''=>CX outer H s E e s'') (λe' s''=>CX outer H s E e' s'') s'
def zf9{sc:Scope}{n:Nat}{x:Str}(h:sc.names.lookup x=some .cell):∃c,(cellsFrom n sc.names []).lookup x=some c:=by
 have q:=W.cellsFrom_some sc.names n [] (.inl h);exact Option.isSome_iff_exists.mp q
def zy3{CX:CXT}{P:Program}{w:World}{K:W.Frag}{mg:QqM}{base:Heap}{N ps:List Str}{J:Str}{scope:Scope}{f:Addr}{cd:Value}{A:Around}{outer:List Env}{s s1:Shared}{H:Hp}{E:XK}{us:QqW}{vs:List V}
  (S:FnScope N ps scope) (hd:A.handled=none) (e0:Env0 P w K mg base A outer s H) (hl:vs.length=ps.length) (r:Vals vs us)
  (x:InCallC s s.heap.objs.size (bindL (envOfC J scope s.heap.objs.size f cd).kindOf (ps.zip us) λ_=>none) (cellsFrom (s.heap.objs.size+1) scope.names []) (bindC (envOfC J scope s.heap.objs.size f cd).kindOf (ps.zip us) λ_=>none) s1) :
  Inv (zF1 CX P w K mg base N J scope f cd A outer s H E) [] (start N vs) H s1:=by
 have ad:ps.length<=N.length:=by have:=congrArg List.length S.pre;rw[yi] at this;lia
 obtain⟨h1,tk,rfl,hk⟩:=x.done
 have O:∀b:Addr,b ∉ (zF1 CX P w K mg base N J scope f cd A outer s H E).ex:=λb z=>absurd (show b∈([]:List Addr) from z) (by simp)
 refine⟨⟨e0.mod,S.kind,rfl,rfl,zo _,λy z c h1 L=>?_,λy Y=>?_,λy c _ h=>?_,λ_=>hd,Around.frames_deeper e0.frames,.inr ⟨rfl,rfl⟩,λb z=>absurd z (O b),e0.bs,e0.bsz,λb _ _=>O b,λb z=>absurd z (O b),e0.funs,e0.frf⟩,
  rfl,e0.bare,Un.kept hk,⟨_,x.toInCall.ns,λi y v h1 L h3=>?_⟩,λy c h=>⟨_,x.cell y c h⟩,e0.hok.fresh (zo _),λy c h=>?_,λp hp=>absurd (show p∈([]:QqL) from hp) (by simp),e0.hok.kept hk,?_⟩
 ·exact name_of_addr x.apart (PySem.mem_of_lookup h1) (PySem.mem_of_lookup L)
 ·have Y : scope.names.lookup y = some .cell \/ scope.names.lookup y = some .free := Y
  rcases Y with Y |Y
  ·exact zf9 Y
  ·exact absurd rfl (S.nofree _ (PySem.mem_of_lookup Y))
 ·exact yv (x.above y c (PySem.mem_of_lookup h))
 ·have hi : i < vs.length := by
   unfold start at L
   by_cases hi:i<vs.length
   ·exact hi
   ·rw [xN (by simpa using hi)] at L
    rw[xt] at L
    split at L<;>cases L
  have ha:vs[i]?=some v:=by
   unfold start at L
   rw[wq (by simpa using hi),zw] at L
   cases e:vs[i]? with
   |none=>rw[e] at L;cases L
   |some a=>rw[e] at L;cases L;rfl
  obtain⟨u,hu,rv⟩:=r.get ha
  have hp:ps[i]?=some y:=by
   rw[<- S.pre,List.getElem?_take_of_lt q5];exact h1
  have aa:ps.Nodup:=by rw[<- S.pre];exact S.nd.sublist (yA _ _)
  refine⟨u,rv,?_⟩
  rcases S.par y (zM hp) with k |k
  ·exact .inl ⟨k,JH aa hp hu k⟩
  ·obtain ⟨c, e⟩ := zf9 (n := s.heap.objs.size + 1) k;refine .inr ⟨.inl k,c,e,?_⟩;have q:=x.cell y c e
   rw[JJ aa hp hu (by show scope.names.lookup y≠_;rw[k];decide)] at q
   exact q
 ·exact e0.hok.fresh (yv (x.above y c (PySem.mem_of_lookup h)))
 ·unfold start;show _=N.length;rw[zu,zg,wA];lia
def xo9{CX:CXT}{P:Program}{w:World}{K:W.Frag}{mg:QqM}{base:Heap}{k:Nat}{f:Addr}{name L:Str}{Y:Arguments}{body:List Stmt}{scope:Scope}{dV kV af pm O ct oc:Value}{an od:QqE}
  {ag:Array (Option Value)}{N ps:List Str}{sp:Sp} (lk:K.lookup f=some ⟨oc,od,.func (W.fnOf name L Y body scope dV kV af pm an O ct),ag⟩) (ai:W.codeIn K O L=true) (S:FnScope N ps scope)
  (len:∀vs H Q E,sp vs H Q E->vs.length=ps.length)
  (ad : ∀ (A : Around) (outer : List Env) (s : Shared) (H : Hp) (vs : List V) (Q : VK) (E : XK), Room k (A.deeper (envOfC L scope s.heap.objs.size f O)) -> sp vs H Q E ->
   ∃t,PSs (zF1 CX P w K mg base N L scope f O A outer s H E) body t/\t { nx:=λ_ H'=>Q .non H',rt:=Q } (start N vs) H) :
  FnOk P w K mg base CX (k+1) f (W.fnOf name L Y body scope dV kV af pm an O ct) ps sp:=by
 refine⟨len,λA outer s H args us vs Q E hr e0 hb r ae=>?_⟩;have hl:=len _ _ _ _ ae;have KX:K.In s.heap:=e0.mod.kin.keeps λb o e=>(e0.bs b o e).1;have ah:s.heap.NoLimit:=e0.mod.nolimit.keeps λb o e=>(e0.bs b o e).1
 have aa:∀y∈ps.zip us,scope.names.lookup y.1=some .local\/(scope.names.lookup y.1=some .cell/\((cellsFrom (s.heap.objs.size+1) scope.names []).lookup y.1).isSome=true):=fun⟨n,v⟩ hy=>by
  rcases S.par n (of_mem_zip hy).1 with q |q
  ·exact .inl q
  ·exact .inr ⟨q,W.cellsFrom_some _ _ _ (.inl q)⟩
 refine codeAny_call_function hr.depth (KX _ _ lk) rfl S.co S.gen rfl (W.codeRec_of KX ai) (hb _ _ _ _ ?_);refine wpAny_newFunctionEnv_cells S.kind aa λenv he s1 x=>?_;subst he;refine⟨ah.keeps x.toInCall.keep,codeAny_func ?_⟩;obtain⟨t,ht,hq⟩:=ad A outer s H vs Q E (hr.deeper _) ae;have I:Inv (zF1 CX P w K mg base N L scope f O A outer s H E) [] (start N vs) H s1:=zy3 S hr.hd e0 hl r x;refine wv (ht [] s1 (start N vs) H _ I hq) (λfl s' hs=>?_) λe s' hs=>hs
 have fin:∀{σ':St}{H':Hp}{v:V}{u:Value},Inv (zF1 CX P w K mg base N L scope f O A outer s H E) [] σ' H' s'->RelV v u->Q v H'->CE outer P w H s Q u s':=
  λ{σ' H' v u} J rv q=>⟨v,H',J.os,J.bare,J.base,J.hok,rv,q⟩
 cases fl with
 |ret u=>
  obtain⟨v,σ',H',J,rv,q⟩:=hs;exact fin J rv q
 |next=>
  obtain⟨σ',H',J,q⟩:=hs;exact fin (v:=V.non) (u:=Value.none) J rfl q
 |brk=>
  obtain⟨_,_,_,q⟩:=hs;exact False.elim q
 |cont=>
  obtain⟨_,_,_,q⟩:=hs;exact False.elim q
section
variable {X:Cx}{x:Str}{p pos:Pos}{e:Expr}{es:List Expr}{t:TA}{id T:String}{r:List V->Hp->VK->Prop}
def tCB(r:List V->Hp->VK->Prop)(t:TA):TE:=λσ H Q=>t σ H λvs H1=>r vs H1 Q
def Uk(hc:kG X (.builtin id) r)(hg:Gl X x)(hm:X.mg x=none)(Y:bootBuiltins x=some (.builtin id))(ha:PA X (e::es) t)(hn:x ≠ "__name__" := by decide)(L:(x == ("__debug__" : Str))=false:=by decide)
  (he:starEach (e::es) X.env=(false,eval e X.env)::starEach es X.env:=by rfl) (J:(backTo pos (starEach es X.env)).any (·.1)=false:=by rfl):PE X (.Call (.Name x p) (e::es) [] pos) (tCB r t):=by
 intro pins s σ H Q I h;refine wpAny_Call_Name_kw (Jg I hg hm Y ?_ hn L);exact PyProof.Rows.callWith_builtin1 (thn (ha pos pins s σ H _ I h) λus s1 ⟨vs,H1,I1,O,q1⟩=>hc pins s1 σ H1 vs us Q I1 O q1) he J
def KC(hc:kG X (.type T) r)(hg:Gl X x)(hm:X.mg x=none)(Y:bootBuiltins x=some (.type T))(ha:PA X (e::es) t)(hn:x ≠ "__name__" := by decide)(L:(x == ("__debug__" : Str))=false:=by decide)
  (he:starEach (e::es) X.env=(false,eval e X.env)::starEach es X.env:=by rfl) (J:(backTo pos (starEach es X.env)).any (·.1)=false:=by rfl):PE X (.Call (.Name x p) (e::es) [] pos) (tCB r t):=by
 intro pins s σ H Q I h;refine wpAny_Call_Name_kw (Jg I hg hm Y ?_ hn L);exact PyProof.Rows.callWith_type1 (thn (ha pos pins s σ H _ I h) λus s1 ⟨vs,H1,I1,O,q1⟩=>hc pins s1 σ H1 vs us Q I1 O q1) he J
end
end L2
namespace HT
open PySem PyProof.Rows
def kD:List Int->List Int->Bool
 |[],[]=>false
 |[],_::_=>true
 |_::_,[]=>false
 |x::xs,y::ys=>if x=y then kD xs ys else decide (x<y)
def qq(x y:Int)(xs ys:List Int):kD (x::xs) (y::ys)=if x=y then kD xs ys else decide (x<y):=rfl
def Ux:kD [] []=false:=rfl
def WQ(y:Int)(ys:List Int):kD [] (y::ys)=true:=rfl
def WR(x:Int)(xs:List Int):kD (x::xs) []=false:=rfl
def zN8(A:Around)(s:Shared)(a:Int)(t:Tok)(c:Int)(u:Tok):∃e,SeqAt.EqAt A s (.int a t) (.int c u) e/\(e=true↔a=c):=
 ⟨(a == c),SeqAt.EqAt.int_int a t c u,by simp⟩
def zH6(A:Around)(s:Shared)(a:Int)(t:Tok)(c:Int)(u:Tok)(prog:Program)(w:World)(E:QqV)(Q:QqV)(h:Q (.bool (decide (a<c))) s) :
  wpAny (model prog w) A (richCompare .Lt (.int a t) (.int c u)) Q E s:=
 (PyProof.Rows.lt_int h:wpAny (model prog w) A (compareOp .Lt (.int a t) (.int c u)) Q E s)
section
open PySem.SeqAt
open PySem.AutoSeq1 (wpAny_loadPart')
open PySem.MeetsSeq PySem.MeetsSeq2 PySem.MeetsSeq3
def VE(l b:Addr)(items items2:Array Value)(n n2:Nat)(dd ah:QqE)(sl ae:Array (Option Value))(ns ms:List Int)(hi:IntsAre items.toList ns)(hj:IntsAre items2.toList ms) :
  Meets (Builtin.«tuple.__lt__» ⟨[.ref l,.ref b],[]⟩)
   (λ_ R s => s.heap.get? l = some { cls := .type "tuple", dict := dd, data := .seq items n, slots := sl } /\ s.heap.get? b = some { cls := .type "tuple", dict := ah, data := .seq items2 n2, slots := ae } /\
    R (.ok (.ret (.bool (kD ns ms)))) s):=
 .of_wp λprog w A R s h=>by
  obtain⟨hp,g,d,tk,os⟩:=s;obtain⟨hl,hb,h⟩:=h;have f2:=AutoSeq1.sub_tuple_tuple
  have z1:items.size=ns.length:=by rw[<- hi.length];simp
  have z2:items2.size=ms.length:=by rw[<- hj.length];simp
  wp_walk using wpAny_loadPart' hl,wpAny_loadPart' hb,wpAny_forIn_list _ (λrest b s'=>b.1=none/\s'=⟨hp,g,d,tk,os⟩/\∃(vs ws:QqW) (ns' ms':List Int),rest=vs.zip ws /\
   IntsAre vs ns'/\IntsAre ws ms'/\ns'.length+items2.size=ms'.length+items.size/\R (.ok (.ret (.bool (kD ns' ms')))) ⟨hp,g,d,tk,os⟩) _
  case turn=>
   rintro⟨y,x⟩ rest b s' ⟨hb',rfl,vs,ws,ns',ms',hz,aa,L,J,Y⟩
   cases aa with
   |nil=>rw[List.zip_nil_left] at hz;cases hz
   | cons a t hvi' =>
    cases L with
    |nil=>rw[List.zip_nil_right] at hz;cases hz
    | cons c u hwi' =>
     rw[wX] at hz;injection hz with af ad;injection af with hy hx;subst hy hx;rw[qq] at Y;simp only[zJ] at J;obtain⟨e,he,O⟩:=zN8 A.in1 ⟨hp,g,d,tk,os⟩ a t c u;refine zb (he prog w _ _ ?_)
     cases e with
     |true=>
      rw[if_pos (O.mp rfl)] at Y
      wp_walk
      exact⟨rfl,rfl,_,_,_,_,ad,hvi',hwi',q5,Y⟩
     |false=>
      rw[if_neg (λq=>absurd (O.mpr q) zR)] at Y;have ag:=zH6 A.in1 ⟨hp,g,d,tk,os⟩ a t c u prog w
      wp_walk using ag
      exact⟨_,rfl,by simpa using Y⟩
  case fin=>
   rintro⟨b1,b2⟩ s' ⟨hb',rfl,vs,ws,ns',ms',hz,aa,L,J,Y⟩;simp only at hb';subst hb'
   have hv:kD ns' ms'=decide (items.size<items2.size):=by
    cases aa with
    | nil =>
     cases L with
     |nil=>
      simp only[length_nil] at J;rw[Ux]
      exact(zN q5).symm
     |cons c u hw=>
      simp only[length_nil,zJ] at J;rw[WQ]
      exact(xh q5).symm
    | cons a t hv =>
     cases L with
     |nil=>
      simp only[length_nil,zJ] at J;rw[WR]
      exact(zN q5).symm
     |cons c u hw=>
      rw[wX] at hz;cases hz
   rw[hv] at Y
   wp_walk
   exact⟨_,rfl,by simpa [Builtin.Tuple.tupleCompareSizes] using Y⟩
  case h=>
   exact⟨rfl,rfl,items.toList,items2.toList,ns,ms,rfl,hi,hj,q5,h⟩
end
section
variable {prog:Program}{w:World}{A:Around}{E:QqV}{s:Shared}
def Vm(hl:IsTup s.heap l items)(hb:IsTup s.heap b items2)(hi:IntsAre items.toList ns)(hj:IntsAre items2.toList ms)
  (hu:A.units<cLine) (h:Q (.bool (kD ns ms)) s):wpAny (model prog w) A (compareOp .Lt (.ref l) (.ref b)) Q E s:=by
 obtain⟨⟨cls,dd,data,sl⟩,ho,hc,n,hd⟩:=id hl;obtain⟨⟨ad,Y,aa,O⟩,J,hc2,n2,L⟩:=id hb;simp only at hc hd hc2 L;subst hc hd hc2 L
 exact richCompare_meets_room (op:=.Lt) ⟨_,ho,rfl⟩ ⟨_,J,rfl⟩ PySem.F.slot_tuple_lt PySem.F.entry_tuple_lt (PySem.F.args_tuple_lt_2 _ _) (VE l b items items2 n n2 dd Y sl O ns ms hi hj)
  ⟨ho,J,show Value.bool (kD ns ms)≠Value.notImplemented/\Q (.bool (kD ns ms)) s from⟨(λx=>nomatch x),h⟩⟩ hu
def xd5(ht:IsTup s.heap t vs.toArray)(hb:IsTup s.heap b ws.toArray)(hv:vs≠[])
  (h1:ws=[]->Q (.ref t) s) (h2:ws≠[]->Q (.ref s.heap.objs.size) { s with heap:=s.heap.push { cls:=.type "tuple",data:=.seq (vs++ws).toArray } })
  (hsz:vs.length+ws.length<=sizeLine):wpAny (model prog w) A (binaryOp .Add (.ref t) (.ref b)) Q E s:=by
 obtain⟨⟨cls,dd,data,sl⟩,ho,hc,n,hd⟩:=id ht;obtain⟨⟨ad,Y,aa,L⟩,J,hc2,n2,O⟩:=id hb;simp only at hc hd hc2 O;subst hc hd hc2 O
 have e:vs.toArray++ws.toArray=(vs++ws).toArray:=by simp
 by_cases hw:ws=[]
 ·exact concat_meets ⟨_,ho,rfl⟩ ⟨_,J,rfl⟩ noFill_tuple_add seq_tuple_add PySem.F.slot_tuple_add PySem.F.entry_tuple_add (PySem.F.args_tuple_add_2 _ _)
   (tuple_addW1 t b vs.toArray ws.toArray n n2 dd Y sl L (by simpa using hv) (by simp[hw])) ⟨ho,J,h1 hw⟩
 ·refine concat_meets ⟨_, ho, rfl⟩ ⟨_, J, rfl⟩ noFill_tuple_add seq_tuple_add PySem.F.slot_tuple_add PySem.F.entry_tuple_add (PySem.F.args_tuple_add_2 _ _)
   (tuple_addW2 t b vs.toArray ws.toArray n n2 dd Y sl L (by simpa using hv) (by simpa using hw) (by rw[zp,zp];exact hsz)) ⟨ho,J,?_⟩
  rw[e];exact h2 hw
def sIx(n d:Nat):Option Int->Nat
 |none=>d
 |some v=>if v<0 then(v+(n:Int)).toNat else min v.toNat n
def zc3(n d:Nat):sIx n d none=d:=rfl
def zq2(n d k:Nat):sIx n d (some (k:Int))=min k n:=by
 show(if (k:Int)<0 then((k:Int)+(n:Int)).toNat else min (k:Int).toNat n)=min k n
 rw[if_neg q5,yD]
def xg2(n d:Nat)(hd:d<=n)(o:Option Int):sIx n d o<=n:=by
 cases o with
 |none=>exact hd
 |some v=>
  show(if v<0 then(v+(n:Int)).toNat else min v.toNat n)<=n
  by_cases J:v<0
  ·rw[if_pos J];lia
  ·rw[if_neg J];exact Nat.min_le_right _ _
def zC5(v:Int)(n d:Nat):(if v<0 then max (v+(n:Int)) 0 else min v (n:Int))=((sIx n d (some v):Nat):Int):=by
 show(if v<0 then max (v+(n:Int)) 0 else min v (n:Int))=(((if v<0 then(v+(n:Int)).toNat else min v.toNat n):Nat):Int)
 by_cases J:v<0
 ·simp only[if_pos J];lia
 ·simp only[if_neg J];lia
def zm1(lo hi:Option Int)(n:Nat):Builtin.Slice.sliceAdjust lo hi 1 (n:Int)=(((sIx n 0 lo:Nat):Int),((sIx n n hi:Nat):Int)):=by
 have h1:¬ ((1:Int)<0):=q5
 unfold Builtin.Slice.sliceAdjust;simp only[h1,if_false];refine Prod.ext ?_ ?_
 ·cases lo with
  |none=>rfl
  |some v=>exact zC5 v n 0
 ·cases hi with
  |none=>rfl
  |some v=>exact zC5 v n n
def zi5(i j:Nat):Builtin.Slice.slicePlaces (i:Int) (j:Int) 1=j-i:=by
 unfold Builtin.Slice.slicePlaces
 have h1:(1:Int) > 0:=q5
 simp only[h1,if_true,Int.ediv_one]
 split<;>lia
def Vb(p:IsPart v o)(h:Q o s):wpAny (model prog w) A (Builtin.Slice.slicePartIndex v) Q E s:=by
 cases p with
 |none=>exact slicePart_none h
 |int i t=>exact slicePart_int h
def qV{sl:Addr}{Y O:Value}{lo hi:Option Int}{n:Nat}{Q:Int × Int × Nat->Shared->Prop}(hs:s.heap.IsSliceOf sl Y O .none)(pl:IsPart Y lo)(pu:IsPart O hi)
  (h:Q (((sIx n 0 lo:Nat):Int),1,sIx n n hi-sIx n 0 lo) s):wpAny (model prog w) A (Builtin.Slice.sliceApplied (.ref sl) (pure (n:Int))) Q E s:=by
 obtain⟨os,J,aa,L⟩:=id hs;unfold Builtin.Slice.sliceApplied Builtin.Slice.sliceFields;refine zb (zb (wh J L (x:=Y) rfl (zb (wh J L (x:=O) rfl (zb (wh J L (x:=.none) rfl (zd ?_)))))));refine zb (slicePart_none ?_)
 show wpAny _ _ (if ((1:Int) == 0)=true then _ else _) _ _ s
 rw[if_neg q9]
 refine zb (Vb pl (zb (Vb pu (zb (zd ?_)))))
 show wpAny _ _ (match Builtin.Slice.sliceAdjust lo hi 1 (n:Int) with |(lo,hi)=>pure (lo,(1:Int),Builtin.Slice.slicePlaces lo hi 1)) _ _ s
 rw[zm1 lo hi n];show wpAny _ _ (pure (((sIx n 0 lo:Nat):Int),(1:Int),Builtin.Slice.slicePlaces ((sIx n 0 lo:Nat):Int) ((sIx n n hi:Nat):Int) 1)) _ _ s;rw[zi5];exact zd h
def zI7(xs:Array Value)(i k:Nat):((List.range k).filterMap fun(m:Nat)=>xs[((i:Int)+(m:Int)*1).toNat]?).toArray=((xs.toList.drop i).take k).toArray:=by
 have e:(fun(m:Nat)=>xs[((i:Int)+(m:Int)*1).toNat]?)=λm=>xs[i+m]?:=by
  funext m
  have:((i:Int)+(m:Int)*1).toNat=i+m:=q5
  rw[this]
 rw[e];have:=pick_run xs i k;rw[yl] at this;have J:((λx=>xs[x]?)∘λx=>i+x)=λm=>xs[i+m]?:=rfl;rw[J] at this;rw[this]
def YC{t L:Addr}{items:Array Value}{vl vu:Value}{lo hi:Option Int}{Q:QqV}(ht:IsTup s.heap t items)(hs:s.heap.IsSliceOf L vl vu .none)(pl:IsPart vl lo)(pu:IsPart vu hi)
  (hw:¬ (sIx items.size 0 lo=0/\sIx items.size items.size hi=items.size))
  (h:Q (.ref s.heap.objs.size) { s with heap:=s.heap.push { cls:=.type "tuple",data:=.seq ((items.toList.drop (sIx items.size 0 lo)).take (sIx items.size items.size hi-sIx items.size 0 lo)).toArray } })
  (hsz:items.size<=sizeLine):wpAny (model prog w) A (getItem (.ref t) (.ref L)) Q E s:=by
 have J:sizeOk (.seq ((items.toList.drop (sIx items.size 0 lo)).take (sIx items.size items.size hi-sIx items.size 0 lo)).toArray):=by
  show((items.toList.drop (sIx items.size 0 lo)).take (sIx items.size items.size hi-sIx items.size 0 lo)).toArray.size<=sizeLine;rw[zp,yi,length_drop,xJ];lia
 have hj:sIx items.size items.size hi<=items.size:=xg2 _ _ (zo _) hi;obtain⟨os,O,aa,ae⟩:=id hs;have ad:s.TypeIs (.ref L) "slice" := ⟨os,O,aa⟩;unfold getItem
 try with_reducible refine xr ?_
 first |refine zb (zd ?_) |skip
 refine zb (wpAny_sequenceKey ht.typeIs q9 ?_)
 refine zb (xy (name:=Str.ofString "__getitem__") ht.typeIs PyProof.Rows.slot_tuple_getitem
  (wj PyProof.Rows.slot_tuple_getitem ht.typeIs entry_tuple_getitem ?_ (args_tuple_getitem _ _)))
 show wpAny _ _ (Builtin.Tuple.tupleItemsOf (.ref t) >>= _) _ _ s;refine zb (tupleItemsOf_ ht ?_);refine zb (wpAny_typeOf ad ?_)
 rw[if_pos q9]
 refine zb (qV hs pl pu ?_)
 have Y:¬ ((((sIx items.size 0 lo:Nat):Int) == 0&&(1:Int) == 1&&(sIx items.size items.size hi-sIx items.size 0 lo) == items.size)=true):=by
  intro q;rw[zG,zG] at q;have q1:((sIx items.size 0 lo:Nat):Int)=0:=eq_of_beq q.1.1;have q2:sIx items.size items.size hi-sIx items.size 0 lo=items.size:=eq_of_beq q.2
  exact hw ⟨q5,q5⟩
 show wpAny _ _ (if (((sIx items.size 0 lo:Nat):Int) == 0&&(1:Int) == 1&&(sIx items.size items.size hi-sIx items.size 0 lo) == items.size)=true then _ else _) _ _ s
 rw[if_neg Y,zI7]
 first
  |exact zb (m:=Builtin.Tuple.tupleExact _) (xl (zd ⟨_,rfl,zd h⟩) J)
  |exact zb (m:=Builtin.Tuple.tupleExact _) (xl (zb (zd (zd ⟨_,rfl,zd h⟩))) J)
  |exact zb (zb (m:=Builtin.Tuple.tupleExact _) (xl (zd (zd ⟨_,rfl,zd h⟩)) J))
  |exact zb (zb (m:=Builtin.Tuple.tupleExact _) (xl (zd ⟨_,rfl,zd h⟩) J))
end
end HT
namespace L2
abbrev TO:=St->Hp->(Option Int->Hp->Prop)->Prop
def PO(X:Cx)(e:Option Expr)(t:TO):Prop:=
 ∀(pins:QqL) (s:Shared) (σ:St) (H:Hp) (Q:Option Int->Hp->Prop),Inv X pins σ H s->t σ H Q ->
  wpAny (model X.prog X.w) X.A (evalPart e X.env) (λu s'=>∃o H',Inv X pins σ H' s'/\IsPart u o/\Q o H') X.xe s
def zU3:TO:=λ_ H Q=>Q none H
def xu9(t:TE):TO:=λσ H Q=>t σ H λx H1=>∃i,x=.int i/\Q (some i) H1
def kJ:∀{us:QqW},Vals (ns.map V.int) us->IntsAre us ns:=by
 induction ns with
 |nil=>intro us r;rw[map_nil] at r;cases r;exact .nil
 | cons n ns O =>
  intro us r;rw[zD] at r
  cases r with
  |cons L J=>
   obtain⟨t,e⟩:=L;subst e;exact .cons n t (O J)
section
variable {X:Cx}{e:Expr}{te:TE}{lo hi:Option Expr}{tl th:TO}{pos p2:Pos}
def zW7:PO X none zU3:=by
 intro pins s σ H Q I h;rw[evalPart_none];exact zd ⟨none,H,I,.none,h⟩
def zs0(h:PE X e te):PO X (some e) (xu9 te):=by
 intro pins s σ H Q I L;rw[evalPart_some];refine thn (h pins s σ H _ I L) λu s1 ⟨x,H1,O,J,q1⟩=>?_;obtain⟨i,rfl,q⟩:=q1;obtain⟨t,rfl⟩:=J;exact⟨some i,H1,O,.int i t,q⟩
def SlR(X:Cx)(r:V->Option Int->Option Int->Hp->VK->Prop):Prop:=
 ∀(pins:QqL) (s:Shared) (σ:St) (H:Hp) (x:V) (v L J:Value) (lo hi:Option Int) (O:Addr) (Q:VK),Inv X pins σ H s->RelV x v->s.heap.IsSliceOf O L J .none->IsPart L lo->IsPart J hi->r x lo hi H Q ->
  ∃T id,typeLookup (.type T) "__getitem__" = pure (some (.builtin id))/\s.TypeIs v T/\wpAny (model X.prog X.w) X.A (getItem v (.ref O)) (EP X pins σ Q) X.xe s
def tSl(r:V->Option Int->Option Int->Hp->VK->Prop)(te:TE)(tl th:TO):TE:=λσ H Q=>te σ H λx H1=>tl σ H1 λl H2=>th σ H2 λu J=>r x l u J Q
def zd3{r:V->Option Int->Option Int->Hp->VK->Prop}(hr:SlR X r)(he:PE X e te)(hl:PO X lo tl)(hu:PO X hi th):PE X (.Subscript e (.Slice lo hi none p2) pos) (tSl r te tl th):=by
 intro pins s σ H Q I h;refine Subscript_ (thn (he pins s σ H _ I h) λv s1 ⟨x,H1,I1,r1,q1⟩=>?_);refine wpAny_Slice (thn (hl pins s1 σ H1 _ I1 q1) λO s2 ⟨l,H2,I2,pl,q2⟩=>thn (hu pins s2 σ H2 _ I2 q2) λL J ⟨u,Y,I3,pu,q3⟩=>?_);rw[evalPart_none];refine zd ?_;have I4:Inv X pins σ Y { J with heap:=J.heap.push { cls:=.type "slice",data:=.fields #[O,L,.none] } }:=I3.kept (t':=J.toks) λb ob q=>zh _ q;obtain⟨T,id,hT,ht,hg⟩:=hr pins { J with heap:=J.heap.push { cls:=.type "slice",data:=.fields #[O,L,.none] } } σ Y x v O L l u J.heap.objs.size Q I4 r1 (Heap.IsSliceOf.new ..) pl pu q3;show wpAny (model X.prog X.w) X.A (subscriptTail e (.Slice lo hi none p2) v (.ref J.heap.objs.size)) (EP X pins σ Q) X.xe { J with heap:=J.heap.push { cls:=.type "slice",data:=.fields #[O,L,.none] } }
 exact tail_any (ops:=[.ref J.heap.objs.size,v]) ht hT hg (by with_unfolding_all rfl)
def zO5(xs:List V)(lo hi:Option Int):List V:=(xs.drop (HT.sIx xs.length 0 lo)).take (HT.sIx xs.length xs.length hi-HT.sIx xs.length 0 lo)
def Ww(xs:List V)(lo hi:Option Int):(zO5 xs lo hi).length<=xs.length:=by
 unfold zO5;rw[yi,length_drop];lia
def xO2(K:W.Frag):V->Option Int->Option Int->Hp->VK->Prop:=λx lo hi H Q=>∃a xs,x=.ref a/\SqT K H a xs /\
 ¬ (HT.sIx xs.length 0 lo=0/\HT.sIx xs.length xs.length hi=xs.length)/\∀p,H p=none->Q (.ref p) (upd H p (.tup (zO5 xs lo hi)))
def xf6:SlR X (xO2 X.K):=by
 intro pins s σ H x v vl vu lo hi sl Q I L hs pl O h;obtain⟨a,xs,rfl,hx,Y,q⟩:=h;cases L;obtain⟨its,r,ht,hz⟩:=I.tuple hx
 have J:its.toArray.size=xs.length:=by rw[zp];exact r.length.symm
 refine⟨"tuple",_,PyProof.Rows.slot_tuple_getitem.lookup,ht.typeIs,?_⟩
 refine HT.YC ht hs pl O (by rw[J];exact Y) ?_ (by rw[J];exact hz)
 rw[J];refine⟨.ref s.heap.objs.size,_,I.laid (t':=s.toks) (o:=.tup (zO5 xs lo hi)) (λb ob q=>zh _ q) (zo _) ?_,rfl,q _ (I.hok.fresh (zo _))⟩;exact⟨zK (Ww xs lo hi) hz,_,(r.drop (HT.sIx xs.length 0 lo)).take (HT.sIx xs.length xs.length hi-HT.sIx xs.length 0 lo),IsTup.new _ _⟩
def xw9(K:W.Frag):R2:=λx y H Q=>∃a b xs ys,x=.ref a/\y=.ref b/\SqT K H a xs/\SqT K H b ys/\xs≠[]/\xs.length+ys.length<=sizeLine /\
 (ys=[]->Q (.ref a) H)/\(ys≠[]->∀p,H p=none->Q (.ref p) (upd H p (.tup (xs++ys))))
def Vals.nil_iff(r:Vals xs us):us=[]↔xs=[]:=by
 cases r with
 |nil=>simp
 |cons _ _=>simp
def zY3:OpR X (binaryOp .Add) (xw9 X.K):=by
 intro pins s σ H x y v u Q I rx Y h;obtain⟨a,b,xs,ys,rfl,rfl,ha,hb,hx,hz,q1,q2⟩:=h;cases rx;cases Y;obtain⟨its,L,p1,_⟩:=I.tuple ha;obtain⟨O,J,p2,_⟩:=I.tuple hb
 refine HT.xd5 p1 p2 (λz=>hx (L.nil_iff.mp z)) (λz=>⟨.ref a,H,I,rfl,q1 (J.nil_iff.mp z)⟩) (λz=>?_) (by rw[<- L.length,<- J.length];exact hz)
 refine⟨.ref s.heap.objs.size,_,I.laid (t':=s.toks) (o:=.tup (xs++ys)) (λb ob q=>zh _ q) (zo _) ?_,rfl,q2 (λw=>z (J.nil_iff.mpr w)) _ (I.hok.fresh (zo _))⟩
 exact⟨by rw[zu];exact hz,_,L.append J,IsTup.new _ _⟩
end
def ixN(n:Nat)(i:Int):Option Nat:=if 0<=i then(if i<n then some i.toNat else none) else if -(n:Int)<=i then some (i+n).toNat else none
def atI{α:Type}(xs:List α)(i:Int):Option α:=(ixN xs.length i).bind λj=>xs[j]?
def zy1{n:Nat}{i:Int}{j:Nat}(h:ixN n i=some j):seqIndex? i n=some j/\j<n/\-(n:Int)<=i/\i<n:=by
 unfold ixN at h
 by_cases h0:0<=i
 ·rw [if_pos h0] at h
  by_cases h1:i<n
  ·rw [if_pos h1] at h;have e:i.toNat=j:=zP h
   exact⟨by rw[seqIndex_of h0 h1,e],q5,q5,h1⟩
  ·rw[if_neg h1] at h;cases h
 ·rw [if_neg h0] at h
  by_cases h1:-(n:Int)<=i
  ·rw [if_pos h1] at h;have e:(i+n).toNat=j:=zP h
   exact⟨by rw[seqIndex_neg q5 h1,e],q5,h1,q5⟩
  ·rw[if_neg h1] at h;cases h
def za1{α:Type}{xs:List α}{i:Int}{v:α}(h:atI xs i=some v):∃j,seqIndex? i xs.length=some j/\xs[j]?=some v/\j<xs.length/\-(xs.length:Int)<=i/\i<xs.length:=by
 unfold atI at h
 cases e:ixN xs.length i with
 |none=>rw[e] at h;cases h
 |some j=>
  rw[e] at h;obtain⟨h1,L,J,h4⟩:=zy1 e;exact⟨j,h1,h,L,J,h4⟩
def qo{α:Type}{xs:List α}{j:Nat}{v:α}(h:xs[j]?=some v):atI xs (j:Int)=some v:=by
 have J:j<xs.length:=(zm.mp h).1
 have e:ixN xs.length (j:Int)=some j:=by
  unfold ixN
  rw[if_pos q5,if_pos q5];simp
 unfold atI;rw[e];exact h
def UP(b:Expr):Prop:=∀o i,subscripted b false o i=operate [o,i] (getItem o i)
def IxR(X:Cx)(r:R2):Prop:=
 ∀(L J:Expr) (pins:QqL) (s:Shared) (σ:St) (H:Hp) (x y:V) (v u:Value) (Q:VK),Inv X pins σ H s->RelV x v->RelV y u->r x y H Q ->
  subscripted J false v u=operate [v,u] (getItem v u)->wpAny (model X.prog X.w) X.A (subscriptTail L J v u) (EP X pins σ Q) X.xe s
def MtR(X:Cx)(id:String)(r:V->List V->Hp->VK->Prop):Prop:=
 ∀(pins:QqL) (s:Shared) (σ:St) (H:Hp) (x:V) (xs:List V) (v:Value) (us:QqW) (Q:VK),Inv X pins σ H s->RelV x v->Vals xs us->r x xs H Q ->
  wpAny (model X.prog X.w) X.A (call (.builtin id) (v::us)) (EP X pins σ Q) X.xe s
section
variable {X:Cx}{a b:Expr}{ta tb:TE}{pos:Pos}
def IxR.or(h:IxR X r)(h':IxR X r'):IxR X (λx y H Q=>r x y H Q\/r' x y H Q):=by
 intro J L pins s σ H x y v u Q I Y O q hs
 rcases q with q |q
 ·exact h J L pins s σ H x y v u Q I Y O q hs
 ·exact h' J L pins s σ H x y v u Q I Y O q hs
def zX1(Y:IxR X r)(ha:PE X a ta)(hb:PE X b tb)(hs:UP b):PE X (.Subscript a b pos) (tOp r ta tb):=by
 intro pins s σ H Q I h;exact Subscript_ (xE9 ha hb I h λv u J x y H2 I2 O L q=>Y a b pins J σ H2 x y v u Q I2 O L q (hs _ _))
def xG6(K:W.Frag):R2:=λx y H Q=>∃p xs i v,x=.ref p/\y=.int i/\SqL K H p xs/\atI xs i=some v/\Q v H
def xG4(K:W.Frag):R2:=λx y H Q=>∃p xs i v,x=.ref p/\y=.int i/\SqT K H p xs/\atI xs i=some v/\Q v H
def xG5:R2:=λx y H Q=>∃z i c,x=.str z/\y=.int i/\z.length<=sizeLine/\atI z.cps.toList i=some c/\Q (.str ⟨#[c]⟩) H
def QL:IxR X (xG6 X.K):=by
 intro J L pins s σ H x y v u Q I rx ry h hs;obtain⟨p,xs,i,z,rfl,rfl,hq,he,q⟩:=h;cases rx;obtain⟨t,rfl⟩:=ry;obtain⟨its,r,pl,hz⟩:=I.list hq;obtain⟨j,h1,h2,h3,h4,h5⟩:=za1 he;obtain⟨w,Y,rw'⟩:=r.get h2;have hl:=r.length;have hn:=Vn;have fin:EP X pins σ Q w s:=⟨z,H,I,rw',q⟩
 by_cases h0:0<=i
 ·have O : i.toNat = j := by
   rw[seqIndex_of h0 h5] at h1;exact zP h1
  exact item_listR pl.isList h0 q5 (by rw[O];simpa using Y) fin hs
 ·have O : (i + (its.toArray.size : Int)).toNat = j := by
   rw[seqIndex_neg q5 h4] at h1
   rw[zp,<- hl];exact zP h1
  exact subscriptTail_builtinR (x:=w) pl.isList.typeIs slot_list_getitem.lookup
   (wpAny_getItem_list_neg (Q:=λr s'=>r=w/\EP X pins σ Q r s') pl.isList q5 (by rw[zp]<;>lia) q5 (by rw[O];simpa using Y) ⟨rfl,fin⟩) hs
def xo0:IxR X (xG4 X.K):=by
 intro J L pins s σ H x y v u Q I Y O h hs;obtain⟨p,xs,i,z,rfl,rfl,hq,he,q⟩:=h;cases Y;obtain⟨t,rfl⟩:=O;obtain⟨its,r,pl,hz⟩:=I.tuple hq;obtain⟨j,h1,h2,h3,h4,h5⟩:=za1 he;obtain⟨w,ew,rw'⟩:=r.get h2;have hl:=r.length;have hn:=Vn;have fin:EP X pins σ Q w s:=⟨z,H,I,rw',q⟩
 exact subscriptTail_builtinR (x:=w) pl.typeIs slot_tuple_getitem.lookup
  (getItem_tuple (j:=j) (Q:=λr s'=>r=w/\EP X pins σ Q r s') pl q5 q5 (by rw[zp,<- hl];exact h1) (by simpa using ew) ⟨rfl,fin⟩) hs
def xo1:IxR X xG5:=by
 intro J L pins s σ H x y v u Q I Y O h hs;obtain⟨z,i,c,rfl,rfl,hz,he,q⟩:=h;obtain⟨t,rfl⟩:=Y;obtain⟨t',rfl⟩:=O;obtain⟨j,h1,h2,h3,h4,h5⟩:=za1 he
 have hl:z.cps.toList.length=z.length:=by simp[Str.length]
 rw[hl] at h1 h4 h5;have hn:=Vn
 exact tail_any (typeIs_str s z t) slot_str_getitem.lookup (getItem_str (c:=c) (by
  have e1:decide (i < -(2^63:Int))=false:=zN q5
  have e2:decide (i>=2^63)=false:=zN q5
  rw[e1,e2,Bool.or_false]) (by rw[h1];simpa using h2) ⟨.str ⟨#[c]⟩,H,I.tok _,⟨_,rfl⟩,q⟩) hs
def rIx(K:W.Frag):R2:=λx y H Q=>xG6 K x y H Q\/xG4 K x y H Q\/xG5 x y H Q
def xk:IxR X (rIx X.K):=QL.or (xo0.or xo1)
def zj7(its:QqW)(n j:Nat)(u:Value):Obj.mapSeq (·.setIfInBounds j u) { cls:=.type "list",data:=.seq its.toArray n }={ cls:=.type "list",data:=.seq (its.set j u).toArray n }:=by
 simp[Obj.mapSeq]
def Inv.lst(I:Inv X pins σ H s)(h:H p=some (.lst xs)) :
  ∃(its:QqW) (n:Nat),Vals xs its/\s.heap.get? p=some { cls:=.type "list",data:=.seq its.toArray n }/\xs.length<=sizeLine:=by
 obtain⟨z,its,n,r,e⟩:=I.hok p _ h;exact⟨its,n,r,e,z⟩
def Inv.lstUpd{pins:QqL}{σ:St}{H:Hp}{s:Shared}{p:Addr}{xs ys:List V}{its its':QqW}{n n':Nat}{f:Obj->Obj}(I:Inv X pins σ H s)(h:H p=some (.lst xs))
  (ho:s.heap.get? p=some { cls:=.type "list",data:=.seq its.toArray n }) (J:f { cls:=.type "list",data:=.seq its.toArray n }={ cls:=.type "list",data:=.seq its'.toArray n' }) (r:Vals ys its') (hz:ys.length<=sizeLine) (t:Nat) :
  Inv X pins σ (upd H p (.lst ys)) { s with heap:=s.heap.update p f,toks:=t }:=by
 have e:(s.heap.update p f).get? p=some { cls:=.type "list",data:=.seq its'.toArray n' }:=by
  rw[xI f ho (by rw[J]<;>rfl),J]
 refine I.write (x:=p) (e:=p) (by rw[h];trivial) (.inl rfl) (λb u L q=>(wn _ _ (Ne.symm L)).trans q) ⟨_,e⟩ ?_
 exact⟨hz,its',n',r,e⟩
def xw7:V->V->V->Hp->(Hp->Prop)->Prop:=λo i v H Q=>∃p xs k j,o=.ref p/\i=.int k/\H p=some (.lst xs)/\ixN xs.length k=some j/\Q (upd H p (.lst (xs.set j v)))
def zG6:xL7 X xw7:=by
 intro pins s σ H o i v ov iv u Q I Y ri rv h;obtain⟨p,xs,k,j,rfl,rfl,L,hj,q⟩:=h;cases Y;obtain⟨t,rfl⟩:=ri;obtain⟨its,n,r,ho,hz⟩:=I.lst L;obtain⟨h1,h2,O,h4⟩:=zy1 hj;have J:=r.length;have hn:=Vn
 have I':Inv X pins σ (upd H p (.lst (xs.set j v))) { s with heap:=s.heap.update p (Obj.mapSeq (·.setIfInBounds j u)) }:=
  I.lstUpd L ho (zj7 its n j u) (r.set rv j) (by rw[List.length_set];exact hz) s.toks
 by_cases h0:0<=k
 ·have hk : k.toNat = j := by
   rw[seqIndex_of h0 h4] at h1;exact zP h1
  exact W.ki_setAt ho h0 q5 (by rw[zp,<- J];exact h4) (by rw[hk];exact⟨_,I',q⟩)
 ·have hk : (k + (its.toArray.size : Int)).toNat = j := by
   rw[seqIndex_neg q5 O] at h1
   rw[zp,<- J];exact zP h1
  exact W.ki_setBack ho q5 (by rw[zp,<- J];exact O) q5 (by rw[hk];exact⟨_,I',q⟩)
def Kk(lo hi:Option Int)(n:Nat):(sliceBounds lo hi none n).1=((HT.sIx n 0 lo:Nat):Int)/\(sliceBounds lo hi none n).2.1=((HT.sIx n n hi:Nat):Int)/\(sliceBounds lo hi none n).2.2=1:=by
 refine⟨?_,?_,rfl⟩
 ·cases lo with
  |none=>simp[sliceBounds,HT.sIx]
  |some i=>
   simp only[sliceBounds,HT.sIx,Option.getD_none,show(1:Int) > 0 by decide,if_true]
   by_cases h:i<0
   ·simp only[h,if_true]<;>lia
   ·simp only[h,if_false]<;>lia
 ·cases hi with
  |none=>simp[sliceBounds,HT.sIx]
  |some i=>
   simp only[sliceBounds,HT.sIx,Option.getD_none,show(1:Int) > 0 by decide,if_true]
   by_cases h:i<0
   ·simp only[h,if_true]<;>lia
   ·simp only[h,if_false]<;>lia
def VU(its:QqW)(lo hi:Option Int):slicePick its.toArray lo hi none=((its.drop (HT.sIx its.length 0 lo)).take (HT.sIx its.length its.length hi-HT.sIx its.length 0 lo)).toArray:=by
 obtain⟨h1,L,J⟩:=Kk lo hi its.toArray.size;unfold slicePick;rw[h1,L,J]
 simp only[sliceRange_one,pick_run,zp]<;>rfl
def xO3(K:W.Frag):V->Option Int->Option Int->Hp->VK->Prop:=λx lo hi H Q=>∃a xs,x=.ref a/\SqL K H a xs/\∀p,H p=none->Q (.ref p) (upd H p (.lst (zO5 xs lo hi)))
def zU5:SlR X (xO3 X.K):=by
 intro pins s σ H x v vl Y lo hi sl Q I L hs pl O h;obtain⟨a,xs,rfl,hx,q⟩:=h;cases L;obtain⟨its,r,ht,hz⟩:=I.list hx;have J:=r.length;refine⟨"list",_,slot_list_getitem.lookup,ht.isList.typeIs,?_⟩
 refine wpAny_getItem_list_slice ht.isList hs pl O .none (by simp) ?_ (by rw[zp]<;>lia)
 rw[VU,<- J];refine⟨.ref s.heap.objs.size,_,I.laid (t':=s.toks) (o:=.lst (zO5 xs lo hi)) (λb ob q=>zh _ q) (zo _) ?_,rfl,q _ (I.hok.fresh (zo _))⟩;exact⟨zK (Ww xs lo hi) hz,_,0,(r.drop (HT.sIx xs.length 0 lo)).take (HT.sIx xs.length xs.length hi-HT.sIx xs.length 0 lo),zr _ rfl⟩
def WU:V->Bool
 |.non=>true
 |.bl _=>true
 |.int _=>true
 |.str _=>true
 |_=>false
def eqV:V->V->Bool
 |.non,.non=>true
 |.bl a,.bl b=>a == b
 |.bl a,.int b=>(if a then 1 else 0) == b
 |.int a,.bl b=>a == (if b then 1 else 0)
 |.int a,.int b=>a == b
 |.str a,.str b=>a == b
 |_,_=>false
def xp0(L:RelV y u)(J:RelV x v)(Y:WU y=true)(O:WU x=true):SeqAt.EqAt A s u v (eqV y x):=by
 cases y with
 |non=>
  cases L
  cases x with
  |non=>cases J;exact SeqAt.EqAt.same _
  |bl b=>cases J;exact SeqAt.EqAt.none_bool b
  |int b=>obtain⟨t,rfl⟩:=J;exact SeqAt.EqAt.none_int b t
  |str b=>obtain⟨t,rfl⟩:=J;exact SeqAt.EqAt.none_str b t
  |_=>exact absurd (show false=true from O) zR
 |bl a=>
  cases L
  cases x with
  |non=>cases J;exact SeqAt.EqAt.bool_none a
  |bl b=>cases J;exact SeqAt.EqAt.bool_bool a b
  |int b=>obtain⟨t,rfl⟩:=J;exact SeqAt.EqAt.bool_int a b t
  |str b=>obtain⟨t,rfl⟩:=J;exact SeqAt.EqAt.bool_str a b t
  |_=>exact absurd (show false=true from O) zR
 |int a=>
  obtain⟨t',rfl⟩:=L
  cases x with
  |non=>cases J;exact SeqAt.EqAt.int_none a t'
  |bl b=>cases J;exact SeqAt.EqAt.int_bool a t' b
  |int b=>obtain⟨t,rfl⟩:=J;exact SeqAt.EqAt.int_int a t' b t
  |str b=>obtain⟨t,rfl⟩:=J;exact SeqAt.EqAt.int_str a t' b t
  |_=>exact absurd (show false=true from O) zR
 |str a=>
  obtain⟨t',rfl⟩:=L
  cases x with
  |non=>cases J;exact SeqAt.EqAt.str_none a t'
  |bl b=>cases J;exact SeqAt.EqAt.str_bool a t' b
  |int b=>obtain⟨t,rfl⟩:=J;exact SeqAt.EqAt.str_int a t' b t
  |str b=>obtain⟨t,rfl⟩:=J;exact SeqAt.EqAt.str_str a t' b t
  |_=>exact absurd (show false=true from O) zR
 |_=>exact absurd (show false=true from Y) zR
def eqU(x:V)(u:Value):Bool:=match u with
 |.none=>eqV .non x
 |.bool b=>eqV (.bl b) x
 |.int i _=>eqV (.int i) x
 |.str z _=>eqV (.str z) x
 |_=>false
def zS3(r:RelV y u)(f:WU y=true):eqU x u=eqV y x:=by
 cases y with
 |non=>cases r;rfl
 |bl b=>cases r;rfl
 |int i=>obtain⟨t,rfl⟩:=r;rfl
 |str z=>obtain⟨t,rfl⟩:=r;rfl
 |_=>exact absurd (show false=true from f) zR
theorem za2:∀{xs:List V}{us:QqW},Vals xs us->xs.all WU=true->us.any (eqU x)=xs.any λy=>eqV y x
 |_,_,.nil,_=>rfl
 |y::xs,u::us,.cons r t,f=>by
  rw[all_cons,zG] at f;rw[yE,yE,zS3 r f.1,za2 t f.2]
theorem Uv(J:RelV x v)(L:WU x=true):∀{xs:List V}{us:QqW},Vals xs us->xs.all WU=true->∀u∈us,SeqAt.EqAt A s u v (eqU x u)
 |_,_,.nil,_=>λu hu=>by cases hu
 |y::xs,u::us,.cons r t,f=>λu' hu=>by
  rw[all_cons,zG] at f
  rcases zj.mp hu with rfl |hu
  ·rw[zS3 r f.1];exact xp0 r J f.1 L
  ·exact Uv J L t f.2 u' hu
def inV(x:V)(xs:List V):Bool:=xs.any λy=>eqV y x
def rIn(K:W.Frag)(neg:Bool):R2:=λx y H Q=>∃p xs,y=.ref p/\(SqL K H p xs\/SqT K H p xs)/\WU x=true/\xs.all WU=true/\Q (.bl (if neg then !inV x xs else inV x xs)) H
def zt3:OpR X (compareOp .In) (rIn X.K false):=by
 intro pins s σ H x y v u Q I O ry h;obtain⟨p,xs,rfl,J,Y,fs,q⟩:=h;cases ry
 rcases J with J |J
 ·obtain ⟨its, r, pl, hz⟩ := I.list J
  refine SeqAt.in_listAt (eqU x) pl.isList (λw L=>Uv O Y r fs w (by simpa using L)) ⟨.bl _,H,I,rfl,?_⟩
  rw[show its.toArray.any (eqU x)=its.any (eqU x) by simp,za2 r fs]
  exact q
 ·obtain ⟨its, r, pl, hz⟩ := I.tuple J
  refine SeqAt.in_tupleAt (eqU x) pl (λw L=>Uv O Y r fs w (by simpa using L)) ⟨.bl _,H,I,rfl,?_⟩
  rw[show its.toArray.any (eqU x)=its.any (eqU x) by simp,za2 r fs]
  exact q
def wE:kG X (.builtin "len") (λxs H Q=>∃p ys,xs=[.ref p]/\(SqL X.K H p ys\/SqT X.K H p ys)/\Q (.int ys.length) H):=by
 intro pins s σ H xs us Q I r h;obtain⟨p,ys,rfl,L,q⟩:=h;obtain⟨u,rfl,O⟩:=ZH r;cases O;have Y:=Vn
 rcases L with L |L
 ·obtain ⟨its, r', pl, hz⟩ := I.list L;have J:=r'.length
  exact Calls.call_len_list pl.isList (by simp only[zp]<;>lia) ⟨.int ys.length,H,I.tok _,⟨s.toks+1,by rw[zp,J]⟩,q⟩
 ·obtain ⟨its, r', pl, hz⟩ := I.tuple L;have J:=r'.length
  exact len_tuple pl (by simp only[zp]<;>lia) ⟨.int ys.length,H,I.tok _,⟨s.toks+1,by rw[zp,J]⟩,q⟩
def JE:kG X (.type "list") (λxs H Q=>∃p ys,xs=[.ref p]/\(SqL X.K H p ys\/SqT X.K H p ys)/\∀l,H l=none->Q (.ref l) (upd H l (.lst ys))):=by
 intro pins s σ H xs us Q I r h;obtain⟨p,ys,rfl,J,q⟩:=h;obtain⟨u,rfl,Y⟩:=ZH r;cases Y
 have fin:∀(its:QqW),Vals ys its->ys.length<=sizeLine->∀(h':Heap) (c':Nat),(∀b o',s.heap.get? b=some o'->h'.get? b=some o') ->
   h'.get? s.heap.objs.size=some { cls:=.type "list",dict:=none,data:=.seq its.toArray c',slots:=#[] }->EP X pins σ Q (.ref s.heap.objs.size) { s with heap:=h' }:=λits r' hz h' c' kp e=>
  ⟨.ref s.heap.objs.size,_,I.laid (t':=s.toks) kp (zo _) (show ObjOk X.prog X.w _ h' _ (.lst ys) from⟨hz,its,c',r',e⟩),rfl,q _ (I.hok.fresh (zo _))⟩
 rcases J with J |J
 ·obtain ⟨its, r', pl, hz⟩ := I.list J;have L:=r'.length;obtain⟨o,ho,O,n,hd⟩:=pl.isList
  exact call_list_seq p (.inl rfl) ho O hd (λh' c' kp e=>fin its r' hz h' c' kp e) (by simp only[zp]<;>lia)
 ·obtain ⟨its, r', pl, hz⟩ := I.tuple J;have L:=r'.length;obtain⟨o,ho,O,n,hd⟩:=pl
  exact call_list_seq p (.inr rfl) ho O hd (λh' c' kp e=>fin its r' hz h' c' kp e) (by simp only[zp]<;>lia)
def wH:kG X (.type "tuple") (λxs H Q=>∃p ys,xs=[.ref p]/\((SqL X.K H p ys/\∀l,H l=none->Q (.ref l) (upd H l (.tup ys)))\/(SqT X.K H p ys/\Q (.ref p) H))):=by
 intro pins s σ H xs us Q I r h;obtain⟨p,ys,rfl,h⟩:=h;obtain⟨u,rfl,Y⟩:=ZH r;cases Y
 rcases h with ⟨J,q⟩ |⟨J,q⟩
 ·obtain ⟨its, r', pl, hz⟩ := I.list J;have L:=r'.length
  refine call_tuple_list pl.isList (λh' kp=>?_) (by simp only[zp]<;>lia)
  have O:Inv X pins σ H { s with heap:=h' }:=I.kept (t':=s.toks) kp
  have I2:Inv X pins σ (upd H h'.objs.size (.tup ys)) { s with heap:=h'.push { cls:=.type "tuple",data:=.seq its.toArray } }:=
   O.laid (t':=s.toks) (λb o e=>zh _ e) (zo _) (show ObjOk X.prog X.w _ _ _ (.tup ys) from⟨hz,its,r',IsTup.new _ _⟩)
  exact⟨.ref h'.objs.size,_,I2,rfl,q _ (O.hok.fresh (zo _))⟩
 ·obtain⟨its,r',pl,hz⟩:=I.tuple J;exact call_tuple_same pl ⟨.ref p,H,I,rfl,q⟩
def tyV(K:W.Frag)(T:String)(x:V)(H:Hp):Prop:=match x with
 |.str _=>T = "str"
 |.int _=>T = "int"
 | .ref p => (T = "list" /\ ∃ xs, SqL K H p xs) \/ (T = "tuple" /\ ∃ o, K.lookup p = some o /\ o.cls = .type "tuple" /\ o.dict = none) \/
   (T = "dict" /\ ((∃kvs,H p=some (.dK kvs))\/∃kvs,H p=some (.dT kvs)))\/(T = "set" /\ ∃S n,H p=some (.set S n))
 |_=>False
def zP6(I:Inv X pins σ H s)(r:RelV x v)(ty:tyV X.K T x H) :
  s.TypeIs v T/\∀a,v=.ref a->∃ob,s.heap.get? a=some ob/\ob.dict=none:=by
 cases x with
 |str z=>
  obtain⟨t,rfl⟩:=r;cases(show T = "str" from ty)
  exact⟨typeIs_str s z t,λ_ e=>nomatch e⟩
 |int i=>
  obtain⟨t,rfl⟩:=r;cases(show T = "int" from ty)
  exact⟨typeIs_int s i t,λ_ e=>nomatch e⟩
 | ref p =>
  cases r
  rcases ty with ⟨rfl,xs,L⟩ |⟨rfl,o,hk,O,hd⟩ |⟨rfl,hk⟩ |⟨rfl,S,n,hk⟩
  ·obtain⟨its,_,pl,_⟩:=I.list L;refine⟨pl.isList.typeIs,λa e=>?_⟩;cases e;obtain⟨o,n,e,c,hd,_⟩:=pl;exact⟨o,e,hd⟩
  ·refine⟨⟨o,I.kIn p o hk,O⟩,λa e=>?_⟩;cases e;exact⟨o,I.kIn _ o hk,hd⟩
  ·have z : ∃ o, s.heap.get? p = some o /\ o.ExactDict := by
    rcases hk with ⟨kvs,hk⟩ |⟨kvs,hk⟩
    ·obtain⟨_,_,_,_,o,_,_,e,ex,_⟩:=I.hok p _ hk;exact⟨o,e,ex⟩
    ·obtain⟨_,_,_,_,o,_,_,e,ex,_⟩:=I.hok p _ hk;exact⟨o,e,ex⟩
   obtain⟨o,e,ex⟩:=z;refine⟨⟨o,e,ex.1⟩,λa J=>?_⟩;cases J;exact⟨o,e,ex.2.1⟩
  ·obtain⟨o,_,_,_,e,ex,_⟩:=I.hok p _ hk;refine⟨⟨o,e,ex.1⟩,λa J=>?_⟩;cases J;exact⟨o,e,ex.2.1⟩
 |_=>exact False.elim ty
def xN3(K:W.Frag)(T:String)(r:V->List V->Hp->VK->Prop)(to:TE):TE:=λσ H Q=>to σ H λx H1=>tyV K T x H1/\r x [] H1 Q
def tBM(K:W.Frag)(T:String)(r:V->List V->Hp->VK->Prop)(to:TE)(t:TA):TE:=λσ H Q=>to σ H λx H1=>tyV K T x H1/\t σ H1 λxs H2=>r x xs H2 Q
variable {o e:Expr}{es:List Expr}{to:TE}{t:TA}{name:Str}{apos cpos:Pos}{T id:String}{r:V->List V->Hp->VK->Prop}
def xj8(pa:PlainAttrs T)(slot:Slot T name id)(O:typeOf (.builtin id)=pure (.type "method_descriptor"))(hm:MtR X id r)(ho:PE X o to)
  (L:attributeBase o name X.env (eval o X.env)=eval o X.env:=by rfl) (J:(apos.endLine == cpos.line)=true:=by rfl):PE X (.Call (.Attribute o name apos) [] [] cpos) (xN3 X.K T r to):=by
 intro pins s σ H Q I h;refine wpAny_Call_method0_late L J (thn (ho pins s σ H _ I h) λv s1 ⟨x,H1,I1,Y,ty,q1⟩=>?_);obtain⟨h1,h2⟩:=zP6 I1 Y ty;exact⟨T,id,pa,slot,O,h1,h2,Calls.callWith_builtin rfl (PySem.evalArgs_none (hm pins s1 σ H1 x [] v [] Q I1 Y .nil q1))⟩
def xj9(pa:PlainAttrs T)(slot:Slot T name id)(aa:typeOf (.builtin id)=pure (.type "method_descriptor"))(hm:MtR X id r)(ho:PE X o to)(ha:PA X (e::es) t)
  (O:attributeBase o name X.env (eval o X.env)=eval o X.env:=by rfl)
  (Y : ((backTo cpos (starEach (e :: es) X.env)).all (λx => !x.1) && (backToKw cpos (keywordEach [] X.env)).all (λx => x.1.isSome)
   && decide ((e::es).length+([]:List Keyword).length+(if ([]:List Keyword).isEmpty then 0 else 1)<30))=true:=by rfl)
  (L:(apos.endLine == cpos.line)=true:=by rfl) (hs:starEach (e::es) X.env=(false,eval e X.env)::starEach es X.env:=by rfl) (J:(backTo cpos (starEach es X.env)).any (·.1)=false:=by rfl) :
  PE X (.Call (.Attribute o name apos) (e::es) [] cpos) (tBM X.K T r to t):=by
 intro pins s σ H Q I h;refine wpAny_Call_method_late O Y L rfl (thn (ho pins s σ H _ I h) λv s1 ⟨x,H1,I1,r1,ty,q1⟩=>?_);obtain⟨h1,h2⟩:=zP6 I1 r1 ty;refine⟨T,id,pa,slot,aa,h1,h2,?_⟩;have hA:=ha cpos pins s1 σ H1 _ I1 q1;rw[hs] at hA ⊢
 refine Calls.callWith_builtin (by show(false||(backTo cpos (starEach es X.env)).any (·.1))=false;rw[J]<;>rfl) (Calls.evalArgs_plain ?_)
 exact thn hA λus s2 ⟨vs,H2,I2,r2,q2⟩=>hm pins s2 σ H2 x vs v us Q I2 r1 r2 q2
end
def MtM(X:Cx)(id:String)(r:V->List V->Hp->VK->Prop):Prop:=
 ∀(pins:QqL) (s:Shared) (σ:St) (H:Hp) (x:V) (xs:List V) (v:Value) (us:QqW) (Q:VK),Inv X pins σ H s->RelV x v->Vals xs us->r x xs H Q ->
  wpAny (model X.prog X.w) X.A (call (.builtin id) (v::us)) (EP X pins σ Q) X.xe s
theorem Vals.one:∀{x:V}{us:QqW},Vals [x] us->∃u,us=[u]/\RelV x u
 |_,_,.cons r .nil=>⟨_,rfl,r⟩
theorem Vals.zero:∀{us:QqW},Vals [] us->us=[]
 |_,.nil=>rfl
def Vals.dropLast(h:Vals xs us):Vals xs.dropLast us.dropLast:=by
 induction h with
 |nil=>exact .nil
 |cons r t J=>
  cases t with
  |nil=>exact .nil
  |cons q t'=>exact .cons r J
theorem Vals.rep(h:Vals xs us):∀k:Nat,Vals (replicate k xs).flatten (replicate k us).flatten
 |0=>.nil
 |k+1=>by
  rw[wN,wN,yB,yB];exact Vals.append h (Vals.rep h k)
def zk7{α:Type}(l:List α):l.eraseIdx (l.length-1)=l.dropLast:=by
 induction l with
 |nil=>rfl
 | cons a r J =>
  cases r with
  |nil=>rfl
  | cons b r =>
   have e:(a::b::r).length-1=((b::r).length-1)+1:=by
    have h1:(a::b::r).length=r.length+2:=rfl;have L:(b::r).length=r.length+1:=rfl;lia
   rw[e,List.eraseIdx_cons_succ,J]
   all_goals rfl
def Jk(its:QqW):∀(k:Nat) (acc:QqW),
  List.foldl (λL J=>L++J) acc.toArray (replicate k its.toArray)=(acc++(replicate k its).flatten).toArray
 |0,acc=>by simp
 | k + 1, acc => by
  have e:acc.toArray++its.toArray=(acc++its).toArray:=by simp
  have O:(acc++its)++(replicate k its).flatten=acc++(replicate (k+1) its).flatten:=by
   rw[wN,yB,yC]
  rw[<- O,<- Jk its k (acc++its),<- e,wN,List.foldl_cons]
section
variable {X:Cx}{pins:QqL}{σ:St}{H:Hp}{s:Shared}{l b:Addr}{xs ys zs:List V}
def Inv.lset{its its':QqW}{n:Nat}{f:Array Value->Array Value}{t':Nat}(I:Inv X pins σ H s)(Y:H l=some (.lst xs))
  (e:s.heap.get? l=some { cls:=.type "list",data:=.seq its.toArray n }) (L:f its.toArray=its'.toArray) (J:Vals ys its') (hz:ys.length<=sizeLine) :
  Inv X pins σ (upd H l (.lst ys)) { s with heap:=s.heap.update l (Obj.mapSeq f),toks:=t' }:=by
 have q:=PySem.IsL.update e f;rw[L] at q
 refine I.write (x:=l) (e:=l) (by rw[Y];exact trivial) (.inl rfl) (λb' u O hu=>(wn s.heap (Obj.mapSeq f) (Ne.symm O)).trans hu) ⟨_,q⟩ ?_
 exact⟨hz,its',_,J,q⟩
def Inv.lnew{t':Nat}(I:Inv X pins σ H s)(J:Vals ys its)(hz:ys.length<=sizeLine) :
  Inv X pins σ (upd H s.heap.objs.size (.lst ys)) { s with heap:=s.heap.push { cls:=.type "list",data:=.seq its.toArray },toks:=t' }:=
 I.laid (λ_ _ q=>zh _ q) (zo _) ⟨hz,its,0,J,zr _ rfl⟩
def Inv.fresh(I:Inv X pins σ H s):H s.heap.objs.size=none:=I.hok.fresh (zo _)
def Inv.lstM(I:Inv X pins σ H s)(J:H l=some (.lst xs)):xs.length<=sizeLine/\∃(its:QqW) (n:Nat),Vals xs its/\xs.length=its.length/\s.heap.get? l=some { cls:=.type "list",data:=.seq its.toArray n }:=by
 obtain⟨z,its,n,r,e⟩:=I.hok l _ J;exact⟨z,its,n,r,r.length,e⟩
end
section
variable {X:Cx}
def zV7:V->List V->Hp->VK->Prop:=λx vs H Q=>∃l xs y,x=.ref l/\vs=[y]/\H l=some (.lst xs)/\xs.length<sizeLine/\Q .non (upd H l (.lst (xs++[y])))
def zv8:MtM X "list.append" zV7:=by
 intro pins s σ H x vs v us Q I L rv h;obtain⟨l,xs,y,rfl,rfl,J,hz,q⟩:=h;cases L;obtain⟨u,rfl,O⟩:=rv.one;obtain⟨z,its,n,r,Y,e⟩:=I.lstM J
 refine call_meets F.slot_list_append ⟨_,e,rfl⟩ F.entry_list_append (F.args_list_append_2 _ _) (PySem.list_append l its.toArray n u (by rw[zp];lia)) ⟨e,?_⟩
 refine⟨.non,_,I.lset (its':=its++[u]) J e (by simp) (r.append (.cons O .nil)) ?_,rfl,q⟩
 rw[zu,List.length_singleton];lia
def xO4:V->List V->Hp->VK->Prop:=λx vs H Q=>∃l xs y,x=.ref l/\vs=[]/\H l=some (.lst xs)/\xs[xs.length-1]?=some y/\Q y (upd H l (.lst xs.dropLast))
def xm4:MtM X "list.pop" xO4:=by
 intro pins s σ H x vs v us Q I O rv h;obtain⟨l,xs,y,rfl,rfl,L,hy,q⟩:=h;cases O;have J:=rv.zero;subst J;obtain⟨z,its,n,r,hl,e⟩:=I.lstM L;obtain⟨u,hu,Y⟩:=r.get hy
 have hy':its.toArray[its.toArray.size-1]?=some u:=by
  show its.toArray[its.length-1]?=some u;rw[<- wT,<- hl];exact hu
 refine call_meets F.slot_list_pop ⟨_,e,rfl⟩ F.entry_list_pop (F.args_list_pop_1 _) (MeetsSeq.list_pop_last l its.toArray n u hy' (by rw[zp];lia)) ⟨e,?_⟩
 refine⟨y,_,I.lset (its':=its.dropLast) L e ?_ r.dropLast ?_,Y,q⟩
 ·show its.toArray.eraseIdxIfInBounds (its.toArray.size-1)=its.dropLast.toArray;rw[zp,List.eraseIdxIfInBounds_toArray,zk7]
 ·rw[List.length_dropLast];lia
def xH0:R2:=λx y H Q=>∃l b xs J,x=.ref l/\y=.ref b/\H l=some (.lst xs)/\H b=some (.lst J)/\xs.length+J.length<=sizeLine/\∀p,H p=none->Q (.ref p) (upd H p (.lst (xs++J)))
def KJ:OpR X (binaryOp .Add) xH0:=by
 intro pins s σ H x y v u Q I O L h;obtain⟨l,b,xs,zs,rfl,rfl,hH,hB,hz,q⟩:=h;cases O;cases L;obtain⟨z,its,n,r,hl,e⟩:=I.lstM hH;obtain⟨z2,J,n2,Y,aa,e2⟩:=I.lstM hB
 refine PySem.P.add_list e e2 ?_ (by rw[zp,zp];lia)
 have ea:its.toArray++J.toArray=(its++J).toArray:=by simp
 rw[ea]
 exact⟨.ref _,_,I.lnew (t':=s.toks) (r.append Y) (by rw[zu];lia),rfl,q _ I.fresh⟩
def zw8{α:Type}(xs:List α)(k:Nat):(replicate k xs).flatten.length=k*xs.length:=by
 induction k with
 |zero=>simp
 |succ k J=>rw[wN,yB,zu,J,Nat.succ_mul,Nat.add_comm]
end
section
variable {prog:Program}{w:World}{A:Around}{E:QqV}{s:Shared}
end
section
variable {X:Cx}
end
end L2
namespace Att
open PySem PySem.W PySem.Calls PyProof.Rows
def Wm:∀(ns:List Int) (vs:QqW),WellAll P h vs (ns.map WData.int)->IntsAre vs ns:=by
 intro ns
 induction ns with
 |nil=>
  intro vs w;rw[map_nil] at w;cases w;exact .nil
 | cons n ns J =>
  intro vs w;rw[zD] at w
  cases w with
  |cons a b=>
   cases a;exact .cons _ _ (J _ b)
def zp8{l:OpenLaw}{n:Nat}(hn:l.most=some n){P:Params}{h:Heap}{args:List WData}{J:QqW}
  (L:l.row.toRowW.claim.pre args=true) (aa:WellAll P h J args) :
  ∃a vs ns,J=[Value.ref a]/\args=[WData.list (ns.map WData.int)]/\h.get? a=some { cls:=.type "list",data:=.seq vs.toArray }/\IntsAre vs ns/\ns.length<=n:=by
 have ad:WShape.hasAll [] args [.list .int]=true:=(pre_splitW L).1;have hc:l.pre.holds [] { args:=args }=true:=(pre_splitW L).2;obtain⟨d,r,rfl,h1,h2⟩:=hasAllW_cons ad;obtain rfl:=hasAllW_nil h2;obtain⟨xs,rfl,h3⟩:=hasW_list h1;obtain⟨ns,rfl⟩:=items_int h3
 have O:ns.length<=n:=by
  unfold OpenLaw.pre at hc
  have h4:(WTm.not (.lt (.lit (.int (n:Int))) (.len (.arg 0)))).holds [] { args:=[.list (ns.map .int)] }=true:=by
   have h4:=(holds_andW hc).1;rw[hn] at h4;exact h4
  have h5:=condW_of h4 (w_not (w_lt w_lit (w_len_list (w_arg rfl))));rw[zg] at h5;refine Nat.le_of_not_lt λq=>?_
  have q':(n:Int)<((ns.length:Nat):Int):=q5
  first
   |(rw[xh q'] at h5;exact absurd h5 q9)
   |(simp at h5;lia)
 cases aa with
 |cons w1 w2=>
  cases w2
  cases w1 with
  |list ho Y=>exact⟨_,_,ns,rfl,rfl,ho,Wm ns _ Y,O⟩
def zr9(l:OpenLaw)(args:List WData):l.row.toRowW.claim.post args (.bool true) args=true:=
 postW_of (r:=l.row.toRowW) (X:=(true == true))
  (show WShape.has [] (.bool true) .bool=true by first |rfl |decide |simp[WShape.has,WShape.arms,WShape.armsAll])
  (show(WTm.eq .res (.lit (.bool true))).value [] { args:=args,res:=some (.bool true),after:=args }=some (.bool (true == true)) from w_eq_bool (w_res rfl) w_lit) rfl
def attach_call{l:OpenLaw}{n:Nat}{q:Program}{loose:List Str}{XP:(Str->Option Value)->Heap->Prop}{YP:World->Heap->Prop}{d:DefRec}
  (hn:l.most=some n) (ah:d.params.defaults=[])
  (call : ∀ (w : World) (s₀ J : Shared) (mg mb : Str -> Option Value) (fa : Addr) (o : Obj) (pm cd O : Value) (a : Addr) (vs : List Value) (ns : List Int),
   Ground q loose [] XP w s₀ mg mb J.heap->YP w J.heap ->
   J.heap.get? fa=some o->o.data=.func (docDef d.name d.params d.body d.scope pm cd O)->J.heap.CodeRec cd d.name->mg d.name=some (.ref fa) ->
   J.heap.get? a=some { cls:=.type "list",data:=.seq vs.toArray }->IntsAre vs ns->ns.length<=n->J.gens=#[] ->
   codeAny (model l.prog w) callerA (.call (.ref fa) ⟨[.ref a],[]⟩) (λr s'=>r=.ok (.ret (.bool true))/\OldK J.heap s'.heap/\s'.os=J.os/\AllBare s'.gens) J) :
  WalkO q loose XP YP l.row.toRowW d [] (λf vs=>PySem.call f vs):=by
 intro w s₀ J mg mb G Y fa o pm cd O dV kV ho hd ai hD ag hg args aj as aa ak al af am;obtain rfl:dV=.none:=Dflts.none hD ah;obtain rfl:kV=.none:=Dflts.noKw hD;obtain⟨a,vs,ns,rfl,rfl,ad,L,ae⟩:=zp8 hn aa af;refine enter_call (codeAny_mono (call w s₀ J mg mb fa o pm cd O a vs ns G Y ho (fd_plain hd) ai ag ad L ae hg) λr s' hq=>?_);obtain⟨rfl,h2,h3,h4⟩:=hq
 exact⟨.inl ⟨.bool true,.bool true,[],rfl,λ_=>rfl,.bool true,zr9 l _,λ_=>⟨List.Pairwise.nil,λ_ hm=>(nomatch hm)⟩⟩,h2,h3,h4⟩
section
variable {prog:Program}{w:World}{A:Around}{E:QqV}{s:Shared}{K:Frag}
end
end Att
namespace L2
theorem Ke:∀{vs:QqW}{ns:List Int},IntsAre vs ns->Vals (ns.map V.int) vs
 |_,_,.nil=>.nil
 |_,_,.cons n t h=>.cons ⟨t,rfl⟩ (Ke h)
def kq(s:Stmt):Arguments:=match s with
 |.FunctionDef _ a _ _ _ _ _ _ _ _=>a
 |_=>{ posonlyargs:=[],args:=[],vararg:=none,kwonlyargs:=[],kw_defaults:=[],kwarg:=none,defaults:=[] }
def vC(s:Stmt):List Stmt:=match s with
 |.FunctionDef _ _ b _ _ _ _ _ _ _=>b
 |_=>[]
def zW(s:Stmt):Scope:=match s with
 |.FunctionDef _ _ _ _ _ _ sc _ _ _=>sc
 |_=>{ kind:=.function,names:=[],isGenerator:=false,isCoroutine:=false }
abbrev CX0:CXT:=λ_ _ _ _ _ _=>False
abbrev E0:XK:=λ_ _ _=>False
def zJ9:zE4 CX0 X E0:=λ_ _ _ _ _ _ _ h=>h.elim
structure Fun(K:W.Frag)(x qual:Str)(st:Stmt)(f:Addr)(fd:FuncData):Prop where
 ex:∃(oc:Value) (od:QqE) (kV doc pm:Value) (an:QqE) (cdv ct:Value) (osl:Array (Option Value)),
  fd=W.fnOf x qual (kq st) (vC st) (zW st) .none kV doc pm an cdv ct/\K.lookup f=some ⟨oc,od,.func fd,osl⟩/\W.codeIn K cdv qual=true
 kp:W.keepIn K (.ref f)=true
section
variable {P:Program}{w:World}{K:W.Frag}{mg:QqM}{base:Heap}
def Fun.ok{x J:Str}{st:Stmt}{f:Addr}{fd:FuncData}{N ps:List Str}{k:Nat}{sp:Sp}(F:Fun K x J st f fd)(S:FnScope N ps (zW st))(len:∀vs H Q E,sp vs H Q E->vs.length=ps.length)
  (O : ∀ (L : Value) (A : Around) (outer : List Env) (s : Shared) (H : Hp) (vs : List V) (Q : VK) (E : XK), Room k (A.deeper (envOfC J (zW st) s.heap.objs.size f L)) -> sp vs H Q E ->
   ∃t,PSs (zF1 CX0 P w K mg base N J (zW st) f L A outer s H E).nox (vC st) t/\t { nx:=λ_ H'=>Q .non H',rt:=Q } (start N vs) H):FnOk P w K mg base CX0 (k+1) f fd ps sp:=by
 obtain⟨oc,od,kV,ae,pm,an,L,ct,ad,rfl,lk,aa⟩:=F.ex;refine xo9 lk aa S len λA outer s H vs Q E hr Y=>?_;obtain⟨t,h,q⟩:=O L A outer s H vs Q E hr Y;exact⟨t,h.nox,q⟩
def Fun.binds{x J:Str}{st:Stmt}{f:Addr}{fd:FuncData}{ps:List Str}(F:Fun K x J st f fd)
  (h:∀(kV L pm:Value) (an:QqE) (O ct:Value) (us:QqW),us.length=ps.length->bindArgs (W.fnOf x J (kq st) (vC st) (zW st) .none kV L pm an O ct) ⟨us,[]⟩=pure (ps.zip us)):Binds K fd ps []:=by
 obtain⟨oc,od,kV,L,pm,an,O,ct,Y,rfl,lk,aa⟩:=F.ex;exact .all (h kV L pm an O ct)
def zf1{x J:Str}{st:Stmt}{f:Addr}{oc:Value}{od an:QqE}{Y:Array (Option Value)}{kV O pm L ct:Value}(l:K.lookup f=some ⟨oc,od,.func (W.fnOf x J (kq st) (vC st) (zW st) .none kV O pm an L ct),Y⟩)
  (c:W.codeIn K L J=true) (k:W.keepIn K (.ref f)=true):Fun K x J st f (W.fnOf x J (kq st) (vC st) (zW st) .none kV O pm an L ct):=⟨⟨oc,od,kV,O,pm,an,L,ct,Y,rfl,l,c⟩,k⟩
end
def xb7{k:Nat}(J:Room k A):A.units+1<cLine:=Nat.lt_of_le_of_lt (Nat.add_le_add_left (by decide:1<=64) _) J.units
section
variable {X:Cx}
end
end L2
namespace L2
open PySem
def ZD(env:Env):List (Str × NameKind)->List (Str × Addr)->List (Str × Addr)
 |[],acc=>acc
 |y::r,acc=>if y.2 == .free then ZD env r ((y.1,(env.cells.lookup y.1).getD 0)::acc) else ZD env r acc
def kZ:∀(l:List (Str × NameKind)) (acc:List (Str × Addr)),(∀y∈l,y.2=.free->∃c,env.cells.lookup y.1=some c)->(∀x c,acc.lookup x=some c->env.cells.lookup x=some c) ->
  ∀x c,(ZD env l acc).lookup x=some c->env.cells.lookup x=some c
 |[],acc,_,ha,x,c,h=>ha x c h
 | y :: r, acc, J, ha, x, c, h => by
  unfold ZD at h
  split at h
  ·rename_i hk
   have hk':y.2=.free:=by simpa using hk
   obtain⟨d,hd⟩:=J y xf hk';refine kZ r _ (λz hz=>J z (zn _ hz)) (λz e hz=>?_) x c h;rw[zV] at hz
   cases L:z == y.1 with
   |true=>
    rw[L,hd] at hz
    have Y:z=y.1:=by simpa using L
    have O:d=e:=by simpa using hz
    rw[Y,hd,O]
   |false=>rw[L] at hz;exact ha z e hz
  ·exact kZ r acc (λz hz=>J z (zn _ hz)) ha x c h
theorem YD:∀(l:List (Str × NameKind)) (acc:List (Str × Addr)),(∃c,acc.lookup x=some c)->∃c,(ZD env l acc).lookup x=some c
 |[],acc,h=>h
 | y :: r, acc, h => by
  unfold ZD
  split
  ·refine YD r _ ?_;rw[zV]
   cases J:x == y.1 with
   |true=>exact⟨_,rfl⟩
   |false=>exact h
  ·exact YD r acc h
theorem jB(hk:y.2=.free):∀(l:List (Str × NameKind)) (acc:List (Str × Addr)),y∈l->∃c,(ZD env l acc).lookup y.1=some c
 |[],acc,h=>by simp at h
 | z :: r, acc, h => by
  unfold ZD
  rcases zj.mp h with rfl |h
  ·rw [if_pos (by rw [hk]; rfl)]
   exact YD r _ ⟨_,al_List_lookup_cons_self⟩
  ·split
   ·exact jB hk r _ h
   ·exact jB hk r _ h
def Vx(f:Str × NameKind->List (Str × Addr)->Sem (ForInStep (List (Str × Addr))))
  (L:∀y acc,f y acc=if y.2 == .free then(cellOf env y.1 >>= λc=>pure (.yield ((y.1,c)::acc))) else pure (.yield acc)) :
  ∀(l:List (Str × NameKind)) (acc:List (Str × Addr)),(∀y∈l,y.2=.free->∃c,env.cells.lookup y.1=some c)->forIn l acc f=(pure (ZD env l acc):Sem _)
 |[],acc,_=>by rw[forIn_nil];rfl
 | y :: r, acc, h => by
  have J:=λacc=>Vx f L r acc λz hz=>h z (zn _ hz);rw[forIn_cons,L];unfold ZD
  split
  ·rename_i hk
   obtain⟨c,O⟩:=h y xf (by simpa using hk)
   have e:cellOf env y.1=pure c:=by unfold cellOf;rw[O]
   rw[e,O];exact J _
  ·exact J _
def Yb(h:∀y∈scope.names,y.2=.free->∃c,env.cells.lookup y.1=some c):closureFor scope env=pure (ZD env scope.names []):=by
 have e:=Vx (env:=env) (λx J=>match x with |(name,kind)=>if (kind == NameKind.free)=true then(do let c <- cellOf env name;pure (.yield ((name,c)::J))) else pure (.yield J)) (λy acc=>rfl) scope.names [] h
 have L:closureFor scope env=((forIn scope.names [] (λx J=>match x with |(name,kind)=>if (kind == NameKind.free)=true then(do let c <- cellOf env name;pure (ForInStep.yield ((name,c)::J))) else pure (ForInStep.yield J)):Sem (List (Str × Addr))) >>= λJ=>pure J):=rfl
 rw[L,e];rfl
def YO{env:Env}{x:Str}:∀(l:List (Str × NameKind)),
  (l.map λ(n, k) => if (k == NameKind.free && env.scope.kind == .function && env.kindOf n == some .cell) then (n, NameKind.cell) else (n, k)).lookup x =
   (l.lookup x).map λk=>if (k == NameKind.free&&env.scope.kind == .function&&env.kindOf x == some .cell) then NameKind.cell else k
 |[]=>rfl
 | (n, k) :: r => by
  have J:=@YO env x r;rw[zD]
  by_cases e:x=n
  ·subst e;dsimp only
   split
   ·rename_i h;rw[al_List_lookup_cons_self,al_List_lookup_cons_self,Option.map_some,if_pos h]
   ·rename_i h;rw[al_List_lookup_cons_self,al_List_lookup_cons_self,Option.map_some,if_neg h]
  ·have e' : (x == n) = false := by simpa using e
   dsimp only
   split
   ·rw[zV,e',zV,e'];exact J
   ·rw[zV,e',zV,e'];exact J
def zC8:∀(l:List (Str × NameKind)) (h:Heap) (acc:List (Str × Addr)) (x:Str) (c:Addr),(cellsFrom h.objs.size l acc).lookup x=some c ->
  ((pushCells h l).IsCell c none/\h.objs.size<=c/\(x,NameKind.cell)∈l)\/acc.lookup x=some c
 |[],_,_,_,_,e=>.inr e
 | (n, k) :: r, h, acc, x, c, e => by
  unfold cellsFrom at e;unfold pushCells
  split at e
  ·rename_i hk
   have hk':k=.cell:=by simpa using hk
   rw[if_pos hk];have hz:(h.push { cls:=.type "cell",data:=.cell none }).objs.size=h.objs.size+1:=wc ..;rw[<- hz] at e
   rcases zC8 r (h.push { cls:=.type "cell",data:=.cell none }) _ x c e with ⟨a,b,d⟩ |q
   ·exact .inl ⟨a,by rw[hz] at b;lia,zn _ d⟩
   ·rw [zV] at q
    cases J:x == n with
    |false=>rw[J] at q;exact .inr q
    |true=>
     rw[J] at q
     have O:h.objs.size=c:=by simpa using q
     have L:x=n:=by simpa using J
     subst O L
     refine .inl ⟨?_,zo _,by rw[hk'];exact xf⟩
     exact⟨_,pushCells_keeps _ _ _ _ (zr _ rfl),rfl⟩
  ·rename_i hk;rw[if_neg hk]
   rcases zC8 r h acc x c e with ⟨a,b,d⟩ |q
   ·exact .inl ⟨a,b,zn _ d⟩
   ·exact .inr q
def zC6:∀(l:List (Str × NameKind)) (n:Nat) (acc:List (Str × Addr)),(∀x y c,acc.lookup x=some c->acc.lookup y=some c->x=y)->(∀x c,acc.lookup x=some c->c<n) ->
  ∀x y c,(cellsFrom n l acc).lookup x=some c->(cellsFrom n l acc).lookup y=some c->x=y
 |[],_,_,hi,_,x,y,c,e,e'=>hi x y c e e'
 | (m, k) :: r, n, acc, hi, J, x, y, c, e, e' => by
  unfold cellsFrom at e e'
  have one:∀z d,((m,n)::acc).lookup z=some d->(z=m/\d=n)\/acc.lookup z=some d:=λz d q=>by
   rw[zV] at q
   cases O:z == m with
   |true=>rw[O] at q;exact .inl ⟨by simpa using O,by simpa using q.symm⟩
   |false=>rw[O] at q;exact .inr q
  split at e
  ·rename_i hk;rw[if_pos hk] at e';refine zC6 r (n+1) ((m,n)::acc) (λa b d q q'=>?_) (λa d q=>?_) x y c e e'
   ·rcases one a d q with ⟨a1, a2⟩ | a1 <;> rcases one b d q' with ⟨L, Y⟩ | L
    ·rw[a1,L]
    ·exact absurd (J b d L) (by rw[a2];exact xx _)
    ·exact absurd (J a d a1) (by rw[Y];exact xx _)
    ·exact hi a b d a1 L
   ·rcases one a d q with ⟨_, a2⟩ | a1
    ·rw[a2];exact Nat.lt_succ_self _
    ·exact wL (J a d a1)
  ·rename_i hk;rw[if_neg hk] at e';exact zC6 r n acc hi J x y c e e'
theorem YE:∀(l:List (Str × NameKind)) (n:Nat) (acc:List (Str × Addr)),(∃c,acc.lookup x=some c)->∃c,(cellsFrom n l acc).lookup x=some c
 |[],_,_,h=>h
 | (m, k) :: r, n, acc, h => by
  unfold cellsFrom
  split
  ·refine YE r _ _ ?_;rw[zV]
   cases J:x == m with
   |true=>exact⟨_,rfl⟩
   |false=>exact h
  ·exact YE r _ _ h
theorem zC7:∀(l:List (Str × NameKind)) (n:Nat) (acc:List (Str × Addr)),(x,NameKind.cell)∈l->∃c,(cellsFrom n l acc).lookup x=some c
 |[],_,_,h=>by simp at h
 | (m, k) :: r, n, acc, h => by
  unfold cellsFrom
  rcases zj.mp h with e |h
  ·cases e;exact YE r _ _ ⟨_,al_List_lookup_cons_self⟩
  ·split
   ·exact zC7 r _ _ h
   ·exact zC7 r _ _ h
theorem xd4:∀(l:List (Str × NameKind)) (n:Nat) (acc:List (Str × Addr)) (lo:Nat),lo<=n->((x,NameKind.cell)∈l\/∀c,acc.lookup x=some c->lo<=c)->∀c,(cellsFrom n l acc).lookup x=some c->lo<=c
  | [], n, acc, lo, J, h, c, e => by
    rcases h with h |h
    · simp at h
    · exact h c e
  | (m, k) :: r, n, acc, lo, J, h, c, e => by
    unfold cellsFrom at e
    split at e
    · rename_i hk
      refine xd4 r (n+1) ((m,n)::acc) lo q5 ?_ c e
      rcases h with h |h
      · rcases zj.mp h with z | z
        · cases z
          refine .inr λd q=>?_;rw[al_List_lookup_cons_self] at q
          have:n=d:=by simpa using q
          lia
        · exact .inl z
      · refine .inr λd q => ?_
        rw[zV] at q
        cases L:x == m with
        | true => rw [L] at q; have : n = d := by simpa using q;
                  lia
        |false=>rw[L] at q;exact h d q
    · rename_i hk
      refine xd4 r n acc lo J ?_ c e
      rcases h with h |h
      · rcases zj.mp h with z | z
        · cases z;exact absurd rfl hk
        · exact .inl z
      · exact .inr h
section
variable {M:Model}{A:Around}{E:QqV}{s:Shared}
def qN
  (h : Q (newEnv scope s.heap.objs.size env.globals (cellsFrom (s.heap.objs.size + 1) scope.names cl) env.qual none .none (some env) builtinsNs)
   { s with heap:=pushCells (s.heap.push { cls:=.type "dict",data:=.dict #[] }) scope.names }) :
  wpAny M A (newFunctionEnv scope env.globals cl [] env.qual none .none (some env)) Q E s:=by
 simp only[newFunctionEnv,Option.isSome_some,if_true];refine zb (wpAny_alloc ?_);refine zb (wpAny_layCells _ (λname kind cells=>?_) _ _ _ _ ?_)
 ·cases J:kind == NameKind.cell<;>simp[J]
 ·rw[List.forIn_nil];refine zb (zd (zd ?_));have hz:({ s with heap:=s.heap.push { cls:=.type "dict",data:=.dict #[] } }:Shared).heap.objs.size=s.heap.objs.size+1:=wc ..;rw[hz];exact h
end
abbrev YV(ifs:List Expr)(env:Env):Sem Bool:=forIn ifs true λc r=>if r=true then do let ok <- isTrue c env (eval c env);pure (ForInStep.yield ok) else pure (ForInStep.yield r)
section
variable {prog:Program}{w:World}{A:Around}{R:Result->Shared->Prop}{s:Shared}
def zC3(J:Nat->Shared->Prop)
  (turn : ∀ n s, J n s -> wpAny (model prog w) A (pyNext it) (λr s1 => match r with
   |none=>R (.ok .next) s1
   | some v => wpAny (model prog w) A (letOwnedTupleGo target it v) (λ_ s2 => wpAny (model prog w) A (assign target env v) (λ_ s3 => wpAny (model prog w) A (YV ifs env) (λok L =>
     if ok=true then wpAny (model prog w) A (eval elt env) (λx Y=>wpAny (model prog w) A (call (.builtin "list.append") [acc,x]) (λ_ O=>∃m,m<n/\J m O) (λ_ _=>False) Y) (λ_ _=>False) L
     else ∃m,m<n/\J m L) (λ_ _=>False) s3) (λ_ _=>False) s2) (λ_ _=>False) s1) (λ_ _=>False) s)
  (n:Nat) (h:J n s):codeAny (model prog w) A (.compLoop (.ListComp elt [⟨target,iter,ifs,0⟩] scope pos) 0 it acc env) R s:=by
 refine codeAny_loop rfl J (λn s hJ=>?_) n h
 show wpAny _ A ((compTurn (.ListComp elt [⟨target,iter,ifs,0⟩] scope pos) 0 it acc env).onRaise (λx=>do noteFrame x env;theTreesLotGoes x)) _ _ s
 refine wpAny_noted ?_;rw[compTurn_list]
 have up:∀{α:Type}{t:Sem α}{Q Q':α->Shared->Prop}{E:QqV}{s:Shared},wpAny (model prog w) A t Q (λ_ _=>False) s->(∀a s,Q a s->Q' a s)->wpAny (model prog w) A t Q' E s:=
  λh f=>wv h f λ_ _ z=>False.elim z
 refine zb (wx (zb (up (turn n s hJ) λr s1 h1=>?_)))
 cases r with
 |none=>exact zd h1
 |some v=>
  refine zb (up h1 λ_ s2 h2=>?_);refine zb (up h2 λ_ s3 h3=>?_);refine zb (up h3 λok L h4=>?_)
  cases ok with
  |false=>exact zd ⟨rfl,h4⟩
  |true=>exact zb (zb (up h4 λx Y h5=>zb (up h5 λ_ O h6=>zd (zd ⟨rfl,h6⟩))))
end
def Vs(b:Bool):String:=if b then "list_iterator" else "tuple_iterator"
def SeqIs(b:Bool)(h:Heap)(l:Addr)(xs:Array Value):Prop:=match b with |true=>h.IsList l xs |false=>h.IsTuple l xs
def IterIs(b:Bool)(h:Heap)(i l:Addr)(k:Nat):Prop:=match b with |true=>h.IsListIter i l k |false=>h.IsTupleIter i l k
def SeqIs.at{b:Bool}(x:SeqIs b h l xs)(hk:∀o,h.get? l=some o->h'.get? l=some o):SeqIs b h' l xs:=by
 cases b<;>(obtain⟨o,e,r⟩:=x;exact⟨o,hk o e,r⟩)
def IterIs.at{b:Bool}{k:Nat}(x:IterIs b h i l k)(hk:∀o,h.get? i=some o->h'.get? i=some o):IterIs b h' i l k:=by
 cases b<;>(obtain⟨o,e,r⟩:=x;exact⟨o,hk o e,r⟩)
def IterIs.obj{b:Bool}{k:Nat}(x:IterIs b h i l k):∃o,h.get? i=some o/\o.cls=.type (Vs b)/\o.data=.fields #[.ref l,.int k 0]:=by
 cases b<;>exact x
def SeqIs.ne{b c:Bool}{k:Nat}(x:SeqIs b h l xs)(y:IterIs c h i m k):l≠i:=by
 rintro rfl;obtain⟨o,e,J,_⟩:=y.obj
 cases b<;>(obtain⟨o',e',hc',_⟩:=x;rw[e] at e';cases e';rw[J] at hc';cases c<;>exact absurd (Value.type.inj hc') q9)
section
variable {prog:Program}{w:World}{A:Around}{E:QqV}{s:Shared}
def Vg{b:Bool}(J:SeqIs b s.heap l xs)
  (L:Q (.ref s.heap.objs.size) { s with heap:=s.heap.push { cls:=.type (Vs b),data:=.fields #[.ref l,.int 0 0] } }):wpAny (model prog w) A (pyIter (.ref l)) Q E s:=by
 cases b with
 |true=>exact yz J L
 |false=>exact wpAny_pyIter_tuple J L
def zj1{i:Nat}(J:s.heap.IsTupleIter it l i)(hl:s.heap.IsTuple l items)(hx:items[i]?=some x)
  (hQ:∀h',h'.IsTupleIter it l (i+1)->Heap.SameBut it s.heap h'->Q x { s with heap:=h' }):wpAny (model prog w) A (Builtin.SmallTypes.nextOf (.ref it)) Q E s:=by
 obtain⟨o,ho,hc,hd⟩:=id J;obtain⟨ol,L,_,nl,O⟩:=hl;unfold Builtin.SmallTypes.nextOf;refine zb (xy (name:=Str.ofString "__next__") J.typeIs F.slot_tuple_iterator_next (wj F.slot_tuple_iterator_next J.typeIs F.entry_tuple_iterator_next ?_ (F.args_tuple_iterator_next_1 _)));show wpAny _ A.in1 (field (.ref it) 0 >>= _) _ _ s;refine zb (wh (x:=.ref l) ho hd rfl ?_)
 show wpAny _ A.in1 (if (Value.ref l == Value.none)=true then _ else _) _ _ s
 have Y:¬ ((Value.ref l == Value.none)=true):=zR;rw[if_neg Y];show wpAny _ A.in1 (field (.ref it) 1 >>= _) _ _ s;refine zb (wh (x:=.int i 0) ho hd rfl ?_);show wpAny _ A.in1 (seqItems? (.ref l) >>= _) _ _ s;refine zb (wz L O ?_);simp only[hx,yD]
 refine zb (wpAny_setField ho hd (by simp) (zd ⟨x,rfl,zd (hQ _ ⟨_,xI _ ho (Obj.isFreed_of_fields (Obj.data_mapFields hd _)),(Obj.cls_mapFields ..).trans hc,?_⟩ (Heap.SameBut.update ..))⟩))
 rw[Obj.data_mapFields hd];simp[rawInt]
def WN{i:Nat}(hh:A.handled=none)(J:s.heap.IsTupleIter it l i)(hl:s.heap.IsTuple l items)(hx:items[i]?=none)
  (hE:∀h' e,Heap.ExtBut it s.heap h'->(∃o,h'.get? e=some o/\o.cls=.type "StopIteration")->E (.ref e) { s with heap:=h' }):wpAny (model prog w) A (Builtin.SmallTypes.nextOf (.ref it)) Q E s:=by
 obtain⟨o,ho,hc,hd⟩:=id J;obtain⟨ol,L,_,nl,O⟩:=hl;unfold Builtin.SmallTypes.nextOf;refine zb (xy (name:=Str.ofString "__next__") J.typeIs F.slot_tuple_iterator_next (wj F.slot_tuple_iterator_next J.typeIs F.entry_tuple_iterator_next ?_ (F.args_tuple_iterator_next_1 _)));show wpAny _ A.in1 (field (.ref it) 0 >>= _) _ _ s;refine zb (wh (x:=.ref l) ho hd rfl ?_)
 show wpAny _ A.in1 (if (Value.ref l == Value.none)=true then _ else _) _ _ s
 have Y:¬ ((Value.ref l == Value.none)=true):=zR;rw[if_neg Y];show wpAny _ A.in1 (field (.ref it) 1 >>= _) _ _ s;refine zb (wh (x:=.int i 0) ho hd rfl ?_);show wpAny _ A.in1 (seqItems? (.ref l) >>= _) _ _ s;refine zb (wz L O ?_);simp only[hx,yD]
 refine zb (ye (zb (wpAny_setField ho hd (by simp) ?_)))
 show wpAny _ A.in1 (newExc (.type "StopIteration") [] >>= _) _ _ _;refine zb ?_;simp only[newExc,newTuple]
 refine zb (xl ?_ (by size_fits))
 refine zb (m:=firstArgMember _ _) (wpAny_of_eq (a:=Value.none) (by simp only[firstArgMember];rfl) ?_)
 refine xl ?_ (by size_fits)
 simp only[raiseNew];refine zb (wpAny_handled ?_);rw[show A.in1.handled=none from hh];refine zb (zd (wpAny_throw ?_));exact hE _ _ (((Heap.SameBut.update ..).extBut.push _).push _) ⟨_,zr _ rfl,rfl⟩
def Yz{b:Bool}{i:Nat}(J:IterIs b s.heap it l i)(L:SeqIs b s.heap l items)(hx:items[i]?=some x)
  (O:∀h',IterIs b h' it l (i+1)->Heap.SameBut it s.heap h'->Q x { s with heap:=h' }):wpAny (model prog w) A (Builtin.SmallTypes.nextOf (.ref it)) Q E s:=by
 cases b with
 |true=>exact wpAny_nextOf_list_item J L hx O
 |false=>exact zj1 J L hx O
def Za{b:Bool}{i:Nat}(O:A.handled=none)(J:IterIs b s.heap it l i)(L:SeqIs b s.heap l items)(hx:items[i]?=none)
  (Y:∀h' e,Heap.ExtBut it s.heap h'->(∃o,h'.get? e=some o/\o.cls=.type "StopIteration")->E (.ref e) { s with heap:=h' }):wpAny (model prog w) A (Builtin.SmallTypes.nextOf (.ref it)) Q E s:=by
 cases b with
 |true=>exact wpAny_nextOf_list_end O J L hx Y
 |false=>exact WN O J L hx Y
structure ZApart(z ti to i1 i2:Addr):Prop where
 a1:ti≠z
 a2:to≠z
 a3:i1≠z
 a4:i2≠z
 a5:ti≠to
 a6:ti≠i1
 a7:ti≠i2
 a8:to≠i1
 a9:to≠i2
 a10:i1≠i2
structure ZSt(b c:Bool)(z ti to i1 i2 l1 l2:Addr)(k:Nat)(h:Heap):Prop where
 z:IsZip h z ti to .none
 ti:IsPair h ti (.ref i1) (.ref i2)
 to:∃u v,IsPair h to u v
 i1:IterIs b h i1 l1 k
 i2:IterIs c h i2 l2 k
structure ZMid(b c:Bool)(z ti to i1 i2 l1 l2:Addr)(k:Nat)(T:Addr)(h:Heap):Prop where
 z:IsZip h z ti to (rawInt T)
 ti:IsPair h ti (.ref i1) (.ref i2)
 to:∃u v,IsPair h to u v
 i1:IterIs b h i1 l1 (k+1)
 i2:IterIs c h i2 l2 (k+1)
def ZSt.apartL{b c d:Bool}{z ti to i1 i2 l1 l2 l:Addr}{k:Nat}{h:Heap}{xs:Array Value}(x:ZSt b c z ti to i1 i2 l1 l2 k h)(J:SeqIs d h l xs)(L:l≠to):l≠z/\l≠i1/\l≠i2:=by
 refine⟨?_,J.ne x.i1,J.ne x.i2⟩;rintro rfl;have e:=x.z
 cases d<;>(obtain⟨o',e',hc',_⟩:=J;rw[e] at e';cases e';exact absurd (Value.type.inj hc') q9)
def zF4{b c:Bool}{z ti to i1 i2 l1 l2:Addr}{k:Nat}{xs ys:Array Value}{x y:Value}{Q:QqV}(D:ZApart z ti to i1 i2)(S:ZSt b c z ti to i1 i2 l1 l2 k s.heap)
  (af:SeqIs b s.heap l1 xs) (ae:SeqIs c s.heap l2 ys) (n1:l1≠to) (n2:l2≠to) (hx:xs[k]?=some x) (hy:ys[k]?=some y)
  (hQ:∀h',ZMid b c z ti to i1 i2 l1 l2 k s.heap.objs.size h'->IsPair h' s.heap.objs.size x y->(∀d o,d≠z->d≠to->d≠i1->d≠i2->s.heap.get? d=some o->h'.get? d=some o)->Q (.ref s.heap.objs.size) { s with heap:=h' }) :
  wpAny (model prog w) A (Builtin.«zip.__next__» ⟨[.ref z],[]⟩) (λfin s'=>∃v,fin=.done (.ret v)/\Q v s') E s:=by
 obtain⟨m1,m2,m3⟩:=S.apartL af n1;obtain⟨m4,m5,m6⟩:=S.apartL ae n2;obtain⟨hz,ag,⟨u,v,ah⟩,h1,h2⟩:=S;show wpAny _ A (field (.ref z) 2 >>= _) _ _ _;refine zb (wh (x:=.bool false) hz rfl rfl ?_);show wpAny _ A (field (.ref z) 3 >>= _) _ _ _;refine zb (wh (x:=.ref ti) hz rfl rfl ?_);refine zb (wz ag rfl ?_);show wpAny _ A (Builtin.SmallTypes.ownedTupleIsFree (.ref z) >>= _) _ _ _;refine zb ?_;unfold Builtin.SmallTypes.ownedTupleIsFree;refine zb (wh (x:=.none) hz rfl rfl (zd ?_));simp only[if_true];refine zb (ye ?_);refine zb (wh (x:=.ref to) hz rfl rfl ?_)
 refine zb (yk hz (by simp) λg1 ad s1=>?_)
 replace ad:IsZip g1 z ti to .ellipsis:=ad
 refine zb ?_;simp only[forIn_cons,forIn_nil,zipIdx_cons,List.zipIdx_nil];refine zb (zb (wpAny_onRaise ?_));show wpAny _ A (Builtin.SmallTypes.nextOf (.ref i1) >>= _) _ _ _;refine zb (Yz (h1.at λo e=>s1.extBut _ _ D.a3 e) (af.at λo e=>s1.extBut _ _ m1 e) hx λg2 k1 s2=>zd ?_);have aa:IsPair g2 to u v:=s2.extBut _ _ D.a8 (s1.extBut _ _ D.a2 ah);refine zb (wz aa rfl ?_);refine zb (wpAny_updateSeq_pair aa λg3 O s3=>?_)
 replace O:IsPair g3 to x v:=O
 refine zb (yo (zd ?_));refine zb (zb (wpAny_onRaise ?_));show wpAny _ A (Builtin.SmallTypes.nextOf (.ref i2) >>= _) _ _ _;refine zb (Yz (h2.at λo e=>s3.extBut _ _ D.a9.symm (s2.extBut _ _ D.a10.symm (s1.extBut _ _ D.a4 e))) (ae.at λo e=>s3.extBut _ _ n2 (s2.extBut _ _ m5 (s1.extBut _ _ m4 e))) hy λg4 k2 s4=>zd ?_);have Y:IsPair g4 to x v:=s4.extBut _ _ D.a9 O;refine zb (wz Y rfl ?_);refine zb (wpAny_updateSeq_pair Y λL J s5=>?_)
 replace J:IsPair L to x y:=J
 refine zb (yo (zd (zd ?_)));refine zb (wz J rfl ?_);refine zb (wpAny_newTuple ?_)
 have sz:L.objs.size=s.heap.objs.size:=by rw[s5.1,s4.1,s3.1,s2.1,s1.1]
 have z5:IsZip L z ti to .ellipsis:=s5.extBut _ _ D.a2.symm (s4.extBut _ _ D.a4.symm (s3.extBut _ _ D.a2.symm (s2.extBut _ _ D.a3.symm ad)));have kp:∀d o,d≠z->d≠to->d≠i1->d≠i2->s.heap.get? d=some o->L.get? d=some o:=λd o d1 d2 d3 d4 e=>s5.extBut _ _ d2 (s4.extBut _ _ d4 (s3.extBut _ _ d2 (s2.extBut _ _ d3 (s1.extBut _ _ d1 e))));have j1:IterIs b L i1 l1 (k+1):=k1.at λo e=>s5.extBut _ _ D.a8.symm (s4.extBut _ _ D.a10 (s3.extBut _ _ D.a8.symm e));have j2:IterIs c L i2 l2 (k+1):=k2.at λo e=>s5.extBut _ _ D.a9.symm e;have zl:z<L.objs.size:=zt z5;show wpAny _ A (Builtin.SmallTypes.ownedTupleHandOut (.ref z) (.ref L.objs.size) >>= _) _ _ _;refine zb ?_;unfold Builtin.SmallTypes.ownedTupleHandOut;have z6:IsZip (L.push { cls:=.type "tuple",data:=.seq #[x,y] }) z ti to .ellipsis:=zh _ z5
 refine zb (yk z6 (by simp) λg7 z7 s7=>?_)
 replace z7:IsZip g7 z ti to (rawInt L.objs.size):=z7
 refine yk z7 (by simp) λg8 z8 s8=>?_
 replace z8:IsZip g8 z ti to (rawInt L.objs.size):=z8
 have up:∀d o,d≠z->L.get? d=some o->g8.get? d=some o:=λd o d1 e=>s8.extBut _ _ d1 (s7.extBut _ _ d1 (zh _ e));have T8:IsPair g8 L.objs.size x y:=s8.extBut _ _ (xQ zl) (s7.extBut _ _ (xQ zl) (zr _ rfl));rw[sz] at z8 T8;refine zd ⟨_,rfl,?_⟩;show Q (.ref L.objs.size) _;rw[sz];exact hQ g8 ⟨z8,up _ _ D.a1 (kp _ _ D.a1 D.a5 D.a6 D.a7 ag),⟨_,_,up _ _ D.a2 J⟩,j1.at λo e=>up _ o D.a3 e,j2.at λo e=>up _ o D.a4 e⟩ T8 λd o d1 d2 d3 d4 e=>up d o d1 (kp d o d1 d2 d3 d4 e)
def zF3{b c:Bool}{k:Nat}(hh:A.handled=none)(D:ZApart z ti to i1 i2)(S:ZSt b c z ti to i1 i2 l1 l2 k s.heap)
  (af:SeqIs b s.heap l1 xs) (ae:SeqIs c s.heap l2 ys) (n1:l1≠to) (n2:l2≠to) (ag:xs[k]?=none\/ys[k]?=none)
  (hE:∀h' e,(∀d o,d≠z->d≠to->d≠i1->d≠i2->s.heap.get? d=some o->h'.get? d=some o)->(∃o,h'.get? e=some o/\o.cls=.type "StopIteration")->E (.ref e) { s with heap:=h' }) :
  wpAny (model prog w) A (Builtin.«zip.__next__» ⟨[.ref z],[]⟩) Q E s:=by
 obtain⟨m1,m2,m3⟩:=S.apartL af n1;obtain⟨m4,m5,m6⟩:=S.apartL ae n2;obtain⟨hz,ai,⟨u,v,ah⟩,h1,h2⟩:=S;show wpAny _ A (field (.ref z) 2 >>= _) _ _ _;refine zb (wh (x:=.bool false) hz rfl rfl ?_);show wpAny _ A (field (.ref z) 3 >>= _) _ _ _;refine zb (wh (x:=.ref ti) hz rfl rfl ?_);refine zb (wz ai rfl ?_);show wpAny _ A (Builtin.SmallTypes.ownedTupleIsFree (.ref z) >>= _) _ _ _;refine zb ?_;unfold Builtin.SmallTypes.ownedTupleIsFree;refine zb (wh (x:=.none) hz rfl rfl (zd ?_));simp only[if_true];refine zb (ye ?_);refine zb (wh (x:=.ref to) hz rfl rfl ?_)
 refine zb (yk hz (by simp) λg1 O s1=>?_)
 replace O:IsZip g1 z ti to .ellipsis:=O
 refine zb ?_;simp only[forIn_cons,forIn_nil,zipIdx_cons,List.zipIdx_nil];refine zb (zb (wpAny_onRaise ?_));show wpAny _ A (Builtin.SmallTypes.nextOf (.ref i1) >>= _) _ _ _;have q1:IterIs b g1 i1 l1 k:=h1.at λo e=>s1.extBut _ _ D.a3 e;have q2:SeqIs b g1 l1 xs:=af.at λo e=>s1.extBut _ _ m1 e
 cases hx:xs[k]? with
 |none=>
  refine zb (Za hh q1 q2 hx λg2 e Y he=>?_);obtain⟨oe,J,L⟩:=he;have z2:IsZip g2 z ti to .ellipsis:=Y _ _ D.a3.symm O
  have ad:e≠z:=λq=>by subst q;rw[z2] at J;cases J;exact absurd (Value.type.inj L) q9
  exact yk z2 (by simp) λg3 _ s3=>hE g3 e (λd o d1 _ d3 _ q=>s3.extBut _ _ d1 (Y _ _ d3 (s1.extBut _ _ d1 q))) ⟨oe,s3.extBut _ _ ad J,L⟩
 | some x =>
  have hy:ys[k]?=none:=by
   rcases ag with h |h
   ·rw[hx] at h;cases h
   ·exact h
  refine zb (Yz q1 q2 hx λg2 k1 Y=>zd ?_);have aa:IsPair g2 to u v:=Y.extBut _ _ D.a8 (s1.extBut _ _ D.a2 ah);refine zb (wz aa rfl ?_);refine zb (wpAny_updateSeq_pair aa λg3 aj s3=>?_);refine zb (yo (zd ?_));refine zb (zb (wpAny_onRaise ?_));show wpAny _ A (Builtin.SmallTypes.nextOf (.ref i2) >>= _) _ _ _;refine zb (Za hh (h2.at λo e=>s3.extBut _ _ D.a9.symm (Y.extBut _ _ D.a10.symm (s1.extBut _ _ D.a4 e))) (ae.at λo e=>s3.extBut _ _ n2 (Y.extBut _ _ m5 (s1.extBut _ _ m4 e))) hy λg4 e s4 he=>?_);obtain⟨oe,J,L⟩:=he;have z4:IsZip g4 z ti to .ellipsis:=s4 _ _ D.a4.symm (s3.extBut _ _ D.a2.symm (Y.extBut _ _ D.a3.symm O))
  have ad:e≠z:=λq=>by subst q;rw[z4] at J;cases J;exact absurd (Value.type.inj L) q9
  exact yk z4 (by simp) λg5 _ s5=>hE g5 e (λd o d1 d2 d3 d4 q=>s5.extBut _ _ d1 (s4 _ _ d4 (s3.extBut _ _ d2 (Y.extBut _ _ d3 (s1.extBut _ _ d1 q))))) ⟨oe,s5.extBut _ _ ad J,L⟩
def zL4{b c:Bool}{k:Nat}(D:ZApart z ti to i1 i2)(S:ZSt b c z ti to i1 i2 l1 l2 k s.heap)
  (L:SeqIs b s.heap l1 xs) (J:SeqIs c s.heap l2 ys) (n1:l1≠to) (Y:l2≠to) (hx:xs[k]?=some x) (hy:ys[k]?=some y)
  (hQ:∀h',ZMid b c z ti to i1 i2 l1 l2 k s.heap.objs.size h'->IsPair h' s.heap.objs.size x y->(∀d o,d≠z->d≠to->d≠i1->d≠i2->s.heap.get? d=some o->h'.get? d=some o)->Q (some (.ref s.heap.objs.size)) { s with heap:=h' }) :
  wpAny (model prog w) A (pyNext (.ref z)) Q E s:=by
 have O:s.TypeIs (.ref z) "zip" := ⟨_,S.z,rfl⟩;unfold pyNext
 exact zb (wpAny_attempt (xy (name:=Str.ofString "__next__") O F.slot_zip_next (wj F.slot_zip_next O F.entry_zip_next
  (zF4 D S L J n1 Y hx hy λh' a1 a2 a3=>zd (hQ h' a1 a2 a3)) (F.args_zip_next_1 _))))
def KS{b c:Bool}{k:Nat}(hh:A.handled=none)(D:ZApart z ti to i1 i2)(S:ZSt b c z ti to i1 i2 l1 l2 k s.heap)
  (O:SeqIs b s.heap l1 xs) (L:SeqIs c s.heap l2 ys) (n1:l1≠to) (n2:l2≠to) (J:xs[k]?=none\/ys[k]?=none)
  (hQ:∀h',(∀d o,d≠z->d≠to->d≠i1->d≠i2->s.heap.get? d=some o->h'.get? d=some o)->Q none { s with heap:=h' }):wpAny (model prog w) A (pyNext (.ref z)) Q E s:=by
 have Y:s.TypeIs (.ref z) "zip" := ⟨_,S.z,rfl⟩;unfold pyNext
 refine zb (wpAny_attempt (xy (name:=Str.ofString "__next__") Y F.slot_zip_next (wj F.slot_zip_next Y F.entry_zip_next
  (zF3 hh D S O L n1 n2 J λh' e hk he=>?_) (F.args_zip_next_1 _))))
 obtain⟨o,ho,hc⟩:=he;refine zb (wpAny_isInstance (T := "StopIteration") (b:=true) ⟨o,ho,hc⟩ isSubtype_stop (zd (hQ _ hk)))
def zh1(h:Heap)(b:Bool)(l:Addr):Heap:=h.push { cls:=.type (Vs b),data:=.fields #[.ref l,.int 0 0] }
def zh3(h:Heap)(b c:Bool)(l1 l2:Addr):Heap:=(zh1 (zh1 h b l1) c l2).push { cls:=.type "tuple",data:=.seq #[.ref h.objs.size,.ref (zh1 h b l1).objs.size] }
def zh4(h:Heap)(b c:Bool)(l1 l2:Addr):Heap:=(zh3 h b c l1 l2).push { cls:=.type "tuple",data:=.seq #[.none,.none] }
def zh5(h:Heap)(b c:Bool)(l1 l2:Addr):Heap:=(zh4 h b c l1 l2).push { cls:=.type "zip",data:=.fields #[.none,.bool false,.bool false,.ref (zh1 (zh1 h b l1) c l2).objs.size,.ref (zh3 h b c l1 l2).objs.size] }
end
def zw2(b c:Bool)(l1 l2:Addr)(xs ys:Array Value) :
  Meets (Builtin.«zip.__new__» ⟨[.type "zip",.ref l1,.ref l2],[]⟩) (λ_ R s=>SeqIs b s.heap l1 xs/\SeqIs c s.heap l2 ys /\
   R (.ok (.ret (.ref (zh4 s.heap b c l1 l2).objs.size))) { s with heap:=zh5 s.heap b c l1 l2 }):=
 .of_wp λprog w A R s h=>by
  obtain⟨Y,g,d,tk,os⟩:=s;obtain⟨L,J,h⟩:=h;have O:=sub_zip;have q1:SeqIs b (Shared.heap ⟨Y,g,d,tk,os⟩) l1 xs:=L;have q2:SeqIs c (Shared.heap ⟨Y.push { cls:=.type (Vs b),data:=.fields #[.ref l1,.int 0 0] },g,d,tk,os⟩) l2 ys:=J.at λo e=>zh _ e
  wp_walk using Vg q1,Vg q2
  exact⟨_,rfl,h⟩
section
variable {prog:Program}{w:World}{A:Around}{E:QqV}{s:Shared}
def zP0{b c:Bool}(ad:SeqIs b s.heap l1 xs)(aa:SeqIs c s.heap l2 ys)
  (h:∀h' z ti to i1 i2,ZApart z ti to i1 i2->ZSt b c z ti to i1 i2 l1 l2 0 h'->(∀d∈[z,ti,to,i1,i2],s.heap.objs.size<=d)->(∀d o,s.heap.get? d=some o->h'.get? d=some o)->Q (.ref z) { s with heap:=h' }) :
  wpAny (model prog w) A (call (.type "zip") [.ref l1,.ref l2]) Q E s:=by
 refine callType_new F.called_zip q9 (F.typeCall_zip_2 _ _) (F.newCall_zip_2 _ _) (λobj=>F.args_object_init_3 obj _ _) F.entry_zip_new (zw2 b c l1 l2 xs ys) ⟨ad,aa,?_⟩
 unfold zh5 zh4 zh3;generalize h1:zh1 s.heap b l1=J;generalize h2:zh1 J c l2=O
 have z1:J.objs.size=s.heap.objs.size+1:=by rw[<- h1];exact wc ..
 have z2:O.objs.size=s.heap.objs.size+2:=by rw[<- h2];exact(wc ..).trans (by rw[z1])
 generalize h3:O.push { cls:=.type "tuple",data:=.seq #[.ref s.heap.objs.size,.ref J.objs.size] }=L
 have z3:L.objs.size=s.heap.objs.size+3:=by rw[<- h3,wc,z2]
 generalize h4:L.push { cls:=.type "tuple",data:=.seq #[.none,.none] }=g4
 have z4:g4.objs.size=s.heap.objs.size+4:=by rw[<- h4,wc,z3]
 have e1:J.get? s.heap.objs.size=some { cls:=.type (Vs b),data:=.fields #[.ref l1,.int 0 0] }:=by rw[<- h1];exact zr _ rfl
 have e2:O.get? J.objs.size=some { cls:=.type (Vs c),data:=.fields #[.ref l2,.int 0 0] }:=by rw[<- h2];exact zr _ rfl
 have e3:L.get? O.objs.size=some { cls:=.type "tuple",data:=.seq #[.ref s.heap.objs.size,.ref J.objs.size] }:=by rw[<- h3];exact zr _ rfl
 have e4:g4.get? L.objs.size=some { cls:=.type "tuple",data:=.seq #[.none,.none] }:=by rw[<- h4];exact zr _ rfl
 have k1:∀d o,s.heap.get? d=some o->J.get? d=some o:=λd o e=>by rw[<- h1];exact zh _ e
 have k2:∀d o,J.get? d=some o->O.get? d=some o:=λd o e=>by rw[<- h2];exact zh _ e
 have k3:∀d o,O.get? d=some o->L.get? d=some o:=λd o e=>by rw[<- h3];exact zh _ e
 have Y:∀d o,L.get? d=some o->g4.get? d=some o:=λd o e=>by rw[<- h4];exact zh _ e
 show _/\_;refine⟨⟨_,zr _ rfl,rfl⟩,?_⟩;refine h _ g4.objs.size O.objs.size L.objs.size s.heap.objs.size J.objs.size ⟨?_,?_,?_,?_,?_,?_,?_,?_,?_,?_⟩ ⟨zr _ rfl,zh _ (Y _ _ e3),⟨_,_,zh _ e4⟩,?_,?_⟩ (λd hd=>?_) λd o e=>zh _ (Y _ _ (k3 _ _ (k2 _ _ (k1 _ _ e))))
 ·rw[z2,z4];first |exact zA q5 |exact xQ q5
 ·rw[z3,z4];first |exact zA q5 |exact xQ q5
 ·rw[z4];first |exact zA q5 |exact xQ q5
 ·rw[z1,z4];first |exact zA q5 |exact xQ q5
 ·rw[z2,z3];first |exact zA q5 |exact xQ q5
 ·rw[z2];first |exact zA q5 |exact xQ q5
 ·rw[z2,z1];first |exact zA q5 |exact xQ q5
 ·rw[z3];first |exact zA q5 |exact xQ q5
 ·rw[z3,z1];first |exact zA q5 |exact xQ q5
 ·rw[z1];first |exact zA q5 |exact xQ q5
 ·cases b<;>exact⟨_,zh _ (Y _ _ (k3 _ _ (k2 _ _ e1))),rfl,rfl⟩
 ·cases c<;>exact⟨_,zh _ (Y _ _ (k3 _ _ e2)),rfl,rfl⟩
 ·simp only [zj, zI, or_false] at hd
  rcases hd with rfl |rfl |rfl |rfl |rfl
  ·rw[z4];lia
  ·rw[z2];lia
  ·rw[z3];lia
  ·exact zo _
  ·rw[z1];lia
end
end L2
namespace L2
def Inv.track(I:Inv X pins σ H s)(hn:H a=none)(hz:X.s₀.heap.objs.size<=a)(hL:a≠X.env.locals)
  (hc:∀x c,X.env.cells.lookup x=some c->c≠a) (hp:∀p∈X.pn++pins,p.1≠a) (L:ObjOk X.prog X.w (upd H a o) s.heap a o):Inv X pins σ (upd H a o) s:=by
 have J:∀b u,H b=some u->b≠a:=λb u e=>yd e hn;refine⟨I.ok,I.os,I.bare,⟨I.base.keep,I.base.slot,λb u e n hx=>?_,I.base.there,λb xs e=>?_,λb u xs e=>?_,λb ps e=>?_⟩,I.loc,I.cell,?_,λx c e=>?_,λp O=>?_,λb u e=>?_,I.len⟩
 ·rw[xX (zA (zX (zt e) hz))];exact I.base.free b u e n hx
 ·have q:=I.base.tups b xs e;rw[xX (J b _ q)];exact q
 ·have q:=I.base.frzs b u xs e;rw[xX (J b _ q)];exact q
 ·obtain⟨m,q⟩:=I.base.tbls b ps e;exact⟨m,by rw[xX (J b _ q)];exact q⟩
 ·rw[xX (Ne.symm hL)];exact I.free
 ·rw[xX (hc x c e)];exact I.freeC x c e
 ·obtain ⟨q1, q2, q3⟩ := I.pin p O
  exact⟨q1,by rw[xX (hp p O)];exact q2,q3⟩
 ·by_cases Y : b = a
  ·subst Y;rw[yb] at e;cases e;exact L
  ·rw [xX Y] at e
   exact(I.hok b u e).stay (λ_ _ _ q=>q) (λc q=>by rw[xX (J c _ q)];exact q) (λc xs q=>by rw[xX (J c _ q)];exact q) λc o u q=>by rw[xX (J c _ q)];exact q
structure CompOk(X:Cx)(scope:Scope)(M:List Str):Prop where
 kind:scope.kind=.function
 uniq:∀y∈scope.names,scope.names.lookup y.1=some y.2
 frees:∀y∈scope.names,y.2=.free->(X.env.kindOf y.1=some .cell\/X.env.kindOf y.1=some .free)
 shadow:∀x∈M,scope.names.lookup x≠some .local/\scope.names.lookup x≠some .cell
 same:∀(i:Nat) (x:Str),M[i]?=some x->scope.names.lookup x=some .free->X.N[i]?=some x
 mlen:M.length=X.N.length
def zC4(N M:List Str)(J sc:Scope):Bool:=
 (sc.kind == .function && sc.names.all (λy => sc.names.lookup y.1 == some y.2 && (y.2 != .free || (J.names.lookup y.1 == some .cell || J.names.lookup y.1 == some .free))) &&
  M.all (λx=>sc.names.lookup x != some .local&&sc.names.lookup x != some .cell))&&(M.length == N.length&&(M.zip N).all (λp=>sc.names.lookup p.1 != some .free||p.1 == p.2))
def vD(h:zC4 X.N M X.env.scope sc=true):CompOk X sc M:=by
 unfold zC4 at h;rw[zG,zG,zG,zG,wY,wY,wY] at h;obtain⟨⟨⟨h1,h2⟩,h3⟩,h4,h5⟩:=h
 have hl:M.length=X.N.length:=by simpa using h4
 refine⟨by simpa using h1,λy J=>?_,λy J O=>?_,λx hx=>?_,λi x hi O=>?_,hl⟩
 ·have := h2 y J;rw[zG] at this
  simpa using this.1
 ·have := h2 y J;rw[zG] at this;have q:=this.2;rw[O] at q
  have q':(X.env.scope.names.lookup y.1 == some .cell||X.env.scope.names.lookup y.1 == some .free)=true:=by simpa using q
  rw[Bool.or_eq_true] at q'
  exact q'.imp (λz=>(show X.env.scope.names.lookup y.1=some .cell by simpa using z)) λz=>(show X.env.scope.names.lookup y.1=some .free by simpa using z)
 ·have := h3 x hx;rw[zG] at this
  exact⟨by simpa using this.1,by simpa using this.2⟩
 ·have L : i < X.N.length := by rw [<- hl]; exact (zm.mp hi).1
  have Y:X.N[i]?=some X.N[i]:=ze L
  have hz:(M.zip X.N)[i]?=some (x,X.N[i]):=by rw[List.getElem?_zip_eq_some];exact⟨hi,Y⟩
  have:=h5 _ (zM hz);rw[Bool.or_eq_true] at this
  rcases this with z |z
  ·rw[O] at z;simp at z
  ·have e : x = X.N[i] := by simpa using z
   rw[Y,<- e]
def jC(X:Cx)(scope:Scope)(C:Addr):List (Str × Addr):=cellsFrom (C+1) scope.names (ZD X.env scope.names [])
def wa(X:Cx)(scope:Scope)(own M:List Str)(C:Addr)(J:Shared)(H2:Hp)(fp:List Addr):Cx where
 prog:=X.prog
 w:=X.w
 K:=X.K
 mg:=X.mg
 base:=X.base
 A:=X.A
 N:=own++M
 s₀:=J
 H₀:=H2
 env:=compEnvC scope (jC X scope C) C X.env
 outer:=X.stack
 stack:=X.stack
 ex:=fp
 fn:=λx=>scope.names.lookup x == some .cell
 calm:=X.calm
 pn:=[]
 xe:=λ_ _=>False
def PTs(X:Cx)(ifs:List Expr)(t:TT):Prop:=
 ∀(pins:QqL) (s:Shared) (σ:St) (H:Hp) (Q:Bool->Hp->Prop),Inv X pins σ H s->t σ H Q->wpAny (model X.prog X.w) X.A (YV ifs X.env) (TP X pins σ Q) X.xe s
def xM3:TT:=λ_ H Q=>Q true H
def zW2:PTs X [] xM3:=λ_ _ _ H _ I h=>zd ⟨H,I,h⟩
def zW1{X:Cx}{c:Expr}{t:TT}(J:PT X c t):PTs X [c] t:=by
 intro pins s σ H Q I h;show wpAny _ _ (forIn [c] true _) _ _ s;simp only[forIn_cons,forIn_nil,if_true];exact zb (zb (thn (J pins s σ H Q I h) λb s' L=>zd (zd L)))
def zG4(wi:TI)(own:Nat)(g:TG)(tt:TT)(te:TE):TE:=λσ H Q=>wi σ H λJ H1=>∃W:Nat->Nat->List V->Hp->Prop,(∃m,W 0 m [] H1)/\∀i m acc H,W i m acc H ->
 (J.stop i H/\acc.length<=sizeLine/\∀D,H D=none->Q (.ref D) (upd H D (.lst acc))) \/
 (J.go i H /\ acc.length < sizeLine /\ ∀ x H', J.yld i H x H' -> g x (List.replicate own none ++ σ) H' λL H2 => L.drop own = σ /\ tt L H2 λc O =>
  if c=true then te L O λv Y=>∃m',m'<m/\W (i+1) m' (acc++[v]) Y else ∃m',m'<m/\W (i+1) m' acc O)
section
variable {X:Cx}{scope:Scope}{own M:List Str}{pins:QqL}{σ:St}{H2:Hp}{s2:Shared}{fp:List Addr}
def CompOk.cells(ok:CompOk X scope M)(I:Inv X pins σ H2 s2):∀y∈scope.names,y.2=.free->∃c,X.env.cells.lookup y.1=some c:=λy J L=>I.ok.has y.1 (ok.frees y J L)
def CompOk.kindIn(ok:CompOk X scope M)(h:(compEnvC scope (jC X scope C) C X.env).kindOf x=some k) :
  scope.names.lookup x=some k\/(k=.cell/\scope.names.lookup x=some .free):=by
 have h':(relabel scope X.env).names.lookup x=some k:=h;unfold relabel at h';rw[YO] at h'
 cases e:scope.names.lookup x with
 |none=>rw[e] at h';simp at h'
 | some j =>
  rw[e,Option.map_some] at h';have J:=zP h'
  split at J
  ·rename_i L
   have:j=.free:=by
    rw[zG,zG] at L
    simpa using L.1.1
   exact .inr ⟨J.symm,by rw[this]⟩
  ·exact .inl (by rw[J])
def CompOk.cellsFrom_old(ok:CompOk X scope M)(I:Inv X pins σ H2 s2)(h:(jC X scope C).lookup x=some c)(hx:scope.names.lookup x≠some .cell):X.env.cells.lookup x=some c:=by
 have e0:∀(l:List (Str × NameKind)) (n:Nat) (acc:List (Str × Addr)),(x,NameKind.cell) ∉ l->(cellsFrom n l acc).lookup x=acc.lookup x:=by
  intro l
  induction l with
  |nil=>intro n acc _;rfl
  | cons y r L =>
   intro n acc J;obtain⟨m,k⟩:=y;unfold cellsFrom
   split
   ·rename_i hk
    have hk':k=.cell:=by simpa using hk
    rw[L _ _ λz=>J (zn _ z),zV]
    have:(x == m)=false:=by
     cases Y:x == m with
     |false=>rfl
     |true=>
      have e:x=m:=by simpa using Y
      exact absurd (by rw[hk',e];exact xf) J
    rw[this]
   ·exact L _ _ λz=>J (zn _ z)
 unfold jC at h;rw[e0 _ _ _ λO=>hx (ok.uniq _ O)] at h
 exact kZ scope.names [] (ok.cells I) (λ_ _ z=>by simp at z) x c h
end
section
variable {X:Cx}{scope:Scope}{own M:List Str}{pins:QqL}{σ:St}{H2:Hp}{s2:Shared}{tg iter elt:Expr}{ifs:List Expr}{pos:Pos}{g:TG}{tt:TT}{te:TE}
section
variable {X:Cx}{scope:Scope}{own M:List Str}{pins:QqL}{σ:St}{H2:Hp}{s2:Shared}{fp:List Addr}
def zy5(ok:CompOk X scope M)(hc:X.calm=true)(I:Inv X pins σ H2 s2)(hf:∀b∈fp,FpOk X pins H2 b/\b<s2.heap.objs.size)(O:C=s2.heap.objs.size+1)
  (hh:h4=pushCells ((s2.heap.push o0).push { cls:=.type "dict",data:=.dict #[] }) scope.names) :
  Inv (wa X scope own M C s2 H2 fp) [] (replicate own.length none++σ) H2 { s2 with heap:=h4 }:=by
 have zC:(s2.heap.push o0).objs.size=C:=by rw[wc,O]
 have aa:((s2.heap.push o0).push { cls:=.type "dict",data:=.dict #[] }).objs.size=C+1:=by rw[wc,zC]
 have keep:∀b o,s2.heap.get? b=some o->h4.get? b=some o:=λb o e=>by
  rw[hh];exact pushCells_keeps _ _ _ _ (zh _ (zh _ e))
 have cellOld:∀x c,X.env.cells.lookup x=some c->c<s2.heap.objs.size:=λx c e=>by obtain⟨v,q⟩:=I.cell x c e;exact q.lt
 have J:∀x c,(jC X scope C).lookup x=some c->(h4.IsCell c none/\C+1<=c/\scope.names.lookup x=some .cell)\/X.env.cells.lookup x=some c:=λx c e=>by
  by_cases hx:scope.names.lookup x=some .cell
  ·have e' := e;unfold jC at e';rw[<- aa] at e'
   rcases zC8 _ _ _ x c e' with ⟨a,b,d⟩ |q
   ·exact .inl ⟨by rw[hh];exact a,by rw[aa] at b;exact b,hx⟩
   ·exact .inr (kZ scope.names [] (ok.cells I) (λ_ _ z=>by simp at z) x c q)
  ·exact .inr (ok.cellsFrom_old I e hx)
 have ah:∃m,h4.Ns C m:=by
  have q:((s2.heap.push o0).push { cls:=.type "dict",data:=.dict #[] }).Ns C (λ_=>none):=by
   have:=Heap.Ns.new (s2.heap.push o0) (.type "dict");rw[zC] at this;exact this
  exact⟨_,q.keeps λb o e=>by rw[hh];exact pushCells_keeps _ _ _ _ e⟩
 have af:∀b∈fp,b ∉ frs X.stack:=λb hb hx=>by
  obtain⟨⟨_,f1,f2,_⟩,_⟩:=hf b hb
  rcases zj.mp (I.stkSub b hx) with e |e
  ·exact f1 e
  ·exact f2 e
 obtain⟨mC,ag⟩:=ah
 refine⟨⟨I.ok.mod,ok.kind,I.ok.glob,I.ok.blt,?_,?_,?_,?_,I.ok.hd,I.ok.frames,.inl rfl,?_,I.bs,?_,?_,af,I.stack,I.stkFree⟩,rfl,I.bare,Un.kept keep,⟨mC,ag,?_⟩,?_,I.hok.fresh (by show s2.heap.objs.size<=C;rw[O];exact wl _),?_,λp hp=>absurd (show p∈([]:QqL) from hp) (by simp),I.hok.kept keep,?_⟩
 ·show s2.heap.objs.size<=C;rw[O];exact wl _
 ·intro x y c h1 h2;refine zC6 scope.names (C+1) (ZD X.env scope.names []) (λa b d p q=>?_) (λa d p=>?_) x y c h1 h2
  ·exact I.ok.inj a b d (kZ scope.names [] (ok.cells I) (λ_ _ z=>by simp at z) a d p) (kZ scope.names [] (ok.cells I) (λ_ _ z=>by simp at z) b d q)
  ·have := cellOld a d (kZ scope.names [] (ok.cells I) (λ_ _ z => by simp at z) a d p)
   rw[O];exact wL (wL this)
 ·intro x hx
  have go:∀k,(k=NameKind.cell\/k=NameKind.free)->(compEnvC scope (jC X scope C) C X.env).kindOf x=some k->∃c,(jC X scope C).lookup x=some c:=λk hk e=>by
   rcases ok.kindIn e with e |⟨_,e⟩
   ·rcases hk with rfl | rfl
    ·exact zC7 _ _ _ (PySem.mem_of_lookup e)
    ·exact YE _ _ _ (jB (y:=(x,.free)) rfl _ _ (PySem.mem_of_lookup e))
   ·exact YE _ _ _ (jB (y:=(x,.free)) rfl _ _ (PySem.mem_of_lookup e))
  rcases hx with e |e
  ·exact go _ (.inl rfl) e
  ·exact go _ (.inr rfl) e
 ·intro x c hx h
  have hx':scope.names.lookup x=some .cell:=by simpa [wa] using hx
  have:=xd4 (x:=x) scope.names (C+1) (ZD X.env scope.names []) (C+1) (zo _) (.inl (PySem.mem_of_lookup hx')) c h;show s2.heap.objs.size<=c
  exact zK (by rw[O];exact zK (wl _) (wl _)) this
 ·intro b hb;obtain⟨⟨_,_,_,_,f4,_⟩,f6⟩:=hf b hb;refine⟨?_,λx c h=>?_⟩
  ·show b≠C;rw[O];exact zA (wL f6)
  ·rcases J x c h with ⟨_, q, _⟩ | q
   ·rw[O] at q;exact xQ (zX f6 (zK (zK (wl _) (wl _)) q))
   ·exact f4 x c q
 ·exact zK I.ok.bsz I.sz
 ·intro b o e hb;obtain⟨⟨_,_,_,f3,_⟩,_⟩:=hf b hb
  rcases f3 with z |z
  ·exact I.ok.noex b o e z
  ·exact absurd (zX (zt (I.ok.bs b o e).1) z) (xx _)
 ·intro i x v h1 h2 h3;have h2':(replicate own.length (none:Option V)++σ)[i]?=some (some v):=h2
  have hi:own.length<=i:=by
   apply Nat.le_of_not_lt;intro ad
   rw[wq (by simpa using ad),xt] at h2'
   rw[if_pos ad] at h2';cases h2'
  rw[xN (by simpa using hi),wA] at h2'
  have h1':(own++M)[i]?=some x:=h1;rw[xN hi] at h1';obtain⟨n1,n2⟩:=ok.shadow x (zM h1')
  have Y:scope.names.lookup x=some .free/\((compEnvC scope (jC X scope C) C X.env).kindOf x=some .cell\/(compEnvC scope (jC X scope C) C X.env).kindOf x=some .free):=by
   rcases h3 with e |e |e
   ·rcases ok.kindIn (x := x) (C := C) e with q | ⟨q, _⟩
    ·exact absurd q n1
    ·cases q
   ·rcases ok.kindIn (x := x) (C := C) e with q | ⟨_, q⟩
    ·exact absurd q n2
    ·exact⟨q,.inl e⟩
   ·rcases ok.kindIn (x := x) (C := C) e with q | ⟨q, _⟩
    ·exact⟨q,.inr e⟩
    ·cases q
  obtain⟨L,hk⟩:=Y;obtain⟨m,hn,hl⟩:=I.loc;have ae:=ok.frees (x,.free) (PySem.mem_of_lookup L) rfl;have h1':=ok.same _ _ h1' L;obtain⟨u,ru,lk⟩:=hl (i-own.length) x v h1' h2' (ae.elim (λz=>.inr (.inl z)) λz=>.inr (.inr z));refine⟨u,ru,.inr ⟨hk,?_⟩⟩
  rcases lk with ⟨k,_⟩ |⟨_,c,ec,ic⟩
  ·rcases ae with z |z<;>(rw[k] at z;cases z)
  ·obtain ⟨c', e'⟩ : ∃ c', (jC X scope C).lookup x = some c' := YE _ _ _ (jB (y := (x, .free)) rfl _ _ (PySem.mem_of_lookup L));refine⟨c',e',?_⟩
   have:=ok.cellsFrom_old I e' (by rw[L];simp)
   have e2:some c=some c':=ec.symm.trans this;cases e2;exact ic.keeps keep
 ·intro x c h
  rcases J x c h with ⟨q,_⟩ |q
  ·exact⟨_,q⟩
  ·obtain⟨v,z⟩:=I.cell x c q;exact⟨v,z.keeps keep⟩
 ·intro x c h
  rcases J x c h with ⟨q,q2,_⟩ |q
  ·exact I.hok.fresh (by rw[O] at q2;exact zK (zK (wl _) (wl _)) q2)
  ·exact I.freeC x c q
 ·show(List.replicate own.length (none:Option V)++σ).length=(own++M).length;rw[zu,zu,wA,I.len,ok.mlen]
end
def zm7(σ σ':St):Prop:=∀(j:Nat) (v:V),σ[j]?=some (some v)->σ'[j]?=some (some v)
def vQ{m:Nat}(h:sg2.drop m=sg):zm7 (replicate m none++sg) sg2:=by
 intro j v e
 by_cases J:j<m
 ·rw [wq (by simpa using J), xt, if_pos J] at e
  cases e
 ·rw [xN (by simpa using Nat.le_of_not_lt J), wA, <- h, List.getElem?_drop] at e
  rw[show m+(j-m)=j by lia] at e
  exact e
section
variable {X:Cx}{pins:QqL}{σ:St}{H:Hp}{s:Shared}
def Inv.pin1(I:Inv X pins σ H s)(L:FpOk X pins H a)(ho:s.heap.get? a=some o)(O:∀v,o.data≠.cell v):Inv X ((a,o)::pins) σ H s:=by
 refine⟨I.ok,I.os,I.bare,I.base,I.loc,I.cell,I.free,I.freeC,λp J=>?_,I.hok,I.len⟩
 rcases xi.mp J with J |J
 ·exact I.pin p (xv _ J)
 ·rcases zj.mp J with rfl | J
  ·exact⟨ho,L.1,L.2.1,L.2.2.1,O⟩
  ·exact I.pin p (zL _ J)
def Inv.unpin(I:Inv X (q::pins) σ H s):Inv X pins σ H s:=
 ⟨I.ok,I.os,I.bare,I.base,I.loc,I.cell,I.free,I.freeC,λp J=>I.pin p (by
  rcases xi.mp J with J |J
  ·exact xv _ J
  ·exact zL _ (zn _ J)),I.hok,I.len⟩
def Inv.pinAt(I:Inv X pins σ H s)(h:q∈pins):s.heap.get? q.1=some q.2/\H q.1=none:=
 let z:=I.pin q (zL _ h);⟨z.1,z.2.1⟩
end
section
variable {X:Cx}{pf:QqL}{σ:St}{H:Hp}{s:Shared}
def Inv.bump{t:Nat}(I:Inv X ((D,ob)::pf) σ H s)(f:FpOk X pf H D)(hs:Heap.SameBut D s.heap h')(ho:h'.get? D=some ob')(nc:∀v,ob'.data≠.cell v):Inv X ((D,ob')::pf) σ H { s with heap:=h',toks:=t }:=
 Inv.pin1 (I.unpin.turned (t':=t) (λb o J e=>hs.extBut b o J e) f.1 f.2.1 f.2.2.2.1 f.2.2.2.2.1 f.2.2.2.2.2) f ho nc
end
section
variable {X:Cx}{scope:Scope}{own M:List Str}{pins:QqL}{σ:St}{H2:Hp}{s2:Shared}{tg iter elt:Expr}{ifs:List Expr}{pos:Pos}{g:TG}{tt:TT}{te:TE}
abbrev cxC(X:Cx)(scope:Scope)(own M:List Str)(s2:Shared)(H2:Hp)(fp:List Addr):Cx:=wa X scope own M (s2.heap.objs.size+1) s2 H2 fp
def UL{α:Type}{nil:α}{e:Expr}{o0:Obj}{ho:Addr->α->HO}{DO:α->Obj->Prop}{SZ GZ:α->Prop}{KK:St->Prop}{TB:Nat->Nat->α->St->Hp->Prop}{ad:(Shared->Prop)->Shared->Prop}(nc:∀a ob,DO a ob->∀v,ob.data≠.cell v)(h0:DO nil o0)(fr:o0.isFreed=false)
  (ok:CompOk X scope M) (hc:X.calm=true) {fp:List Addr} (hg:PG (cxC X scope own M s2 H2 fp) tg g) (ht:PTs (cxC X scope own M s2 H2 fp) ifs tt) (kk:∀σ',KK σ'->zm7 (replicate own.length none++σ) σ')
  (I2:Inv X pins σ H2 s2) {it:Addr}{tn:Nat->Heap->Prop}{J:It} (T:Turn X.prog X.w X.K tg J fp it tn) (al:tn 0 s2.heap) (f2:∀b∈fp,FpOk X pins H2 b) {W:Nat->Nat->α->Hp->Prop} (w0:∃m,W 0 m nil H2) {Qf:V->Hp->Prop}
  (turn : ∀ i m acc H, W i m acc H -> (J.stop i H /\ SZ acc /\ ∀ D, H D = none -> Qf (.ref D) (upd H D (ho D acc))) \/
   (J.go i H/\GZ acc/\∀x H',J.yld i H x H'->g x (replicate own.length none++σ) H' λσ2 H2=>KK σ2/\tt σ2 H2 λc H3=>if c=true then TB i m acc σ2 H3 else ∃m',m'<m/\W (i+1) m' acc H3))
  (ar:∀i m acc H ob h,W i m acc H->SZ acc->DO acc ob->H s2.heap.objs.size=none->h.get? s2.heap.objs.size=some ob->ObjOk X.prog X.w (upd H s2.heap.objs.size (ho s2.heap.objs.size acc)) h s2.heap.objs.size (ho s2.heap.objs.size acc))
  (loop : ∀ (R : Result -> Shared -> Prop) (L : Nat -> Shared -> Prop), (∀ n s, L n s -> wpAny (model X.prog X.w) X.A (pyNext (.ref it)) (λr s1 => match r with
   |none=>R (.ok .next) s1
   | some v => wpAny (model X.prog X.w) X.A (letOwnedTupleGo tg (.ref it) v) (λ_ s2' => wpAny (model X.prog X.w) X.A (assign tg (cxC X scope own M s2 H2 fp).env v) (λ_ s3 => wpAny (model X.prog X.w) X.A (YV ifs (cxC X scope own M s2 H2 fp).env) (λok s4 =>
     if ok=true then ad (λs7=>∃m,m<n/\L m s7) s4 else ∃m,m<n/\L m s4) (λ_ _=>False) s3) (λ_ _=>False) s2') (λ_ _=>False) s1) (λ_ _=>False) s) ->
   ∀n s,L n s->codeAny (model X.prog X.w) X.A (.compLoop e 0 (.ref it) (.ref s2.heap.objs.size) (cxC X scope own M s2 H2 fp).env) R s)
  (start : ∀ (R : Result -> Shared -> Prop) s, codeAny (model X.prog X.w) X.A (.compLoop e 0 (.ref it) (.ref s2.heap.objs.size) (cxC X scope own M s2 H2 fp).env) R s ->
   (∀E,wpAny (model X.prog X.w) X.A (pyIter (.ref it)) (λit' s'=>codeAny (model X.prog X.w) X.A (.compLoop e 0 it' (.ref s2.heap.objs.size) (cxC X scope own M s2 H2 fp).env) R s') E s)->codeAny (model X.prog X.w) X.A (.compStart e 0 (.ref it) (.ref s2.heap.objs.size) (cxC X scope own M s2 H2 fp).env) R s)
  (body : ∀ (pf : List (Addr × Obj)) (σ6 : St) (H7 : Hp) (s7 : Shared) (i n : Nat) (acc : α) (ob : Obj), Inv (cxC X scope own M s2 H2 fp) ((s2.heap.objs.size, ob) :: pf) σ6 H7 s7 -> DO acc ob -> GZ acc -> (∀ {H : Hp}, H s2.heap.objs.size = none -> FpOk (cxC X scope own M s2 H2 fp) pf H s2.heap.objs.size) ->
   KK σ6->TB i n acc σ6 H7->∀post:Shared->Prop,
   (∀{acc' ob' σ9 H9 s9 m'},m'<n->W (i+1) m' acc' H9->DO acc' ob'->zm7 (replicate own.length none++σ) σ9->Inv (cxC X scope own M s2 H2 fp) ((s2.heap.objs.size,ob')::pf) σ9 H9 s9->post s9)->ad post s7)
  {R0:Result->Shared->Prop}
  (fin:∀H' s' m,Inv X pins σ H' s'->Qf (.ref s2.heap.objs.size) H'->s'.heap.Ns (s2.heap.objs.size+1) m->H' (s2.heap.objs.size+1)=none->s2.heap.objs.size+1≠X.env.locals->X.s₀.heap.objs.size<=s2.heap.objs.size+1->(∀x c,X.env.cells.lookup x=some c->c≠s2.heap.objs.size+1)->(∀p∈X.pn++pins,p.1≠s2.heap.objs.size+1)->R0 (.ok .next) s') {h4:Heap}
  (hh:h4=pushCells ((s2.heap.push o0).push { cls:=.type "dict",data:=.dict #[] }) scope.names) :
  codeAny (model X.prog X.w) X.A (.compStart e 0 (.ref it) (.ref s2.heap.objs.size) (cxC X scope own M s2 H2 fp).env) R0 { s2 with heap:=h4 }:=by
 have aq:∀b∈fp,FpOk X pins H2 b/\b<s2.heap.objs.size:=λb O=>by
  obtain⟨o,e,_⟩:=T.obj 0 _ al b O;exact⟨f2 b O,zt e⟩
 have au:s2.heap.objs.size<s2.heap.objs.size+1:=Nat.lt_succ_self _;unfold cxC at *;generalize hC:s2.heap.objs.size+1=C at *;have I4:Inv (wa X scope own M C s2 H2 fp) [] (replicate own.length none++σ) H2 { s2 with heap:=h4 }:=zy5 ok hc I2 aq hC.symm hh;generalize Y:wa X scope own M C s2 H2 fp=X' at *
 have ag:∀b o,s2.heap.get? b=some o->h4.get? b=some o:=λb o e=>by
  rw[hh];exact pushCells_keeps _ _ _ _ (zh _ (zh _ e))
 have ao:h4.get? s2.heap.objs.size=some o0:=by
  rw[hh];exact pushCells_keeps _ _ _ _ (zh _ (zr _ fr))
 have aj:tn 0 h4:=T.keep _ _ _ al λb O o e=>ag b o e
 have xP:X'.prog=X.prog:=by rw[<- Y];rfl
 have xw:X'.w=X.w:=by rw[<- Y];rfl
 have xK:X'.K=X.K:=by rw[<- Y];rfl
 have xA:X'.A=X.A:=by rw[<- Y];rfl
 have xc:X'.calm=true:=by rw[<- Y];exact hc
 have ai:X'.pn=[]:=by rw[<- Y];rfl
 have xs:X'.s₀=s2:=by rw[<- Y];rfl
 have xH:X'.H₀=H2:=by rw[<- Y];rfl
 have xL:X'.env.locals=C:=by rw[<- Y];rfl
 have aw:X'.fs=frs X.stack:=by rw[<- Y];rfl
 have aa:X'.ex=fp:=by rw[<- Y];rfl
 have xe:X'.xe=λ_ _=>False:=by rw[<- Y];rfl
 have ah:∀{pl:QqL}{H:Hp},(∀b∈fp,H b=none)->(∀p∈pl,p.1 ∉ fp)->∀b∈fp,FpOk X' pl H b:=λ{pl H} hn ay b O=>by
  have z:=I4.ok.exf b (by rw[aa];exact O)
  refine⟨hn b O,z.1,I4.ok.exfs b (by rw[aa];exact O),.inl (by rw[aa];exact O),λx c e=>z.2 x c e,λp hp y=>?_⟩
  rw[ai,yw] at hp
  exact ay p hp (by rw[y];exact O)
 have av:s2.heap.objs.size ∉ fp:=λz=>xx _ (aq _ z).2;have DC:s2.heap.objs.size≠C:=zA au
 have fD:∀{pl:QqL}{H:Hp},(∀p∈pl,p.1∈fp)->H s2.heap.objs.size=none->FpOk X' pl H s2.heap.objs.size:=λ{pl H} hp hn=>by
  refine⟨hn,by rw[xL];exact DC,λz=>?_,.inr (by rw[xs];exact zo _),λx c e z=>?_,λp h z=>?_⟩
  ·obtain ⟨_, o, ho, _⟩ := I4.ok.funs.mem (by exact z)
   rw[xs] at ho;exact xx _ (zt ho)
  ·obtain⟨v,o,q,hd⟩:=I4.cell x c e;rw[z] at q;cases ao.symm.trans q;exact nc _ _ h0 _ hd
  ·rw [ai, yw] at h
   exact av (by rw[<- z];exact hp p h)
 have main:codeAny (model X.prog X.w) X.A (.compLoop e 0 (.ref it) (.ref s2.heap.objs.size) X'.env) R0 { s2 with heap:=h4 }:=by
  obtain⟨m0,w0⟩:=w0
  refine loop _ (λn s'=>∃i acc σ' H' ob,Inv X' [(s2.heap.objs.size,ob)] σ' H' s'/\zm7 (replicate own.length none++σ) σ'/\tn i s'.heap/\(∀b∈fp,H' b=none)/\DO acc ob/\W i n acc H') ?_ m0 _
   ⟨0,nil,_,H2,_,I4.pin1 (fD (λ_ h=>by cases h) (I2.hok.fresh (zo _))) ao (nc _ _ h0),λ_ _ e=>e,aj,λb O=>(f2 b O).1,h0,w0⟩
  rintro n s3 ⟨i,acc,σ3,H3,ob,I3,hσ,ak,ap,rv,w3⟩
  have af:∀p∈[((s2.heap.objs.size,ob):Addr × Obj)],p.1 ∉ fp:=λp hp=>by
   rw[zB.mp hp];exact av
  rcases turn i n acc H3 w3 with ⟨stop,hsz,q⟩ |⟨go,gz,step⟩
  ·have := T.done X' xP xw xK xc i _ s3 σ3 H3 (λ_ _ => False) I3 (ah ap af) ak stop;rw[xA] at this;refine thn this λr s4 ⟨hr,I5⟩=>?_;subst hr
   have un:Un (frs X.stack) fp H2 H3 s2.heap s4.heap:=by
    have:=I5.base;rw[aw,aa,xH,xs] at this;exact this
   have hok:HOk X.prog X.w H3 s4.heap:=by have:=I5.hok;rw[xP,xw] at this;exact this
   have IX:Inv X pins σ H3 s4:=I2.call' (by rw[I5.os,xs]) un hok I5.bare λb O=>by
    obtain⟨_,f1,_,f3,f4,f5⟩:=f2 b O;exact⟨f3,f1,f4,f5⟩
   have am:∀{b:Addr},s2.heap.objs.size<=b->(X.s₀.heap.objs.size<=b/\b≠X.env.locals/\(∀x c,X.env.cells.lookup x=some c->c≠b)/\∀p∈X.pn++pins,p.1≠b):=λ{b} O=>by
    obtain⟨_,f1,_,f3,f4,f5⟩:=I2.fpOk (H':=λ_=>none) O rfl;exact⟨zK I2.sz O,f1,f4,f5⟩
   obtain⟨d1,d2,d3,d4⟩:=am (zo s2.heap.objs.size);obtain⟨c1,c2,c3,c4⟩:=am (b:=C) (yv au);obtain⟨m,hm,_⟩:=I5.loc;rw[xL] at hm
   have aA:H3 C=none:=by have:=I5.free;rw[xL] at this;exact this
   obtain⟨az,hD⟩:=I5.pinAt (.head _)
   exact fin _ s4 m (IX.track hD d1 d2 d3 d4 (ar i n acc H3 ob s4.heap w3 hsz rv hD az)) (q _ hD) hm (by rw[xX (Ne.symm DC)];exact aA) c2 c1 c3 c4
  ·have := T.item X' xP xw xK xc i _ s3 σ3 H3 (λ_ _ => False) I3 (ah ap af) ak go;rw[xA] at this;refine thn this λr s4 ⟨u,hr,h4⟩=>?_;subst hr;refine thn h4 λ_ s5 ⟨x,H5,I5,r5,y5,ae,aB⟩=>?_;have aC:=(I5.weak (σ':=replicate own.length none++σ) (I4.len.trans I5.len.symm) hσ).pinned (ah aB af) (T.obj _ _ ae);have a1:=hg _ s5 _ H5 x u _ aC r5 (step x H5 y5);rw[xP,xw,xA,xe] at a1;refine thn a1 λ_ s6 ⟨σ6,H6,I6,d6,q6⟩=>?_;have a2:=ht _ s6 σ6 H6 _ I6 q6;rw[xP,xw,xA,xe] at a2;refine thn a2 λb s7 ⟨H7,I7,q7⟩=>?_
   have outer:∀{H:Hp}{s:Shared}{σ7:St}{ob:Obj},Inv X' ((s2.heap.objs.size,ob)::YR fp s5.heap) σ7 H s->(tn (i+1) s.heap/\(∀b∈fp,H b=none)/\Inv X' [(s2.heap.objs.size,ob)] σ7 H s):=λ{H s σ7 ob} I=>by
    refine⟨T.keep _ _ _ ae λb O o e=>(I.pinAt (.tail _ (kI O e))).1,λb O=>?_,I.pins_of λp hp=>I.pin p ?_⟩
    ·obtain⟨o,e,d⟩:=T.obj _ _ ae b O;exact(I.pinAt (q:=(b,o)) (.tail _ (kI O e))).2
    ·rw[zB.mp hp];exact zL _ (.head _)
   cases b with
   |false=>
    obtain⟨p1,p2,p5⟩:=outer I7;obtain⟨m',hm,w7⟩:=q7;exact⟨m',hm,i+1,acc,σ6,H7,ob,p5,kk _ d6,p1,p2,rv,w7⟩
   |true=>
    rw[if_pos rfl] at q7 ⊢;refine body (YR fp s5.heap) σ6 H7 s7 i n acc ob I7 rv gz (fD λp hp=>(XT hp).1) d6 q7 _ λ{acc' ob' σ9 H9 s9 m'} hm w9 ax k9 I9=>?_;obtain⟨p1,p2,p5⟩:=outer I9;exact⟨m',hm,i+1,acc',σ9,H9,ob',p5,k9,p1,p2,ax,w9⟩
 exact start _ _ main λE=>T.self _ 0 _ _ E aj main
def LstO(acc:List V)(ob:Obj):Prop:=∃its k,ob={ cls:=.type "list",data:=.seq (List.toArray its) k }/\Vals acc its
def LstO.nc(a:List V)(ob:Obj):LstO a ob->∀v,ob.data≠.cell v:=fun⟨_,_,e,_⟩ v z=>by rw[e] at z;cases z
def ze2(hz:acc.length<=sizeLine):LstO acc ob->h.get? D=some ob->ObjOk P w (upd H D (.lst acc)) h D (.lst acc):=fun⟨its,k,e,rv⟩ ho=>⟨hz,its,k,rv,by rw[ho,e]⟩
def ze1(I:Inv X' ((D,ob)::pf) σ H s)(f:∀{H:Hp},H D=none->FpOk X' pf H D)(d:LstO acc ob)(gz:acc.length<sizeLine)(r:RelV v y)
  (k:∀{ob' s'},LstO (acc++[v]) ob'->Inv X' ((D,ob')::pf) σ H s'->post s'):wpAny (model X'.prog X'.w) X'.A (call (.builtin "list.append") [.ref D,y]) (λ_=>post) (λ_ _=>False) s:=by
 obtain⟨its,n,rfl,rv⟩:=d;have L:=I.pinAt (.head _);have O:=rv.length
 refine wpAny_list_append_plain (items:=List.toArray its) ⟨n,L.1⟩ (λh' J hs=>?_) (by simp;lia)
 obtain⟨n',J⟩:=J
 exact k ⟨its++[y],n',rfl,rv.append (.cons r .nil)⟩ (I.bump (t:=s.toks) (f L.2) hs (by rw[J];simp) λv z=>by cases z)
def Jw(ok:CompOk X scope M)(hc:X.calm=true)(hg:∀C s2 H2 fp,PG (wa X scope own M C s2 H2 fp) tg g)(ht:∀C s2 H2 fp,PTs (wa X scope own M C s2 H2 fp) ifs tt)(he:∀C s2 H2 fp,PE (wa X scope own M C s2 H2 fp) elt te)
  (I2:Inv X pins σ H2 s2) {it:Addr}{fp:List Addr}{tn:Nat->Heap->Prop}{J:It} (T:Turn X.prog X.w X.K tg J fp it tn) (aa:tn 0 s2.heap) (f2:∀b∈fp,FpOk X pins H2 b)
  {W:Nat->Nat->List V->Hp->Prop} (w0:∃m,W 0 m [] H2) {Qf:V->Hp->Prop}
  (turn : ∀ i m acc H, W i m acc H -> (J.stop i H /\ acc.length <= sizeLine /\ ∀ D, H D = none -> Qf (.ref D) (upd H D (.lst acc))) \/
   (J.go i H /\ acc.length < sizeLine /\ ∀ x H', J.yld i H x H' -> g x (List.replicate own.length none ++ σ) H' λY H2 => Y.drop own.length = σ /\ tt Y H2 λc H3 =>
    if c=true then te Y H3 λv H4=>∃m',m'<m/\W (i+1) m' (acc++[v]) H4 else ∃m',m'<m/\W (i+1) m' acc H3))
  {RR:Value->Addr->Result->Shared->Prop}{E:QqV}
  (fin:∀D C H' s' m,Inv X pins σ H' s'->Qf (.ref D) H'->s'.heap.Ns C m->H' C=none->C≠X.env.locals->X.s₀.heap.objs.size<=C->(∀x c,X.env.cells.lookup x=some c->c≠C)->(∀p∈X.pn++pins,p.1≠C)->RR (.ref D) C (.ok .next) s') :
  wpAny (model X.prog X.w) X.A (newList []) (λacc s3=>wpAny (model X.prog X.w) X.A (newFunctionEnv scope X.env.globals (ZD X.env scope.names []) [] X.env.qual none .none (some X.env)) (λO s4=>
   codeAny (model X.prog X.w) X.A (.compStart (.ListComp elt [⟨tg,iter,ifs,0⟩] scope pos) 0 (.ref it) acc { O with scope:=relabel scope X.env }) (RR acc O.locals) s4) E s3) E s2:=by
 refine xl (qN ?_);dsimp only;rw[wc]
 exact UL (ho:=λ_=>.lst) LstO.nc ⟨[],0,rfl,.nil⟩ rfl ok hc (hg _ _ _ _) (ht _ _ _ _) (λ_=>vQ) I2 T aa f2 w0 turn (λ_ _ _ _ _ _ _ hz d _=>ze2 hz d)
  (λR L turn n s h=>zC3 (elt:=elt) (iter:=iter) (scope:=scope) (pos:=pos) L turn n h) (λ_ _ h k=>codeAny_compStart_list h (k _))
  (λpf σ6 H7 s7 i n acc ob I7 d gz fD kd q7 post fin=>thn (he _ _ _ _ _ s7 σ6 H7 _ I7 q7) λy s8 ⟨v,H8,I8,r8,m',hm,w8⟩=>ze1 I8 fD d gz r8 λd' I'=>fin hm w8 d' (vQ kd) I') (fin _ _) rfl
end
def zX5{wi:TI}(ok:CompOk X scope M)(hc:X.calm=true)(hi:PI X tg iter wi)(hg:∀C s2 H2 fp,PG (wa X scope own M C s2 H2 fp) tg g)(ht:∀C s2 H2 fp,PTs (wa X scope own M C s2 H2 fp) ifs tt)
  (he:∀C s2 H2 fp,PE (wa X scope own M C s2 H2 fp) elt te) (hs:∀x,foldedSetIterable iter X.env x=pure x:=by intro _;rfl) :
  PE X (.ListComp elt [⟨tg,iter,ifs,0⟩] scope pos) (zG4 wi own.length g tt te):=by
 intro pins s σ H Q I h;rw[eval_ListComp]
 refine wW (use:=none) rfl hs (Yb (ok.cells I)) ok.kind (λx hx hl=>by rw[ok.uniq x hx,hl]) ?_
 refine thn (hi pins s σ H _ I h) λv s1 h1=>thn h1 λaa s2 h2=>?_;obtain⟨it,fp,tn,J,H2,e,I2,T,L,f2,W,Y,turn⟩:=h2;subst e;refine Jw (Qf:=Q) ok hc hg ht he I2 T L f2 Y turn λD C H' s' m IY q hm O c2 c1 c3 c4=>⟨m,hm,λh' hs'=>?_⟩;exact⟨.ref D,H',IY.turned (t':=s'.toks) (λb o hb e=>hs'.extBut b o hb e) O c2 (.inr c1) c3 c4,rfl,q⟩
def zi4{wi:TI}{i:Nat}{x:Str}{pos' spos:Pos}(hN:X.N.Nodup)(aa:X.N[i]?=some x)(hx:Loc X.env.scope x)(ok:CompOk X scope M)(hc:X.calm=true)(hi:PI X tg iter wi)(hg:∀C s2 H2 fp,PG (wa X scope own M C s2 H2 fp) tg g)
  (ht:∀C s2 H2 fp,PTs (wa X scope own M C s2 H2 fp) ifs tt) (he:∀C s2 H2 fp,PE (wa X scope own M C s2 H2 fp) elt te)
  (O:swapsWith (.ListComp elt [⟨tg,iter,ifs,0⟩] scope pos) (some (.Name x pos')) spos.line X.env=pure true:=by rfl) (hf:X.fn x=true\/X.env.scope.names.lookup x=some .local:=by first |exact .inl rfl |exact .inr rfl |assumption)
  (hs:∀x,foldedSetIterable iter X.env x=pure x:=by intro _;rfl):PS X (.Assign [.Name x pos'] (.ListComp elt [⟨tg,iter,ifs,0⟩] scope pos) spos) (xv7 (zG4 wi own.length g tt te) (zN4 i)):=by
 intro pins s σ H D I h;rw[exec_Assign_Name_used _ _ _ _ O];refine zb (wx (zb ?_))
 show wpAny _ _ (do let _ <- comprehension (.ListComp elt [⟨tg,iter,ifs,0⟩] scope pos) scope X.env _ (newList []) false (eval iter X.env) (some (assign (.Name x pos') X.env))) _ _ s
 refine zb (thn (wW (use:=some (assign (.Name x pos') X.env)) (Q:=λ_ s'=>SP X pins D .next s') rfl hs (Yb (ok.cells I)) ok.kind (λx hx hl=>by rw[ok.uniq x hx,hl]) ?_)
  λ_ s' hq=>zd (zd hq))
 refine thn (hi pins s σ H _ I h) λv s1 h1=>thn h1 λaf s2 h2=>?_;obtain⟨it,fp,tn,J,H2,e,I2,T,L,f2,W,w0,turn⟩:=h2;subst e;refine Jw (Qf:=λx H1=>zN4 i x σ H1 D.nx) ok hc hg ht he I2 T L f2 w0 turn λD' C H' s' m IY q hm ad c2 c1 c3 c4=>?_;show wpAny _ _ (assign (.Name x pos') X.env (.ref D')) _ _ s';refine wpAny_assign_Name (Kh IY hN aa hx (v:=.ref D') rfl (λs'' I'' ⟨a,Y,ha⟩=>?_) hf)
 have ae:C≠a:=by
  rcases ha with z |z
  ·rw[z];exact c2
  ·exact λe=>c3 x a z e.symm
 exact⟨m,hm.sameBut Y ae,λh' hs'=>⟨_,H',I''.turned (t':=s''.toks) (λb o hb e=>hs'.extBut b o hb e) ad c2 (.inr c1) c3 c4,q⟩⟩
end
section
variable {X:Cx}{pins:QqL}{σ:St}{H:Hp}{s:Shared}
def Inv.turnedL{t':Nat}{h':Heap}{ch:List Addr}(I:Inv X pins σ H s)(k:∀b o,b ∉ ch->s.heap.get? b=some o->h'.get? b=some o)(O:∀b∈ch,FpOk X pins H b):Inv X pins σ H { s with heap:=h',toks:=t' }:=by
 have L:∀b u,H b=some u->b ∉ ch:=λb u e z=>by rw[(O b z).1] at e;cases e
 refine I.step (g':=s.gens) (d':=s.drawn) (ch:=ch) (λb hb=>?_) (λb o _ _ J e _=>k b o J e) (λb o _ _ J e _=>⟨o.slots,k b o J e⟩) (λ_ _ _ _ n=>n)
  (λb o J e=>⟨o,k b o J e⟩) (λ_ _ e=>e) (λ_ _ _ e=>e) (λb ps e=>⟨#[],by rw[e];simp⟩) (λm Y=>?_) (λb u e=>?_) I.bare
 ·obtain⟨_,f1,_,f3,f4,f5⟩:=O b hb;exact⟨f3,f1,f4,f5⟩
 ·obtain⟨o,es,ep,ho,r⟩:=Y;exact⟨o,es,ep,k _ o (λz=>(O _ z).2.1 rfl) ho,r⟩
 ·refine (I.hok b u e).stay (λc v J q => k c v ?_ q) (λ_ q => q) (λ_ _ q => q) λ_ _ _ q => q
  rcases J with z |z
  ·rw[z];exact L b u e
  ·exact L c _ z
def SqB(K:W.Frag)(b:Bool)(H:Hp)(a:Addr)(xs:List V):Prop:=match b with |true=>SqL K H a xs |false=>SqT K H a xs
def Inv.seqB{b:Bool}(I:Inv X pins σ H s)(h:SqB X.K b H a xs):∃its:List Value,Vals xs its/\SeqIs b s.heap a its.toArray:=by
 cases b with
 |true=>obtain⟨its,r,p,_⟩:=I.list h;exact⟨its,r,p.isList⟩
 |false=>obtain⟨its,r,p,_⟩:=I.tuple h;exact⟨its,r,p⟩
def Inv.seqB_inj{b:Bool}(I:Inv X pins σ H s)(h:SqB X.K b H a xs)(h':SqB X.K b H a ys):xs=ys:=by
 cases b with
 |true=>exact I.list_inj h h'
 |false=>exact I.tuple_inj h h'
def Inv.ne_fp{b:Bool}(I:Inv X pins σ H s)(h:SqB X.K b H a xs)(O:FpOk X pins H c):a≠c:=by
 have J:∀o,X.K.lookup a=some o->a≠c:=λo e z=>by
  have L:=I.ok.mod.kin a o e;rw[z] at L;obtain⟨_,_,_,Y,_⟩:=O
  rcases Y with q |q
  ·exact I.ok.noex c o L q
  ·exact absurd (zX (zt (I.ok.bs c o L).1) q) (xx _)
 have trk:∀u,H a=some u->a≠c:=λu e=>yd e O.1
 cases b with
 |true=>
  rcases h with (h |⟨o,h⟩) |⟨o,_,_,hk,_⟩
  ·exact trk _ h
  ·exact trk _ h
  ·exact J o hk
 |false=>
  rcases h with (h |⟨o,h⟩) |⟨o,_,_,hk,_⟩
  ·exact trk _ h
  ·exact trk _ h
  ·exact J o hk
def Itz(K:W.Frag)(b c:Bool)(l1 l2:Addr):It:=
  ⟨λi H=>∃xs ys x y,SqB K b H l1 xs/\SqB K c H l2 ys/\xs[i]?=some x/\ys[i]?=some y,
   λi H v H'=>∃T,H T=none/\v=.ref T/\∀xs ys,SqB K b H l1 xs->SqB K c H l2 ys->∃x y,xs[i]?=some x/\ys[i]?=some y/\H'=upd H T (.tup [x,y]),
   λi H=>∃xs ys,SqB K b H l1 xs/\SqB K c H l2 ys/\(xs.length<=i\/ys.length<=i)⟩
def newTup(I:Inv X pins σ H s)(I1:Inv X pins σ H s1)(L:s.heap.objs.size<=T)(J:H T=none)(ho:s1.heap.get? T=some { cls:=.type "tuple",data:=.seq #[u,v] })(Y:RelV x u)(O:RelV y v) :
  Inv X pins σ (upd H T (.tup [x,y])) s1:=by
 obtain⟨_,f1,_,f3,f4,f5⟩:=I.fpOk (H':=H) L J
 exact I1.track J (zK I.sz L) f1 f4 f5 ⟨(by show 2<=sizeLine;decide),[u,v],.cons Y (.cons O .nil),⟨_,ho,rfl,_,rfl⟩⟩
def zF9{P:Program}{w:World}{K:W.Frag}{es:List Expr}{kk:Nat}{ps:Pos}{b c:Bool}{z ti to i1 i2 l1 l2:Addr}(D:ZApart z ti to i1 i2) :
  Turn P w K (.Tuple es kk ps) (Itz K b c l1 l2) [z,ti,to,i1,i2] z (λi h=>ZSt b c z ti to i1 i2 l1 l2 i h) where
 mem:=by simp
 obj:=λi h st d hd=>by
  have nc:∀{o:Obj}{vs:Array Value},o.data=.fields vs->∀v,o.data≠.cell v:=λe v q=>by rw[e] at q;cases q
  simp only[zj,zI,or_false] at hd
  rcases hd with rfl |rfl |rfl |rfl |rfl
  ·exact⟨_,st.z,λv q=>by cases q⟩
  ·exact⟨_,st.ti,λv q=>by cases q⟩
  ·obtain ⟨u, v, e⟩ := st.to
   exact⟨_,e,λv q=>by cases q⟩
  ·obtain⟨o,e,_,hd⟩:=st.i1.obj;exact⟨o,e,nc hd⟩
  ·obtain⟨o,e,_,hd⟩:=st.i2.obj;exact⟨o,e,nc hd⟩
 keep:=λi h h' st k=>by
  obtain⟨u,v,e⟩:=st.to
  exact⟨k z (by simp) _ st.z,k ti (by simp) _ st.ti,⟨u,v,k to (by simp) _ e⟩,st.i1.at λo q=>k i1 (by simp) o q,st.i2.at λo q=>k i2 (by simp) o q⟩
 item:=by
  intro X hP hw hK hc i pins s σ H E I O st hg;subst hP hw hK;obtain⟨xs,ys,x,y,q1,L,hx,hy⟩:=hg;obtain⟨ae,r1,p1⟩:=I.seqB q1;obtain⟨ad,Y,p2⟩:=I.seqB L;obtain⟨u,hu,ru⟩:=r1.get hx;obtain⟨v,hv,rv⟩:=Y.get hy
  have J:=O to (by simp)
  refine zL4 D st p1 p2 (I.ne_fp q1 J) (I.ne_fp L J) (x:=u) (y:=v) (by simpa using hu) (by simpa using hv) λh' M hT kp=>?_
  have lt:∀{d:Addr},d∈[z,ti,to,i1,i2]->s.heap.objs.size≠d:=λ{d} hd e=>by
   obtain⟨o,q⟩:∃o,s.heap.get? d=some o:=by
    simp only[zj,zI,or_false] at hd
    rcases hd with rfl |rfl |rfl |rfl |rfl
    ·exact⟨_,st.z⟩
    ·exact⟨_,st.ti⟩
    ·obtain⟨u,v,e⟩:=st.to;exact⟨_,e⟩
    ·obtain⟨o,e,_⟩:=st.i1.obj;exact⟨o,e⟩
    ·obtain⟨o,e,_⟩:=st.i2.obj;exact⟨o,e⟩
   have:=zt q;rw[<- e] at this;exact xx _ this
  refine⟨_,rfl,wpAny_letOwnedTupleGo_zip (s:={ s with heap:=h' }) M.z λh'' z' sb=>?_⟩
  have aa:∀d o,d ∉ [z,ti,to,i1,i2]->s.heap.get? d=some o->h''.get? d=some o:=λd o hd e=>by
   simp only[zj,zI,or_false,not_or] at hd;exact sb.extBut _ _ hd.1 (kp d o hd.1 hd.2.2.1 hd.2.2.2.1 hd.2.2.2.2 e)
  have I1:Inv X pins σ H { s with heap:=h'' }:=I.turnedL (t':=s.toks) aa O;have hn:H s.heap.objs.size=none:=I.hok.fresh (zo _)
  have I2:Inv X pins σ (upd H s.heap.objs.size (.tup [x,y])) { s with heap:=h'' }:=newTup I I1 (zo _) hn (sb.extBut _ _ (lt (by simp)) hT) ru rv
  obtain⟨u',v',af⟩:=M.to
  refine⟨.ref s.heap.objs.size,_,I2,rfl,⟨_,hn,rfl,λxs' ys' e1 e2=>⟨x,y,by rw[I.seqB_inj e1 q1];exact hx,by rw[I.seqB_inj e2 L];exact hy,rfl⟩⟩,?_,λd hd=>?_⟩
  ·exact⟨z',sb.extBut _ _ D.a1 M.ti,⟨u',v',sb.extBut _ _ D.a2 af⟩,M.i1.at λo e=>sb.extBut _ _ D.a3 e,M.i2.at λo e=>sb.extBut _ _ D.a4 e⟩
  ·rw[xX (Ne.symm (lt hd))];exact(O d hd).1
 done:=by
  intro X hP hw hK hc i pins s σ H E I O st hg;subst hP hw hK;obtain⟨xs,ys,q1,L,hx⟩:=hg;obtain⟨ae,r1,p1⟩:=I.seqB q1;obtain⟨ad,Y,p2⟩:=I.seqB L
  have J:=O to (by simp)
  have e1:=r1.length;have e2:=Y.length
  refine KS (I.ok.hd hc) D st p1 p2 (I.ne_fp q1 J) (I.ne_fp L J) (hx.imp (λz=>by simp;lia) λz=>by simp;lia) λh' kp=>⟨rfl,I.turnedL (t':=s.toks) (λd o hd e=>?_) O⟩
  simp only[zj,zI,or_false,not_or] at hd;exact kp d o hd.1 hd.2.2.1 hd.2.2.2.1 hd.2.2.2.2 e
 self:=λ_ _ _ _ _ st h=>wpAny_pyIter_zip st.z h
def xR9(K:W.Frag)(ta:TA):TI:=λσ H R=>ta σ H λvs H1=>∃b c l1 l2 xs ys,vs=[.ref l1,.ref l2]/\SqB K b H1 l1 xs/\SqB K c H1 l2 ys/\R (Itz K b c l1 l2) H1
def xj1{es:List Expr}{kk:Nat}{ps:Pos}{a b:Expr}{ta:TA}{p pos:Pos}(hg:Gl X "zip")(hm:X.mg "zip" = none)(ha:PA X [a,b] ta)(hs:starEach [a,b] X.env=[(false,eval a X.env),(false,eval b X.env)]:=by rfl)(L:starEach [b] X.env=[(false,eval b X.env)]:=by rfl) :
  PI X (.Tuple es kk ps) (.Call (.Name "zip" p) [a,b] [] pos) (xR9 X.K ta):=by
 intro pins s σ H R I h
 refine Call_ (Jg I hg hm boot_zip (PyProof.Rows.callWith_type1 (thn (ha pos pins s σ H _ I h) λus s1 ⟨vs,H1,O,r1,q1⟩=>?_) (by rw[hs,L]) (by rw[L];rfl)))
 obtain⟨bb,cc,l1,l2,xs,ys,e,q1,q2,q⟩:=q1;subst e
 cases r1 with
 | cons r Y =>
  cases Y with
  |cons r' Y=>
   cases Y;cases r;cases r';obtain⟨ad,r1,p1⟩:=O.seqB q1;obtain⟨aa,r2,p2⟩:=O.seqB q2;refine zP0 p1 p2 λh' z ti to i1 i2 D S J kp=>wpAny_pyIter_zip S.z ?_;exact⟨z,[z,ti,to,i1,i2],_,_,H1,rfl,O.kept (t':=s1.toks) kp,zF9 D,S,λd hd=>O.fpOk (J d hd) (O.hok.fresh (J d hd)),q⟩
def Vals.bools:∀{bs:List Bool},Vals (bs.map V.bl) us->us=bs.map Value.bool:=by
 induction us with
 |nil=>intro bs h;cases bs with |nil=>rfl |cons=>cases h
 | cons u us J =>
  intro bs h
  cases bs with
  |nil=>cases h
  | cons b bs =>
   cases h with
   |cons r t=>
    have e:u=Value.bool b:=r;rw[e,J t];rfl
def zU9(bs:List Bool):((List.range bs.length).any λi=>(bs[i]?).getD false)=bs.any id:=by
 rw[xW,yj,yj]
 constructor
 ·rintro⟨i,hi,h⟩;have hi':=xV.mp hi;rw[ze hi'] at h;exact⟨_,wm hi',h⟩
 ·rintro ⟨b, J, h⟩;obtain⟨i,hi,e⟩:=List.mem_iff_getElem.mp J
  exact⟨i,xV.mpr hi,by rw[ze hi,e];exact h⟩
def zd7{h h':Heap}{o:Obj}(hk:∀b x,b ∉ [h.objs.size]->(h.push o).get? b=some x->h'.get? b=some x):∀b x,h.get? b=some x->h'.get? b=some x:=
 λb x e=>hk b x (λz=>absurd (zt e) (by rw[zB.mp z];exact xx _)) (zh _ e)
def zg1(hc:X.calm=true):kG X (.builtin "any") (λxs H Q=>∃(p:Addr) (bs:List Bool),xs=[.ref p]/\SqL X.K H p (bs.map V.bl)/\Q (.bl (bs.any id)) H):=by
 intro pins s σ H xs us Q I r h;obtain⟨p,bs,rfl,Y,q⟩:=h
 cases r with
 | cons r O =>
  cases O;cases r;obtain⟨its,rv,pl,_⟩:=I.list Y;have ei:=Vals.bools rv;subst ei;have L:=pl.isList
  have J:p<s.heap.objs.size:=by obtain⟨_,e,_⟩:=L;exact zt e
  refine call_any_walk (yz L ⟨s.heap.objs.size,[s.heap.objs.size,p],[s.heap.objs.size],(bs.map Value.bool).toArray.size,_,_,λi=>(bs[i]?).getD false,rfl,
   Walks.list (A:=X.A.in1) (I.ok.hd hc) _ p (zA J) _,⟨⟨_,zr _ rfl,rfl,rfl⟩,L.push _⟩,λi v s' Q' E' hP hQ=>?_,λh' tk hk=>?_⟩)
  ·have hP' : (bs.map Value.bool)[i]? = some v := by simpa using hP
   rw[zw] at hP'
   cases e:bs[i]? with
   |none=>rw[e] at hP';cases hP'
   |some b=>
    rw[e] at hP';have hQ':Q' ((bs[i]?).getD false) s':=hQ;rw[e] at hQ';cases hP';exact wK hQ'
  ·refine⟨.bl (bs.any id),H,I.kept (zd7 hk),?_,q⟩;show Value.bool _=Value.bool _;rw[zp,zg,zU9]
def WM:fillsNumberSlot (.type "tuple") "mul" = pure false:=
 PySem.fillsNumberSlot_seq (id := "tuple.__mul__") (r:=some (.builtin "tuple.__rmul__")) F.slot_tuple_mul.lookup w5 F.slot_tuple_rmul.lookup w5
def zV0:seqRepeat? (.type "tuple")=pure (some (.builtin "tuple.__mul__")):=by
 unfold seqRepeat?
 rw[PySem.seqSlot_of (T := "tuple") (name := "__mul__") (id := "tuple.__mul__") F.slot_tuple_mul.lookup w5,PySem.seqSlot_of (T := "tuple") (name := "__rmul__") (id := "tuple.__rmul__") F.slot_tuple_rmul.lookup w5]
 rfl
def zH0(a:Int)(t:Tok)(l:Addr)(o:Obj)(items:Array Value)(n:Nat) :
  Meets (Builtin.«int.__rmul__» ⟨[.int a t,.ref l],[]⟩) (λ_ R s=>s.heap.get? l=some o/\o.cls=.type "tuple" /\ o.data=.seq items n/\R (.ok (.ret Value.notImplemented)) s):=
 .of_wp λprog w A R s h=>by
  obtain⟨Y,g,d,tk,os⟩:=s;obtain⟨hl,J,hd,h⟩:=h;obtain⟨c,dd,L,O⟩:=o
  replace J:c=.type "tuple" := J
  replace hd:L=.seq items n:=hd
  subst J hd
  wp_walk
  exact⟨_,rfl,h⟩
def zZ7(l:Addr)(o:Obj)(items:Array Value)(n:Nat)(k:Int)(t:Tok)(h1:¬ (decide (k < -(2^63))||decide (k>=2^63))=true)(he:items.isEmpty=false)(aa:(k == 1)=false)(O:(decide (k<=0)||items.isEmpty)=false)
    (L:¬ (items.size:Int)*k > (2^63-1)/8) (J:¬ Builtin.Tuple.tupleTooMany ((items.size:Int)*k)=true) (hz:((replicate k.toNat items).foldl (·++·) #[]).size<=sizeLine) :
    Meets (Builtin.«tuple.__mul__» ⟨[.ref l,.int k t],[]⟩) (λ_ R s=>s.heap.get? l=some o/\o.cls=.type "tuple" /\ o.data=.seq items n /\
      R (.ok (.ret (.ref s.heap.objs.size))) { s with heap:=s.heap.push { cls:=.type "tuple",data:=.seq ((replicate k.toNat items).foldl (·++·) #[]) } }):=
  .of_wp λprog w A R s h=>by
    obtain⟨hp,g,d,tk,os⟩:=s;obtain⟨hl,Y,hd,h⟩:=h;obtain⟨c,dd,dt,sl⟩:=o
    replace Y:c=.type "tuple" := Y
    replace hd:dt=.seq items n:=hd
    subst Y hd
    wp_walk
    rw[if_neg h1]
    wp_walk
    rw[O,if_neg zR];dsimp only;rw[if_neg L,if_neg J];unfold Builtin.Tuple.tupleExact;refine zb (wpAny_newTuple ?_);exact zd ⟨_,rfl,h⟩
def zL5(l:Addr)(o:Obj)(items:Array Value)(n:Nat)(t:Tok) :
  Meets (Builtin.«tuple.__mul__» ⟨[.ref l,.int 1 t],[]⟩) (λ_ R s=>s.heap.get? l=some o/\o.cls=.type "tuple" /\ o.data=.seq items n/\R (.ok (.ret (.ref l))) s):=
 .of_wp λprog w A R s h=>by
  obtain⟨Y,g,d,tk,os⟩:=s;obtain⟨hl,J,hd,h⟩:=h;obtain⟨c,dd,L,O⟩:=o
  replace J:c=.type "tuple" := J
  replace hd:L=.seq items n:=hd
  subst J hd
  wp_walk
  exact⟨_,rfl,h⟩
def xh6(K:W.Frag):R2:=λx y H Q=>∃l k xs,x=.ref l/\y=.int k/\SqT K H l xs/\xs≠[]/\1<=k/\xs.length*k.toNat<=sizeLine /\
 (k=1->Q (.ref l) H)/\(k≠1->∀p,H p=none->Q (.ref p) (upd H p (.tup (replicate k.toNat xs).flatten)))
def zY0:OpR X (binaryOp .Mult) (xh6 X.K):=by
 intro pins s σ H x y v u Q I rx ry h;obtain⟨l,k,xs,rfl,rfl,hq,af,h1,hz,q1,q2⟩:=h;cases rx;obtain⟨t,rfl⟩:=ry;obtain⟨its,rv,⟨o,e,hc,n,hd⟩,_⟩:=I.tuple hq;have ad:=rv.length
 have L:0<its.length:=by rw[<- ad];exact List.length_pos_iff.mpr af
 have O:s.TypeIs (.ref l) "tuple" := ⟨o,e,hc⟩
 refine wpAny_binaryOp_repeat_ref (T := "tuple") (U := "int") q9 O (λs'=>typeIs_int s' k t) WM F.fills_int_mul F.slot_int_rmul zV0 F.slot_int_index.lookup
  (call_meets F.slot_int_rmul (typeIs_int s k t) F.entry_int_rmul (F.args_int_rmul_2 _ _) (zH0 k t l o its.toArray n) ⟨e,hc,hd,rfl,O,?_⟩)
 by_cases hk:k=1
 ·subst hk;exact call_meets F.slot_tuple_mul O F.entry_tuple_mul (F.args_tuple_mul_2 _ _) (zL5 l o its.toArray n t) ⟨e,hc,hd,⟨.ref l,H,I,rfl,q1 rfl⟩⟩
 ·have ah : (2 : Int) <= k := by lia
  have aa:its.length*k.toNat<=sizeLine:=by rw[<- ad];exact hz
  have J:((its.toArray.size:Nat):Int)*k=((its.length*k.toNat:Nat):Int):=by
   rw[zp,Int.natCast_mul,Int.toNat_of_nonneg q5]
  have ae:(sizeLine:Int)=16777216:=q9
  have hb:((its.length*k.toNat:Nat):Int)<=16777216:=by rw[<- ae];exact Int.ofNat_le.mpr aa
  have ag:k<=16777216:=by
   have:k.toNat<=its.length*k.toNat:=Nat.le_mul_of_pos_left _ L;lia
  have Y:List.foldl (λx1 x2=>x1++x2) #[] (replicate k.toNat its.toArray)=(replicate k.toNat its).flatten.toArray:=by
   have:=Jk its k.toNat [];rw[yw] at this;exact this
  refine call_meets F.slot_tuple_mul O F.entry_tuple_mul (F.args_tuple_mul_2 _ _) (zZ7 l o its.toArray n k t ?_ ?_ ?_ ?_ ?_ ?_ ?_) ⟨e,hc,hd,?_⟩
  ·rw[Bool.or_eq_true,ww,ww];lia
  ·cases its with
   |nil=>simp at L
   |cons=>rfl
  ·simpa using hk
  ·rw [Bool.or_eq_false_iff]
   refine⟨zN q5,?_⟩
   cases its with
   |nil=>simp at L
   |cons=>rfl
  ·rw[J];lia
  ·unfold Builtin.Tuple.tupleTooMany;rw[J,ww,ae];lia
  ·rw[Y,zp,zw8,Nat.mul_comm];exact aa
  ·rw [Y]
   refine⟨.ref _,_,I.laid (o:=.tup (replicate k.toNat xs).flatten) (t':=s.toks) (λ_ _ z=>zh _ z) (zo _) ⟨by rw[zw8,Nat.mul_comm];exact hz,_,rv.rep k.toNat,⟨_,zr _ rfl,rfl,_,rfl⟩⟩,rfl,q2 hk _ I.fresh⟩
end
section
variable (P:Program) (w:World)
end
section
variable {P:Program}{w:World}{H H':Hp}{h h':Heap}{a:Addr}{o:HO}
end
section
variable {P:Program}{w:World}{H:Hp}{h h':Heap}{x e:Addr}{o':HO}
end
section
variable {fs fs' ex ex':List Addr}{H H1 H2:Hp}{h h1 h2 h':Heap}{a x e:Addr}{o:HO}
end
section
variable {X:Cx}{pins:QqL}{σ:List (Option V)}{H H':Hp}{s:Shared}{h':Heap}
end
section
variable {X:Cx}
variable {a b:Expr}{ta tb:TE}{pos:Pos}
variable {tA tB':TT}{rest:List Expr}
end
section
variable {X:Cx}{pins:QqL}{σ:St}{H:Hp}{s:Shared}{a:Addr}{xs ys:List V}
end
section
variable {X:Cx}{pins:QqL}{σ:St}{H:Hp}{s:Shared}{E:QqV}
end
section
variable {X:Cx}{st:Stmt}{rest:List Stmt}{t u:TS}{e:Expr}{te:TE}{pos:Pos}
end
section
variable {X:Cx}{pos:Pos}
end
section
variable {X:Cx}{tg:Expr}
end
section
variable {X:Cx}{a b c:Expr}{ta tb tc:TE}{pos:Pos}
end
section
variable {prog:Program}{w:World}{A:Around}{E:QqV}{s:Shared}{K:W.Frag}{x dx C f:Addr}{mA:QqM}{name:Str}{v:Value}
end
section
variable {P:Program}{w:World}{H H':Hp}{h h':Heap}{a C dx:Addr}{fs fs':List (Str × V)}
end
section
variable {X:Cx}{pins:QqL}{σ:St}{H:Hp}{s:Shared}{a C dx:Addr}{fs:List (Str × V)}{f:Str}{v:V}{A:Around}{E:QqV}
end
section
variable {X:Cx}{o e value:Expr}{f:Str}{pos pos' tpos:Pos}{ta tv:TE}
end
section
variable {X:Cx}{pins:QqL}{σ:St}{H:Hp}{s:Shared}{A:Around}{E:QqV}{Q:QqV}{c:Value}{b:Bool}
end
section
variable {X:Cx}{e:Expr}{es:List Expr}{te:TE}{t:TA}{pos:Pos}
end
section
variable {X:Cx}{pins:QqL}{σ:St}{H:Hp}{s s':Shared}
end
section
variable {X:Cx}{CX:CXT}{k:Nat}{f C:Addr}{fd:FuncData}{ps:List Str}{sp:Sp}{dvs:List V}{ds:QqW}{E:XK}{x m:Str}{p pos apos:Pos}{e o:Expr}{es:List Expr}{ta:TE}{t:TA}
end
section
variable {X:Cx}{CX:CXT}{k:Nat}{f C:Addr}{fd:FuncData}{ps ks:List Str}{sp:Sp}{E:XK}{x m:Str}{p pos apos kpos:Pos}{e o:Expr}{es:List Expr}{kws:List Keyword}{te ta:TE}{t tk:TA}{nm:Option Str}
variable {g:List Value->List Value->List Value}{gV:List V->List V->List V}
end
section
variable {X:Cx}{x:Str}{p pos:Pos}{e:Expr}{es:List Expr}{t:TA}{id T:String}{r:List V->Hp->VK->Prop}
end
section
variable {κ:Type} [DecidableEq κ]
def YK(kvs:List (κ × V))(k:κ):Option V:=(kvs.find? λJ=>decide (J.1=k)).map (·.2)
def zm8(kvs:List (κ × V))(k:κ)(v:V):List (κ × V):=
 if (kvs.any λJ=>decide (J.1=k))=true then kvs.map (λJ=>if J.1=k then(J.1,v) else J) else kvs++[(k,v)]
def WW(kvs:List (κ × V))(k:κ):List (κ × V):=kvs.filter λJ=>decide (J.1≠k)
theorem Xh{p:κ × V}{r:List (κ × V)}{k:κ}(e:p.1=k):YK (p::r) k=some p.2:=by simp[YK,we,e]
theorem Xi{p:κ × V}{r:List (κ × V)}{k:κ}(e:¬ p.1=k):YK (p::r) k=YK r k:=by simp[YK,we,e]
theorem zb4(k:κ):∀kvs:List (κ × V),(kvs.any λJ=>decide (J.1=k))=(YK kvs k).isSome
 |[]=>rfl
 |p::r=>by
  rw[yE]
  by_cases e:p.1=k
  ·simp only[Xh e,xh e,Bool.true_or,Option.isSome_some]
  ·rw[Xi e,zN e,Bool.false_or];exact zb4 k r
theorem RelO.isSome_eq(r:RelO o u):o.isSome=u.isSome:=by
 cases o with
 |none=>cases u with
  |none=>rfl
  |some _=>exact(show False from r).elim
 |some _=>cases u with
  |none=>exact(show False from r).elim
  |some _=>rfl
theorem KV.val(r:KV kvs vs)(k:κ):RelO (YK kvs k) (valueAt vs k):=by
 unfold KV at r
 induction r with
 |nil=>exact True.intro
 | @cons p q ps qs h t J =>
  obtain⟨h1,L⟩:=h
  by_cases e:p.1=k
  ·have e' : q.1 = k := h1.symm.trans e
   have b:valueAt (q::qs) k=some q.2:=by simp[valueAt,we,e']
   rw[Xh e,b];exact L
  ·have e' : ¬ q.1 = k := λz => e (h1.trans z)
   have b:valueAt (q::qs) k=valueAt qs k:=by simp[valueAt,we,e']
   rw[Xi e,b];exact J
theorem KV.any(r:KV kvs vs)(k:κ):(kvs.any λJ=>decide (J.1=k))=vs.any λJ=>decide (J.1=k):=by
 unfold KV at r
 induction r with
 |nil=>rfl
 |cons h t L=>rw[yE,yE,L,h.1]
theorem KV.repl(r:KV kvs vs)(k:κ)(L:RelV y u) :
  KV (kvs.map λJ=>if J.1=k then(J.1,y) else J) (vs.map λJ=>if J.1=k then(J.1,u) else J):=by
 unfold KV at r ⊢
 induction r with
 |nil=>exact .nil
 |@cons p q ps qs h t O=>
  rw[zD,zD];refine .cons ?_ O;obtain⟨h1,Y⟩:=h
  by_cases e:p.1=k
  ·rw[if_pos e,if_pos (h1.symm.trans e)];exact⟨h1,L⟩
  ·rw[if_neg e,if_neg (λz=>e (h1.trans z))];exact⟨h1,Y⟩
theorem KV.put(r:KV kvs vs)(k:κ)(J:RelV y u):KV (zm8 kvs k y) (stored vs k u):=by
 unfold zm8 stored;rw[r.any k]
 by_cases e:(vs.any λL=>decide (L.1=k))=true
 ·rw[if_pos e,if_pos e];exact r.repl k J
 ·rw[if_neg e,if_neg e];exact Paired.snoc r ⟨rfl,J⟩
theorem KV.length(r:KV kvs vs):kvs.length=vs.length:=Paired.length r
end
def zM6(r:RelV (kV k) u):(wV P w).is k u=true:=by
 cases k with
 |inl i=>obtain⟨t,e⟩:=(show ∃t,u=Value.int i t from r);subst e;exact QE P w i t
 |inr x=>obtain⟨t,e⟩:=(show ∃t,u=Value.str x t from r);subst e;exact QD P w x t
theorem Wk:∀{ks:List Key}{us:QqW},Vals (ks.map kV) us->ItemsAre (wV P w) ks us
 |[],_,r=>by rw[map_nil] at r;cases r;exact .nil
 |k::ks,_,r=>by
  rw[zD] at r
  cases r with
  |cons h t=>exact .cons (zM6 h) (Wk t)
abbrev KT(H:Hp):List (List Key × V)->List (List Key × Addr × Value)->Prop:=Paired λp q=>p.1=q.1/\H q.2.1=some (.tup (p.1.map kV))/\RelV p.2 q.2.2
def KT.val(r:KT H kvs xs)(k:List Key):RelO (YK kvs k) ((atKey xs k).map (·.2)):=by
 induction r with
 |nil=>exact True.intro
 | @cons p q ps qs h t J =>
  obtain⟨h1,_,L⟩:=h
  by_cases e:p.1=k
  ·have e' : q.1 = k := h1.symm.trans e
   have b:atKey (q::qs) k=some q.2:=by simp[atKey,we,e']
   rw[Xh e,b];exact L
  ·have e' : ¬ q.1 = k := λz => e (h1.trans z)
   have b:atKey (q::qs) k=atKey qs k:=by simp[atKey,we,e']
   rw[Xi e,b];exact J
def KT.repl(r:KT H kvs xs)(k:List Key)(O:RelV y u) :
  KT H (kvs.map λJ=>if J.1=k then(J.1,y) else J) (xs.map (putAt k u)):=by
 induction r with
 |nil=>exact .nil
 |@cons p q ps qs h t Y=>
  rw[zD,zD];refine .cons ?_ Y;obtain⟨h1,L,h3⟩:=h;unfold putAt
  by_cases e:p.1=k
  ·rw[if_pos e,if_pos (h1.symm.trans e)];exact⟨h1,L,O⟩
  ·rw[if_neg e,if_neg (λz=>e (h1.trans z))];exact⟨h1,L,h3⟩
def KT.put(r:KT H kvs xs)(k:List Key)(O:H b=some (.tup (k.map kV)))(J:RelV y u) :
  KT H (zm8 kvs k y) (storedH xs k b u):=by
 have e:(kvs.any λL=>decide (L.1=k))=(atKey xs k).isSome:=by
  rw[zb4,(r.val k).isSome_eq,Option.isSome_map]
 unfold zm8 storedH;rw[e]
 by_cases q:(atKey xs k).isSome=true
 ·rw[if_pos q,if_pos q];exact r.repl k J
 ·rw[if_neg q,if_neg q];exact Paired.snoc r ⟨rfl,O,J⟩
def KT.keeps(r:KT H kvs xs)(ht:∀b ys,H b=some (.tup ys)->H' b=some (.tup ys)):KT H' kvs xs:=
 Paired.mapP r λ_ _ z=>⟨z.1,ht _ _ z.2.1,z.2.2⟩
section
variable {P:Program}{w:World}{H:Hp}{h:Heap}{a:Addr}
def xg9(ok:HOk P w H h)(e:Rd H a u):ObjOk P w H h a u:=e.ok ok
def zN9(ok:HOk P w H h)(e:Rd H a (.dK kvs)):kvs.length<=sizeLine/\(a == sysModules)=false/\∃vs,KV kvs vs/\h.DictOf (wV P w) a vs:=
 show ObjOk P w H h a (.dK kvs) from xg9 ok e
def ze5(ok:HOk P w H h)(e:H a=some (.tup (ks.map kV))):(tupleKind (wV P w)).is h ks a:=by
 obtain⟨_,its,r,o,h1,L,n,J⟩:=(show ObjOk P w H h a (.tup (ks.map kV)) from ok a _ e)
 exact⟨o,its.toArray,n,h1,L,J,by simpa using Wk r⟩
def zA6(ok:HOk P w H h)(e:Rd H a (.dT kvs)):kvs.length<=sizeLine/\(a == sysModules)=false /\
  ∃xs,KT H kvs xs/\h.DictOfH (tupleKind (wV P w)) a xs:=by
 obtain⟨z,y,xs,r,o,es,ep,h1,h2,Y,h4,O⟩:=(show ObjOk P w H h a (.dT kvs) from xg9 ok e);refine⟨z,y,xs,r,o,es,ep,h1,h2,Y,h4,λx hx=>?_,O⟩
 have all:∀{l:List (List Key × V)}{m:List (List Key × Addr × Value)},KT H l m->∀x∈m,(tupleKind (wV P w)).is h x.1 x.2.1:=by
  intro l m q
  induction q with
  |nil=>intro x hx;exact nomatch hx
  | @cons p q ps qs J t L =>
   intro x hx
   rcases zj.mp hx with e |hx
   ·subst e
    exact ze5 ok (by rw[<- J.1];exact J.2.1)
   ·exact L x hx
 exact all r x hx
def zk9(ok:HOk P w H h)(e:H a=some (.dT kvs)):kvs.length<=sizeLine/\(a == sysModules)=false /\
  ∃xs,KT H kvs xs/\h.DictOfH (tupleKind (wV P w)) a xs:=zA6 ok (.inl e)
end
def DGet(H:Hp)(a:Addr)(y:V)(r:Option V):Prop:=
 (∃kvs k,Rd H a (.dK kvs)/\y=kV k/\r=YK kvs k)\/∃kvs k b,Rd H a (.dT kvs)/\y=.ref b/\H b=some (.tup (k.map kV))/\r=YK kvs k
def DGet.k{H:Hp}{a:Addr}{kvs:List (Key × V)}{k:Key}(e:H a=some (.dK kvs)):DGet H a (kV k) (YK kvs k):=.inl ⟨kvs,k,.inl e,rfl,rfl⟩
section
variable {X:Cx}{pins:QqL}{σ:St}{H:Hp}{s:Shared}{a:Addr}{y v:V}{u r:Value}{o:Option V}{A:Around}{E:QqV}
def Inv.big(I:Inv X pins σ H s):sysModules<s.heap.objs.size:=by
 have h:mainGlobals<s.heap.objs.size:=(I.mod.glob.keeps I.bk).lt
 exact Nat.lt_trans q9 h
def zB0(hu:A.units+1<cLine)(I:Inv X pins σ H s)(g:DGet H a y (some v))(ry:RelV y u)(h:∀w' s',Inv X pins σ H s'->RelV v w'->Q w' s') :
  wpAny (model X.prog X.w) A (getItem (.ref a) u) Q E s:=by
 rcases g with ⟨kvs,k,e,Y,l⟩ |⟨kvs,k,b,e,Y,eb,l⟩
 ·subst Y;obtain⟨z,hd,vs,J,dd⟩:=zN9 I.hok e
  obtain⟨w',L,rw'⟩:=RelO.some_of (v:=v) (o:=valueAt vs k) (by rw[l];exact J.val k)
  exact wpAny_getItem_of (zM6 ry) dd.mapOf L (h w' _ (I.tok _) rw')
 ·subst Y;cases(show u=Value.ref b from ry);obtain⟨z,hd,xs,J,dd⟩:=zA6 I.hok e
  obtain⟨w',L,rw'⟩:=RelO.some_of (v:=v) (o:=(atKey xs k).map (·.2)) (by rw[l];exact J.val k)
  obtain⟨p,hp,O⟩:=Option.map_eq_some_iff.mp L;refine wpAny_getItem_heap (tupleKind_room_in1 hu) (ze5 I.hok eb) dd hp ?_;rw[O];exact h w' _ (I.tok _) rw'
def xd1(hu:A.units+1<cLine)(I:Inv X pins σ H s)(g:DGet H a y o)(Y:RelV y u)(h:∀s',Inv X pins σ H s'->Q (.bool (!o.isSome)) s') :
  wpAny (model X.prog X.w) A (compareOp .NotIn u (.ref a)) Q E s:=by
 rcases g with ⟨kvs,k,e,L,l⟩ |⟨kvs,k,b,e,L,eb,l⟩
 ·subst L;obtain⟨z,hd,vs,J,O⟩:=zN9 I.hok e;refine wpAny_notIn_of (zM6 Y) hd O.mapOf ?_;rw[<- (J.val k).isSome_eq,<- l];exact h _ (I.tok _)
 ·subst L;cases(show u=Value.ref b from Y);obtain⟨z,hd,xs,J,O⟩:=zA6 I.hok e;refine wpAny_notIn_heap (tupleKind_room_in1 hu) (ze5 I.hok eb) hd O ?_;have q:=(J.val k).isSome_eq;rw[Option.isSome_map] at q;rw[<- q,<- l];exact h _ (I.tok _)
def zA9{t':Nat}(I:Inv X pins σ H s)(L:Mut (H a))(hs:Heap.SameBut a s.heap h')(he:∃q,h'.get? a=some q)(J:ObjOk X.prog X.w (upd H a ob) h' a ob) :
  Inv X pins σ (upd H a ob) { s with heap:=h',toks:=t' }:=
 I.write (x:=a) (e:=a) L (.inl rfl) (λb q O z=>(hs.2 b O).trans z) he J
end
section
variable {X:Cx}{pins:QqL}{σ:St}{H:Hp}{s:Shared}{a:Addr}{kvs:List (Key × V)}{k:Key}{u:Value}{A:Around}{E:QqV}
end
def xq9(i:Expr):Prop:=∀J L,subscripted i false J L=operate [J,L] (getItem J L)
def zp4{prog:Program}{w:World}{A:Around}{E:QqV}{s:Shared}{env:Env}{L J:Expr}{pos:Pos}{T id:String}{Q:QqV}
  (hl:typeLookup (.type T) "__getitem__" = pure (some (.builtin id))) (hs:xq9 J)
  (h:wpAny (model prog w) A (eval L env) (λo s₁=>wpAny (model prog w) A (eval J env) (λi O=>O.TypeIs o T/\wpAny (model prog w) A (getItem o i) Q E O) E s₁) E s) :
  wpAny (model prog w) A (eval (.Subscript L J pos) env) Q E s:=by
 refine Subscript_ (wv h (λo s₁ h₁=>wv h₁ (λi O Y=>?_) λ_ _ x=>x) λ_ _ x=>x);obtain⟨hT,Y⟩:=Y;unfold subscriptTail;refine zb ?_;rw[getitemInPython_of_ne hT.not_modules];refine zb (wpAny_specialOf hT hl ?_)
 have fin:wpAny (model prog w) A (subscripted J false o i) (λr s₃=>wpAny (model prog w) A (letTemporaryGo L o r >>= λ_=>pure r) Q E s₃) E O:=by
  rw[hs o i];exact wpAny_operating (wv Y (λr s₃ h₃=>zb (wpAny_letTemporaryGo (zd h₃))) λ_ _ x=>x)
 first
  |exact zd (zb fin)
  |exact zb (zd (zb fin))
  |exact zb fin
def QP(I:Inv X pins σ H s)(g:DGet H a y o):s.TypeIs (.ref a) "dict" := by
 rcases g with ⟨kvs,k,e,_,_⟩ |⟨kvs,k,b,e,_,_,_⟩
 ·obtain⟨_,_,vs,_,J⟩:=zN9 I.hok e;exact J.typeIs
 ·obtain⟨_,_,xs,_,J⟩:=zA6 I.hok e;exact J.typeIs
def xv4(td ty:TE):TE:=λσ H Q=>td σ H λx H1=>ty σ H1 λy H2=>∃a v,x=.ref a/\DGet H2 a y (some v)/\Q v H2
section
variable {X:Cx}{o i e value:Expr}{pos pos' tpos:Pos}{td ty tv:TE}
def zX3(hu:X.A.units+1<cLine)(ho:PE X o td)(hi:PE X i ty)(hs:xq9 i):PE X (.Subscript o i pos) (xv4 td ty):=by
 intro pins s σ H Q I h;refine zp4 PySem.F.slot_dict_getitem.lookup hs (thn (ho pins s σ H _ I h) λu s1 ⟨x,H1,I1,O,q1⟩=>thn (hi pins s1 σ H1 _ I1 q1) λiv s2 ⟨y,H2,J,L,a,v,ex,g,Y⟩=>?_);subst ex;obtain rfl:u=Value.ref a:=O;exact⟨QP J g,zB0 hu J g L λw' s3 I3 rw'=>⟨v,H2,I3,rw',Y⟩⟩
end
def zf4(h:Heap)(J:sysModules<h.objs.size):ObjOk P w H (h.push { cls:=.type "dict",data:=.dict #[] }) h.objs.size (.dK []):=
 ⟨xq _,beq_eq_false_iff_ne.mpr (Ne.symm (zA J)),[],.nil,Heap.DictOf.new h⟩
section
variable {X:Cx}{pos:Pos}
end
structure M1(X:Cx)(o:Expr)(m:Str)(apos:Pos)(e:Expr)(cpos:Pos):Prop where
 base:attributeBase o m X.env (eval o X.env)=eval o X.env
 few:((backTo cpos (starEach [e] X.env)).all (λx=>!x.1)&&(backToKw cpos (keywordEach [] X.env)).all (λx=>x.1.isSome)
  && decide (([e]:List Expr).length+([]:List Keyword).length+(if ([]:List Keyword).isEmpty then 0 else 1)<30))=true
 line:(apos.endLine == cpos.line)=true
 trees:backTo cpos (starEach [e] X.env)=[(false,eval e X.env)]
def IsD(H:Hp)(a:Addr):Prop:=(∃kvs,Rd H a (.dK kvs))\/∃kvs,Rd H a (.dT kvs)
def zy2(I:Inv X pins σ H s)(d:IsD H a) :
  s.TypeIs (.ref a) "dict" /\ (∀b,Value.ref a=.ref b->∃ob,s.heap.get? b=some ob/\ob.dict=none)/\(a == sysModules)=false:=by
 rcases d with ⟨kvs,e⟩ |⟨kvs,e⟩
 ·obtain⟨_,hd,vs,_,J⟩:=zN9 I.hok e;refine⟨J.typeIs,λb q=>?_,hd⟩;cases q;obtain⟨ob,_,_,h1,L,_⟩:=J;exact⟨ob,h1,L.2.1⟩
 ·obtain⟨_,hd,xs,_,J⟩:=zA6 I.hok e;refine⟨J.typeIs,λb q=>?_,hd⟩;cases q;obtain⟨ob,_,_,h1,L,_⟩:=J;exact⟨ob,h1,L.2.1⟩
section
variable {X:Cx}{pins:QqL}{σ:St}{H:Hp}{s:Shared}{a:Addr}{y d:V}{u r:Value}{o:Option V}{A:Around}{E:QqV}
end
section
variable {X:Cx}{o e f:Expr}{apos cpos:Pos}{td ty tx:TE}
end
section
variable {X:Cx}{pins:QqL}{σ:St}{H:Hp}{s:Shared}{a:Addr}{kvs:List (Key × V)}{A:Around}{E:QqV}
end
section
variable {X:Cx}{pins:QqL}{σ:St}{H:Hp}{s:Shared}{a:Addr}{y:V}{u:Value}{A:Around}{E:QqV}
end
end L2
namespace Att
open PySem PySem.W PySem.Calls PyProof.Rows
section
variable {prog:Program}{w:World}{A:Around}{E:QqV}{s:Shared}{K:Frag}
end
end Att
namespace L2
section
variable {P:Program}{w:World}{K:W.Frag}{mg:QqM}{base:Heap}
end
section
variable {X:Cx}
end
section
variable {κ:Type} [DecidableEq κ]
end
section
variable {prog:Program}{w:World}{A:Around}{R:Result->Shared->Prop}{s:Shared}
def Vw(J:Nat->Shared->Prop)
  (turn : ∀ n s, J n s -> wpAny (model prog w) A (pyNext it) (λr s1 => match r with
   |none=>R (.ok .next) s1
   | some v => wpAny (model prog w) A (letOwnedTupleGo target it v) (λ_ s2 => wpAny (model prog w) A (assign target env v) (λ_ s3 => wpAny (model prog w) A (YV ifs env) (λok L =>
     if ok=true then wpAny (model prog w) A (eval kx env) (λkv s5=>wpAny (model prog w) A (eval vx env) (λO s6=>wpAny (model prog w) A (dictSet D kv O) (λ_ Y=>∃m,m<n/\J m Y) (λ_ _=>False) s6) (λ_ _=>False) s5) (λ_ _=>False) L
     else ∃m,m<n/\J m L) (λ_ _=>False) s3) (λ_ _=>False) s2) (λ_ _=>False) s1) (λ_ _=>False) s)
  (n:Nat) (h:J n s):codeAny (model prog w) A (.compLoop (.DictComp kx vx [⟨target,iter,ifs,0⟩] scope pos) 0 it (.ref D) env) R s:=by
 refine codeAny_loop rfl J (λn s hJ=>?_) n h
 show wpAny _ A ((compTurn (.DictComp kx vx [⟨target,iter,ifs,0⟩] scope pos) 0 it (.ref D) env).onRaise (λx=>do noteFrame x env;theTreesLotGoes x)) _ _ s
 refine wpAny_noted ?_;rw[compTurn_dict]
 have up:∀{α:Type}{t:Sem α}{Q Q':α->Shared->Prop}{E:QqV}{s:Shared},wpAny (model prog w) A t Q (λ_ _=>False) s->(∀a s,Q a s->Q' a s)->wpAny (model prog w) A t Q' E s:=
  λh f=>wv h f λ_ _ z=>False.elim z
 refine zb (wx (zb (up (turn n s hJ) λr s1 h1=>?_)))
 cases r with
 |none=>exact zd h1
 |some v=>
  refine zb (up h1 λ_ s2 h2=>?_);refine zb (up h2 λ_ s3 h3=>?_);refine zb (up h3 λok L h4=>?_)
  cases ok with
  |false=>exact zd ⟨rfl,h4⟩
  |true=>exact zb (zb (up h4 λkv s5 h5=>zb (xr (up h5 λO s6 h6=>zb (wx (xr (up h6 λ_ Y h7=>zd ⟨rfl,h7⟩)))))))
end
section
variable {X:Cx}{scope:Scope}{own M:List Str}{pins:QqL}{σ:St}{H2:Hp}{s2:Shared}{fp:List Addr}
end
section
variable {X:Cx}{scope:Scope}{own M:List Str}{pins:QqL}{σ:St}{H2:Hp}{s2:Shared}{tg iter kx vx:Expr}{ifs:List Expr}{pos:Pos}{g:TG}{tt:TT}{tk tv:TE}
def Vv(kx vx:Expr)(gens:List Comprehension)(scope:Scope)(pos:Pos)(env:Env):eval (.DictComp kx vx gens scope pos) env=comprehension (.DictComp kx vx gens scope pos) scope env (firstIterPos gens pos) newDict (firstAsync gens) (firstIter gens env):=by
 first |rfl |(unfold eval;rfl) |(rw[eval];rfl) |rw[eval]
def zP9(wi:TI)(own:Nat)(g:TG)(tt:TT)(tk tv:TE):TE:=λσ H Q=>wi σ H λJ H1=>∃W:Nat->Nat->List (Key × V)->Hp->Prop,(∃m,W 0 m [] H1)/\∀i m acc H,W i m acc H ->
 (J.stop i H/\acc.length<=sizeLine/\∀D,H D=none->Q (.ref D) (upd H D (.dK acc))) \/
 (J.go i H /\ acc.length < sizeLine /\ ∀ x H', J.yld i H x H' -> g x (List.replicate own none ++ σ) H' λL H2 => L.drop own = σ /\ tt L H2 λc O =>
  if c=true then tk L O λy H4=>tv L H4 λv Y=>∃k m',y=kV k/\m'<m/\W (i+1) m' (zm8 acc k v) Y else ∃m',m'<m/\W (i+1) m' acc O)
section
variable {X:Cx}{scope:Scope}{own M:List Str}{pins:QqL}{σ:St}{H2:Hp}{s2:Shared}{tg iter kx vx:Expr}{ifs:List Expr}{pos:Pos}{g:TG}{tt:TT}{tk tv:TE}
abbrev DkO(P:Program)(w:World)(acc:List (Key × V))(ob:Obj):Prop:=∃vs,ob.IsDictOf (wV P w) vs/\KV acc vs
def xc6(I:Inv X' ((D,ob)::pf) σ H s)(f:∀{H:Hp},H D=none->FpOk X' pf H D)(d:DkO X'.prog X'.w acc ob)(gz:acc.length<sizeLine)(L:RelV (kV k) ky)(r:RelV v y)
  (c:∀{ob' s'},DkO X'.prog X'.w (zm8 acc k v) ob'->Inv X' ((D,ob')::pf) σ H s'->post s'):wpAny (model X'.prog X'.w) X'.A (dictSet D ky y) (λ_=>post) (λ_ _=>False) s:=by
 obtain⟨vs,⟨es,ep,q⟩,rv⟩:=d;have Y:=rv.length;have J:=I.pinAt (.head _)
 refine wpAny_dictSet_pairs (hsz:=by lia) (zM6 L) ⟨ob,es,ep,J.1,q⟩ λh' O hs=>?_
 obtain⟨ob',es',ep',ho',isD'⟩:=O
 exact c ⟨_,⟨es',ep',isD'⟩,rv.put k r⟩ (I.bump (t:=s.toks+1) (f J.2) hs ho' λv z=>by rw[isD'.2.1] at z;cases z)
def zJ4{wi:TI}(ok:CompOk X scope M)(hc:X.calm=true)(hi:PI X tg iter wi)(hg:∀C s2 H2 fp,PG (wa X scope own M C s2 H2 fp) tg g)(ht:∀C s2 H2 fp,PTs (wa X scope own M C s2 H2 fp) ifs tt)
  (ad:∀C s2 H2 fp,PE (wa X scope own M C s2 H2 fp) kx tk) (he:∀C s2 H2 fp,PE (wa X scope own M C s2 H2 fp) vx tv) (hs:∀x,foldedSetIterable iter X.env x=pure x:=by intro _;rfl) :
  PE X (.DictComp kx vx [⟨tg,iter,ifs,0⟩] scope pos) (zP9 wi own.length g tt tk tv):=by
 intro pins s σ H Q I h;rw[Vv]
 refine wW (use:=none) rfl hs (Yb (ok.cells I)) ok.kind (λx hx hl=>by rw[ok.uniq x hx,hl]) ?_
 refine thn (hi pins s σ H _ I h) λv s1 h1=>thn h1 λaf s2 ⟨it,fp,tn,J,H2,e,I2,T,Y,f2,W,w0,turn⟩=>?_;subst e;refine xl (qN ?_);obtain⟨_,O,vs,aa,o,es,ep,e,q0⟩:=zf4 (P:=X.prog) (w:=X.w) (H:=H2) s2.heap I2.big
 rw[zr _ (by rfl)] at e
 cases e;dsimp only;rw[wc]
 exact UL (ho:=λ_=>.dK) (DO:=DkO X.prog X.w) (λ_ _ ⟨_,⟨_,_,_,e,_⟩,_⟩ v z=>by rw[e] at z;cases z) ⟨vs,⟨es,ep,q0⟩,aa⟩ rfl ok hc (hg _ _ _ _) (ht _ _ _ _) (λ_=>vQ) I2 T Y f2 w0 turn (λ_ _ _ _ ob _ _ hz ⟨vs,⟨es,ep,r⟩,rv⟩ _ ho=>⟨hz,O,vs,rv,ob,es,ep,ho,r⟩)
  (λR L turn n s h=>Vw (kx:=kx) (vx:=vx) (iter:=iter) (scope:=scope) (pos:=pos) L turn n h) (λ_ _ h k=>codeAny_compStart_dict h (k _))
  (λpf σ6 H7 s7 i n acc ob I7 d gz fD kd q7 post fin=>thn (ad _ _ _ _ _ s7 σ6 H7 _ I7 q7) λy s8 ⟨v,H8,I8,r8,q8⟩=>thn (he _ _ _ _ _ s8 σ6 H8 _ I8 q8) λy2 s9 ⟨v2,H9,I9,r9,kk,m',ek,hm,w8⟩=>xc6 I9 fD d gz (ek ▸ r8) r9 λd' I'=>fin hm w8 d' (vQ kd) I') (λH' s' m IY q hm ae c2 c1 c3 c4=>⟨m,hm,λh' hs'=>⟨.ref s2.heap.objs.size,H',IY.turned (t':=s'.toks) (λb o hb e=>hs'.extBut b o hb e) ae c2 (.inr c1) c3 c4,rfl,q⟩⟩) rfl
end
end
inductive D where
 |non |bl (b:Bool) |int (i:Int) |str (x:Str) |ty (n:String) |tup (ds:List D) |lst (ds:List D)
 /-- a list that is known and stays -/
 |fz (ds:List D)
 /-- the list that the drawing keeps -/
 |st
 /-- a list of the frame's own (in a slot alone) -/
 |own (ds:List D)
 /-- a dict of the frame's own (in a slot alone), its keys pairs of numbers -/
 |owT (ks:List (Int × Int)) (ds:List D)
 /-- a pair of numbers, a tuple that is tracked -/
 |prT (k:QqP)
 /-- a dict, whatever it holds -/
 |dic
 /-- a dict, known, that stays -/
 |dct (ks:List Key) (ds:List D)
 /-- a dict, known, that stays, its keys tuples of numbers -/
 |dcL (ks:QqI) (ds:List D)
def Xd(ks:List Key)(xs:List V):List (Key × V):=List.zipWith (λk x=>(k,x)) ks xs
abbrev xc0:Hp:=λ_=>none
def SqZ(K:W.Frag)(Z:QqA)(H:Hp)(b:Bool)(a:Addr)(xs:List V):Prop:=
 match b with
 |true=>¬ Z a/\H a=some (.lst xs)
 |false=>(¬ Z a/\Rd H a (.tup xs))\/SqT K xc0 a xs
def xb9(k:List Int):Int:=reduceHash (Builtin.Tuple.tupleHashOf (k.map hashInt))
def xu4:List (List Int)->List Addr->List Value->List DictEntry
 |k::ks,b::bs,u::us=>⟨xb9 k,.ref b,u⟩::xu4 ks bs us
 |_,_,_=>[]
def QQ(a:Addr)(ks:QqI)(bs:List Addr)(xs:List V):Heap->Prop:=λh=>
 (a == sysModules)=false/\∃o es ep us,h.get? a=some o/\o.ExactDict/\o.data=.dict es ep/\Vals xs us/\es.toList=xu4 ks bs us
def KeysAt(K:W.Frag)(Z:QqA)(H:Hp):List (List Int)->List Addr->Prop
 |[],bs=>bs=[]
 |k::ks,bs=>∃b r,bs=b::r/\SqZ K Z H false b (k.map V.int)/\KeysAt K Z H ks r
def SqF(K:W.Frag)(Z:QqA)(H:Hp)(a:Addr)(xs:List V):Prop:=(¬ Z a/\∃o,H a=some (.frz o (.lst xs)))\/SqL K xc0 a xs
mutual
def Rep(K:W.Frag)(G:QqE)(Z:QqA)(H:Hp):D->V->Prop
 |.non,v=>v=.non
 |.bl b,v=>v=.bl b
 |.int i,v=>v=.int i
 |.str x,v=>v=.str x
 |.ty n,v=>v=.ty n
 |.tup ds,v=>∃a xs,v=.ref a/\SqZ K Z H false a xs/\Reps K G Z H ds xs
 |.lst ds,v=>∃a xs,v=.ref a/\SqZ K Z H true a xs/\Reps K G Z H ds xs
 |.fz ds,v=>∃a xs,v=.ref a/\SqF K Z H a xs/\Reps K G Z H ds xs
 |.st,v=>∃a,G=some a/\v=.ref a
 |.own _,_=>False
 |.owT _ _,_=>False
 |.prT k,v=>∃b,v=.ref b/\¬ Z b/\H b=some (.tup [.int k.1,.int k.2])
 |.dic,v=>∃a kvs,v=.ref a/\¬ Z a/\H a=some (.dK kvs)
 |.dct ks ds,v=>∃a xs,v=.ref a/\(¬ Z a/\H a=some (.dK (Xd ks xs)))/\Reps K G Z H ds xs
 |.dcL ks ds,v=>∃a bs xs,v=.ref a/\(¬ Z a/\H a=some (.ext (QQ a ks bs xs)))/\KeysAt K Z H ks bs/\Reps K G Z H ds xs
def Reps(K:W.Frag)(G:QqE)(Z:QqA)(H:Hp):List D->List V->Prop
 |[],vs=>vs=[]
 |d::ds,vs=>∃v r,vs=v::r/\Rep K G Z H d v/\Reps K G Z H ds r
end
section
variable {K:W.Frag}{G:QqE}{Z Z':QqA}{H H':Hp}
def SqT.anyH(h:SqT K xc0 a xs):SqT K H a xs:=by
 rcases h with (h |⟨o,h⟩) |h
 ·cases h
 ·cases h
 ·exact .inr h
def SqZ.sq{b:Bool}(h:SqZ K Z H b a xs):SqB K b H a xs:=by
 cases b with
 |true=>exact SqL.of h.2
 |false=>
  rcases h with ⟨_,h⟩ |h
  ·exact .inl h
  ·exact SqT.anyH h
def SqZ.mono{b:Bool}(h:SqZ K Z H b a xs)(hz:∀a,H a≠none->Z' a->Z a)(J:∀a o,¬ Z a->H a=some o->H' a=some o):SqZ K Z' H' b a xs:=by
 cases b with
 |true=>exact⟨λz=>h.1 (hz a (by rw[h.2];simp) z),J a _ h.1 h.2⟩
 | false =>
  rcases h with ⟨n,h⟩ |h
  ·refine .inl ⟨λz => n (hz a ?_ z), ?_⟩
   ·rcases h with h |⟨o,h⟩<;>(rw[h];simp)
   ·rcases h with h | ⟨o, h⟩
    ·exact .inl (J a _ n h)
    ·exact .inr ⟨o,J a _ n h⟩
  ·exact .inr h
theorem KeysAt.mono(hz:∀a,H a≠none->Z' a->Z a)(J:∀a o,¬ Z a->H a=some o->H' a=some o):∀{ks:QqI}{bs:List Addr},KeysAt K Z H ks bs->KeysAt K Z' H' ks bs
 |[],_,h=>h
 |_::_,_,h=>by
  obtain⟨b,r,e,q,t⟩:=h;exact⟨b,r,e,q.mono hz J,KeysAt.mono hz J t⟩
mutual
theorem Rep.mono(hz:∀a,H a≠none->Z' a->Z a)(J:∀a o,¬ Z a->H a=some o->H' a=some o):∀(d:D) (v:V),Rep K G Z H d v->Rep K G Z' H' d v
 |.non,v,h=>by unfold Rep at h ⊢;exact h
 |.bl b,v,h=>by unfold Rep at h ⊢;exact h
 |.int b,v,h=>by unfold Rep at h ⊢;exact h
 |.str b,v,h=>by unfold Rep at h ⊢;exact h
 |.ty b,v,h=>by unfold Rep at h ⊢;exact h
 |.st,v,h=>by unfold Rep at h ⊢;exact h
 |.own _,v,h=>by unfold Rep at h;exact h.elim
 |.owT _ _,v,h=>by unfold Rep at h;exact h.elim
 |.prT k,v,h=>by
  unfold Rep at h ⊢;obtain⟨b,e,n,q⟩:=h
  exact⟨b,e,λz=>n (hz b (by rw[q];simp) z),J b _ n q⟩
 |.dic,v,h=>by
  unfold Rep at h ⊢;obtain⟨a,kvs,e,n,q⟩:=h
  exact⟨a,kvs,e,λz=>n (hz a (by rw[q];simp) z),J a _ n q⟩
 |.dct ks ds,v,h=>by
  unfold Rep at h ⊢;obtain⟨a,xs,e,⟨n,q⟩,r⟩:=h
  exact⟨a,xs,e,⟨λz=>n (hz a (by rw[q];simp) z),J a _ n q⟩,Reps.mono hz J ds xs r⟩
 |.dcL ks ds,v,h=>by
  unfold Rep at h ⊢;obtain⟨a,bs,xs,e,⟨n,q⟩,L,r⟩:=h
  exact⟨a,bs,xs,e,⟨λz=>n (hz a (by rw[q];simp) z),J a _ n q⟩,L.mono hz J,Reps.mono hz J ds xs r⟩
 |.tup ds,v,h=>by
  unfold Rep at h ⊢;obtain⟨a,xs,e,q,r⟩:=h;exact⟨a,xs,e,q.mono hz J,Reps.mono hz J ds xs r⟩
 |.lst ds,v,h=>by
  unfold Rep at h ⊢;obtain⟨a,xs,e,q,r⟩:=h;exact⟨a,xs,e,q.mono hz J,Reps.mono hz J ds xs r⟩
 |.fz ds,v,h=>by
  unfold Rep at h ⊢;obtain⟨a,xs,e,q,r⟩:=h;refine⟨a,xs,e,?_,Reps.mono hz J ds xs r⟩
  rcases q with ⟨n,o,q⟩ |q
  ·exact .inl ⟨λz=>n (hz a (by rw[q];simp) z),o,J a _ n q⟩
  ·exact .inr q
theorem Reps.mono(hz:∀a,H a≠none->Z' a->Z a)(J:∀a o,¬ Z a->H a=some o->H' a=some o):∀(ds:List D) (vs:List V),Reps K G Z H ds vs->Reps K G Z' H' ds vs
 |[],vs,h=>by unfold Reps at h ⊢;exact h
 |d::ds,vs,h=>by
  unfold Reps at h ⊢;obtain⟨v,r,e,q,t⟩:=h;exact⟨v,r,e,Rep.mono hz J d v q,Reps.mono hz J ds r t⟩
end
def Reps.nil:Reps K G Z H [] []:=by unfold Reps;rfl
def Reps.cons(h:Rep K G Z H d v)(t:Reps K G Z H ds vs):Reps K G Z H (d::ds) (v::vs):=by unfold Reps;exact⟨v,vs,rfl,h,t⟩
def Reps.inv(h:Reps K G Z H (d::ds) (v::vs)):Rep K G Z H d v/\Reps K G Z H ds vs:=by
 unfold Reps at h;obtain⟨v',r,e,q,t⟩:=h;cases e;exact⟨q,t⟩
def Reps.split(h:Reps K G Z H (d::ds) vs):∃v r,vs=v::r/\Rep K G Z H d v/\Reps K G Z H ds r:=by unfold Reps at h;exact h
def Reps.nil_inv(h:Reps K G Z H [] vs):vs=[]:=by unfold Reps at h;exact h
theorem Reps.length:∀{ds:List D}{vs:List V},Reps K G Z H ds vs->vs.length=ds.length
 |[],vs,h=>by rw[h.nil_inv];rfl
 |d::ds,vs,h=>by
  obtain⟨v,r,rfl,_,t⟩:=h.split;rw[zJ,zJ,Reps.length t]
theorem Reps.get:∀{ds:List D}{vs:List V}{i:Nat}{d:D},Reps K G Z H ds vs->ds[i]?=some d->∃v,vs[i]?=some v/\Rep K G Z H d v
 |[],vs,i,d,_,e=>by simp at e
 |c::ds,vs,0,d,h,e=>by
  obtain⟨v,r,rfl,q,t⟩:=h.split;simp at e;subst e;exact⟨v,rfl,q⟩
 |c::ds,vs,i+1,d,h,e=>by
  obtain⟨v,r,rfl,q,t⟩:=h.split
  obtain⟨u,L,J⟩:=Reps.get (i:=i) t (by simpa using e)
  exact⟨u,by simpa using L,J⟩
theorem Reps.append:∀{ds es:List D}{vs ws:List V},Reps K G Z H ds vs->Reps K G Z H es ws->Reps K G Z H (ds++es) (vs++ws)
 |[],es,vs,ws,h,h'=>by rw[h.nil_inv];exact h'
 |d::ds,es,vs,ws,h,h'=>by
  obtain⟨v,r,rfl,q,t⟩:=h.split;exact .cons q (Reps.append t h')
theorem Reps.drop:∀{ds:List D}{vs:List V} (n:Nat),Reps K G Z H ds vs->Reps K G Z H (ds.drop n) (vs.drop n)
 |ds,vs,0,h=>h
 |[],vs,n+1,h=>by rw[h.nil_inv];exact .nil
 |d::ds,vs,n+1,h=>by
  obtain⟨v,r,rfl,q,t⟩:=h.split;exact Reps.drop n t
theorem Reps.take:∀{ds:List D}{vs:List V} (n:Nat),Reps K G Z H ds vs->Reps K G Z H (ds.take n) (vs.take n)
 |ds,vs,0,h=>.nil
 |[],vs,n+1,h=>by rw[h.nil_inv];exact .nil
 |d::ds,vs,n+1,h=>by
  obtain⟨v,r,rfl,q,t⟩:=h.split;exact .cons q (Reps.take n t)
theorem Reps.flatRep(h:Reps K G Z H ds vs):∀k:Nat,Reps K G Z H (replicate k ds).flatten (replicate k vs).flatten
 |0=>.nil
 |k+1=>by
  rw[wN,wN,yB,yB];exact h.append (Reps.flatRep h k)
end
def kM:D->Bool
 |.non=>true |.bl _=>true |.int _=>true |.str _=>true |.ty _=>true |_=>false
def ofS:D->V
 |.bl b=>.bl b |.int i=>.int i |.str x=>.str x |.ty n=>.ty n |_=>.non
theorem Rep.ofS{K:W.Frag}{G:QqE}{Z:QqA}{H:Hp}:∀{d:D},kM d=true->Rep K G Z H d (ofS d)
 |.non,_=>by unfold Rep;rfl
 |.bl b,_=>by unfold Rep;rfl
 |.int b,_=>by unfold Rep;rfl
 |.str b,_=>by unfold Rep;rfl
 |.ty b,_=>by unfold Rep;rfl
 |.tup ds,h=>by simp[kM] at h
 |.lst ds,h=>by simp[kM] at h
 |.st,h=>by simp[kM] at h
 |.fz ds,h=>by simp[kM] at h
 |.own ds,h=>by simp[kM] at h
 |.owT _ _,h=>by simp[kM] at h
 |.prT _,h=>by simp[kM] at h
theorem Rep.toS{K:W.Frag}{G:QqE}{Z:QqA}{H:Hp}{v:V}:∀{d:D},kM d=true->Rep K G Z H d v->v=L2.ofS d
 |.non,_,h=>by unfold Rep at h;exact h
 |.bl b,_,h=>by unfold Rep at h;exact h
 |.int b,_,h=>by unfold Rep at h;exact h
 |.str b,_,h=>by unfold Rep at h;exact h
 |.ty b,_,h=>by unfold Rep at h;exact h
 |.tup ds,h,_=>by simp[kM] at h
 |.lst ds,h,_=>by simp[kM] at h
 |.st,h,_=>by simp[kM] at h
 |.fz ds,h,_=>by simp[kM] at h
 |.own ds,h,_=>by simp[kM] at h
 |.owT _ _,h,_=>by simp[kM] at h
 |.prT _,h,_=>by simp[kM] at h
def Rep.int_inv{K:W.Frag}{G:QqE}{Z:QqA}{H:Hp}{v:V}{i:Int}(h:Rep K G Z H (.int i) v):v=.int i:=by unfold Rep at h;exact h
def Rep.bl_inv{K:W.Frag}{G:QqE}{Z:QqA}{H:Hp}{v:V}{i:Bool}(h:Rep K G Z H (.bl i) v):v=.bl i:=by unfold Rep at h;exact h
def Rep.tup_inv{K:W.Frag}{G:QqE}{Z:QqA}{H:Hp}{v:V}{ds:List D}(h:Rep K G Z H (.tup ds) v):∃a xs,v=.ref a/\SqZ K Z H false a xs/\Reps K G Z H ds xs:=by unfold Rep at h;exact h
def Rep.lst_inv{K:W.Frag}{G:QqE}{Z:QqA}{H:Hp}{v:V}{ds:List D}(h:Rep K G Z H (.lst ds) v):∃a xs,v=.ref a/\SqZ K Z H true a xs/\Reps K G Z H ds xs:=by unfold Rep at h;exact h
def Rep.fz_inv{K:W.Frag}{G:QqE}{Z:QqA}{H:Hp}{v:V}{ds:List D}(h:Rep K G Z H (.fz ds) v):∃a xs,v=.ref a/\SqL K H a xs/\Reps K G Z H ds xs:=by
 unfold Rep at h;obtain⟨a,xs,e,q,r⟩:=h;refine⟨a,xs,e,?_,r⟩
 rcases q with ⟨_,o,q⟩ |q
 ·exact .inl (.inr ⟨o,q⟩)
 ·rcases q with (q | ⟨o, q⟩) | q
  ·cases q
  ·cases q
  ·exact .inr q
def Rep.tup_mk{K:W.Frag}{G:QqE}{Z:QqA}{H:Hp}{a:Addr}{xs:List V}{ds:List D}(q:SqZ K Z H false a xs)(r:Reps K G Z H ds xs):Rep K G Z H (.tup ds) (.ref a):=by unfold Rep;exact⟨a,xs,rfl,q,r⟩
def Rep.lst_mk{K:W.Frag}{G:QqE}{Z:QqA}{H:Hp}{a:Addr}{xs:List V}{ds:List D}(q:SqZ K Z H true a xs)(r:Reps K G Z H ds xs):Rep K G Z H (.lst ds) (.ref a):=by unfold Rep;exact⟨a,xs,rfl,q,r⟩
def zF2(G:QqE)(n:Nat)(H:Hp):Prop:=∀a,G=some a->∃(J:List Int) (_ _:Nat),H a=some (.lst (J.map V.int))/\J.length=n/\(∀x∈J,0<=x)/\∀x,J[1]?=some x->x<2147483647
structure AC where
 K:W.Frag
 G:Option Addr
 Z0:Addr->Prop
 H0:Hp
abbrev Rho:=List (Option D)
def Zof(A:AC)(os:List (Nat × Addr)):Addr->Prop:=λa=>A.Z0 a\/∃p∈os,p.2=a
def kP(k:QqP):List Key:=[.inl k.1,.inl k.2]
def qk(ks:List (Int × Int))(xs:List V):List (List Key × V):=List.zipWith (λk x=>(kP k,x)) ks xs
def SlotR(A:AC)(os:List (Nat × Addr))(H:Hp)(i:Nat):D->V->Prop
 |.own ds,v=>∃a xs,v=.ref a/\(i,a)∈os/\H a=some (.lst xs)/\Reps A.K A.G (Zof A os) H ds xs
 |.owT ks ds,v=>∃a xs,v=.ref a/\(i,a)∈os/\H a=some (.dT (qk ks xs))/\ks.length=xs.length/\Reps A.K A.G (Zof A os) H ds xs
 |d,v=>Rep A.K A.G (Zof A os) H d v
def ko:List Str:=["_law_grown","_law_drawn"]
def qa(K:W.Frag)(P:Addr)(q:Str):Prop:=∃x∈ko,∃c,W.tabIn K x=some (c,P)/\q=(x ++ ".<locals>.") ++ "<lambda>"
def Hot(o:Option HO):Prop:=∃u,o=some u/\∀ys,u≠.tup ys
def Hot.ne(h:Hot o):o≠none:=by obtain⟨u,e,_⟩:=h;rw[e];simp
def Hot.lst:Hot (some (.lst xs)):=⟨_,rfl,λ_ z=>by cases z⟩
def Hot.dT:Hot (some (.dT xs)):=⟨_,rfl,λ_ z=>by cases z⟩
def Hot.of(h:Hot o)(f:∀u,o=some u->o'=some u):Hot o':=let ⟨u,e,t⟩:=h;⟨u,f u e,t⟩
def ZOk(K:W.Frag)(G:QqE)(Z:QqA)(H:Hp):Prop:=(∀a,Z a->Hot (H a))/\∀P q,qa K P q->H P=some (.cot q)/\G≠some P
structure AmO(A:AC)(os:List (Nat × Addr))(n:Nat)(rho:Rho)(sg:St)(H:Hp)(ds:List D)(vs:List V):Prop where
 len:rho.length=sg.length
 slot:∀i d,rho[i]?=some (some d)->∃v,sg[i]?=some (some v)/\SlotR A os H i d v
 pend:Reps A.K A.G (Zof A os) H ds vs
 nd:os.Pairwise λp q=>p.1≠q.1/\p.2≠q.2
 fresh:∀p∈os,A.H0 p.2=none/\¬ A.Z0 p.2/\Hot (H p.2)
 st:zF2 A.G n H
 gz:∀a,A.G=some a->A.Z0 a
 fr:∀a o,A.G≠some a->A.H0 a=some o->H a=some o
 z0:ZOk A.K A.G A.Z0 A.H0
def Am(A:AC)(n:Nat)(rho:Rho)(sg:St)(H:Hp)(ds:List D)(vs:List V):Prop:=∃os,AmO A os n rho sg H ds vs
section
variable {A:AC}{os:List (Nat × Addr)}{n:Nat}{rho:Rho}{sg:St}{H:Hp}{ds:List D}{vs:List V}{d:D}{v:V}
def AmO.zHot(I:AmO A os n rho sg H ds vs):∀a,Zof A os a->Hot (H a):=λa h=>by
 rcases h with h |⟨p,J,rfl⟩
 ·by_cases e : A.G = some a
  ·obtain⟨x,y,z,q,_⟩:=I.st a e;rw[q];exact Hot.lst
  ·exact(I.z0.1 a h).of λo q=>I.fr a o e q
 ·exact(I.fresh p J).2.2
def AmO.zH(I:AmO A os n rho sg H ds vs):∀a,Zof A os a->H a≠none:=λa h=>(I.zHot a h).ne
def AmO.zO(I:AmO A os n rho sg H ds vs):ZOk A.K A.G (Zof A os) H:=⟨I.zHot,λP q t=>⟨I.fr P _ (I.z0.2 P q t).2 (I.z0.2 P q t).1,(I.z0.2 P q t).2⟩⟩
def SlotR.mono{i:Nat}(hz:∀a,H a≠none->Zof A os' a->Zof A os a)(J:∀a o,¬ Zof A os a->H a=some o->H' a=some o)
  (ho:∀a xs,(i,a)∈os->H a=some xs->(i,a)∈os'/\H' a=some xs):∀(d:D) (v:V),SlotR A os H i d v->SlotR A os' H' i d v
 |.own ds,v,h=>by
  obtain⟨a,xs,e,m,q,r⟩:=h;obtain⟨m',q'⟩:=ho a _ m q;exact⟨a,xs,e,m',q',Reps.mono hz J ds xs r⟩
 |.owT ks ds,v,h=>by
  obtain⟨a,xs,e,m,q,l,r⟩:=h;obtain⟨m',q'⟩:=ho a _ m q;exact⟨a,xs,e,m',q',l,Reps.mono hz J ds xs r⟩
 |.non,v,h=>Rep.mono hz J _ _ h
 |.bl _,v,h=>Rep.mono hz J _ _ h
 |.int _,v,h=>Rep.mono hz J _ _ h
 |.str _,v,h=>Rep.mono hz J _ _ h
 |.ty _,v,h=>Rep.mono hz J _ _ h
 |.tup _,v,h=>Rep.mono hz J _ _ h
 |.lst _,v,h=>Rep.mono hz J _ _ h
 |.st,v,h=>Rep.mono hz J _ _ h
 |.fz _,v,h=>Rep.mono hz J _ _ h
 |.dic,v,h=>Rep.mono hz J _ _ h
 |.prT _,v,h=>Rep.mono hz J _ _ h
 |.dct _ _,v,h=>Rep.mono hz J _ _ h
 |.dcL _ _,v,h=>Rep.mono hz J _ _ h
def xG:D->Bool
 |.own _=>false
 |.owT _ _=>false
 |_=>true
theorem SlotR.rep{i:Nat}:∀{d:D}{v:V},xG d=true->SlotR A os H i d v->Rep A.K A.G (Zof A os) H d v
 |.own _,_,h,_=>by simp[xG] at h
 |.owT _ _,_,h,_=>by simp[xG] at h
 |.non,_,_,h=>h
 |.bl _,_,_,h=>h
 |.int _,_,_,h=>h
 |.str _,_,_,h=>h
 |.ty _,_,_,h=>h
 |.tup _,_,_,h=>h
 |.lst _,_,_,h=>h
 |.st,_,_,h=>h
 |.fz _,_,_,h=>h
 |.dic,_,_,h=>h
 |.prT _,_,_,h=>h
 |.dct _ _,_,_,h=>h
 |.dcL _ _,_,_,h=>h
theorem SlotR.of{i:Nat}:∀{d:D}{v:V},Rep A.K A.G (Zof A os) H d v->SlotR A os H i d v
 |.own _,_,h=>by unfold Rep at h;exact h.elim
 |.owT _ _,_,h=>by unfold Rep at h;exact h.elim
 |.non,_,h=>h
 |.bl _,_,h=>h
 |.int _,_,h=>h
 |.str _,_,h=>h
 |.ty _,_,h=>h
 |.tup _,_,h=>h
 |.lst _,_,h=>h
 |.st,_,h=>h
 |.fz _,_,h=>h
 |.dic,_,h=>h
 |.prT _,_,h=>h
 |.dct _ _,_,h=>h
 |.dcL _ _,_,h=>h
def AmO.push(I:AmO A os n rho sg H ds vs)(h:Rep A.K A.G (Zof A os) H d v):AmO A os n rho sg H (d::ds) (v::vs):=
 ⟨I.len,I.slot,.cons h I.pend,I.nd,I.fresh,I.st,I.gz,I.fr,I.z0⟩
def AmO.pends(I:AmO A os n rho sg H ds vs)(h:Reps A.K A.G (Zof A os) H es ws):AmO A os n rho sg H es ws:=
 ⟨I.len,I.slot,h,I.nd,I.fresh,I.st,I.gz,I.fr,I.z0⟩
def AmO.pop(I:AmO A os n rho sg H (d::ds) (v::vs)):AmO A os n rho sg H ds vs/\Rep A.K A.G (Zof A os) H d v:=⟨I.pends I.pend.inv.2,I.pend.inv.1⟩
def AmO.grow(I:AmO A os n rho sg H ds vs)(O:H p=none):AmO A os n rho sg (upd H p o) ds vs:=by
 have J:∀a u,H a=some u->upd H p o a=some u:=λa u e=>by rw[xX (yd e O)];exact e
 refine⟨I.len,λi d e=>?_,Reps.mono (λ_ _ z=>z) (λa u _ e=>J a u e) _ _ I.pend,I.nd,λq L=>?_,λa e=>?_,I.gz,λa u h e=>J a u (I.fr a u h e),I.z0⟩
 ·obtain⟨v,e1,e2⟩:=I.slot i d e;exact⟨v,e1,SlotR.mono (λ_ _ z=>z) (λa u _ e=>J a u e) (λa xs m q=>⟨m,J a _ q⟩) _ _ e2⟩
 ·obtain⟨f1,f2,Y⟩:=I.fresh q L;exact⟨f1,f2,Y.of λu e=>J _ _ e⟩
 ·obtain⟨x,y,z,q,r⟩:=I.st a e;exact⟨x,y,z,J _ _ q,r⟩
def AmO.newTup{p:Addr}{es:List D}{xs:List V}(I:AmO A os n rho sg H ds vs)(r:Reps A.K A.G (Zof A os) H es xs)(J:H p=none):AmO A os n rho sg (upd H p (.tup xs)) (.tup es::ds) (.ref p::vs):=by
 have g:=I.grow (o:=.tup xs) J;refine g.push (.tup_mk (.inl ⟨λz=>I.zH p z J,.inl yb⟩) ?_)
 exact Reps.mono (λ_ _ z=>z) (λa u _ e=>by rw[xX (yd e J)];exact e) _ _ r
def AmO.newLst{p:Addr}{es:List D}{xs:List V}(I:AmO A os n rho sg H ds vs)(r:Reps A.K A.G (Zof A os) H es xs)(J:H p=none):AmO A os n rho sg (upd H p (.lst xs)) (.lst es::ds) (.ref p::vs):=by
 have g:=I.grow (o:=.lst xs) J;refine g.push (.lst_mk ⟨λz=>I.zH p z J,yb⟩ ?_)
 exact Reps.mono (λ_ _ z=>z) (λa u _ e=>by rw[xX (yd e J)];exact e) _ _ r
def AmO.set{i:Nat}(I:AmO A os n rho sg H (d::ds) (v::vs))(hi:i<rho.length):AmO A (os.filter λp=>decide (p.1≠i)) n (rho.set i (some d)) (sg.set i (some v)) H ds vs:=by
 obtain⟨J,Y⟩:=I.pop
 have sub:∀a,H a≠none->Zof A (os.filter λp=>decide (p.1≠i)) a->Zof A os a:=λa _ z=>by
  rcases z with z |⟨p,O,e⟩
  ·exact .inl z
  ·exact .inr ⟨p,(zy.mp O).1,e⟩
 refine⟨by simp[I.len],λj c e=>?_,Reps.mono sub (λ_ _ _ e=>e) _ _ J.pend,I.nd.filter _,λp O=>I.fresh p (zy.mp O).1,I.st,I.gz,I.fr,I.z0⟩
 by_cases L:j=i
 ·subst L;rw[zU hi] at e;cases e
  exact⟨v,zU (by rw[<- I.len];exact hi),SlotR.of (Rep.mono sub (λ_ _ _ e=>e) _ _ Y)⟩
 ·rw [xg (Ne.symm L)] at e;obtain⟨u,e1,e2⟩:=I.slot j c e
  exact⟨u,by rw[xg (Ne.symm L)];exact e1,SlotR.mono sub (λ_ _ _ e=>e) (λa xs m q=>⟨zy.mpr ⟨m,by simpa using L⟩,q⟩) _ _ e2⟩
end
abbrev TD:=Rho->Nat->(D->Nat->Prop)->Prop
abbrev TBD:=Rho->Nat->(Bool->Nat->Prop)->Prop
abbrev TAD:=Rho->Nat->(List D->Nat->Prop)->Prop
def tOf(A:AC)(t:TD):TE:=λsg H Q=>∃rho n P ds vs,Am A n rho sg H ds vs/\t rho n P/\∀v H' n' d,Am A n' rho sg H' (d::ds) (v::vs)->P d n'->Q v H'
def VF(A:AC)(t:TBD):TT:=λsg H Q=>∃rho n P ds vs,Am A n rho sg H ds vs/\t rho n P/\∀b H' n',Am A n' rho sg H' ds vs->P b n'->Q b H'
def xF5(A:AC)(t:TAD):TA:=λsg H Q=>∃rho n P ds vs,Am A n rho sg H ds vs/\t rho n P/\∀ws H' n' es,Am A n' rho sg H' (es++ds) (ws++vs)->ws.length=es.length->P es n'->Q ws H'
@[irreducible] def PD(A:AC)(X:Cx)(e:Expr)(t:TD):Prop:=PE X e (tOf A t)
@[irreducible] def PTD(A:AC)(X:Cx)(e:Expr)(t:TBD):Prop:=PT X e (VF A t)
@[irreducible] def PWD(A:AC)(X:Cx)(e:Expr)(t:TBD):Prop:=PW X e (VF A t)
@[irreducible] def PAD(A:AC)(X:Cx)(es:List Expr)(t:TAD):Prop:=PA X es (xF5 A t)
def PE.imp(h:PE X e t)(hi:∀sg H Q,t' sg H Q->t sg H Q):PE X e t':=λpins s sg H Q I q=>h pins s sg H Q I (hi _ _ _ q)
def PT.imp(h:PT X e t)(hi:∀sg H Q,t' sg H Q->t sg H Q):PT X e t':=λpins s sg H Q I q=>h pins s sg H Q I (hi _ _ _ q)
def PW.imp(h:PW X e t)(hi:∀sg H Q,t' sg H Q->t sg H Q):PW X e t':=λJ pins s sg H Q I q=>h J pins s sg H Q I (hi _ _ _ q)
def PA.imp(h:PA X e t)(hi:∀sg H Q,t' sg H Q->t sg H Q):PA X e t':=λps pins s sg H Q I q=>h ps pins s sg H Q I (hi _ _ _ q)
def PS.imp(h:PS X e t)(hi:∀E sg H,t' E sg H->t E sg H):PS X e t':=λpins s sg H Q I q=>h pins s sg H Q I (hi _ _ _ q)
def PSs.imp(h:PSs X e t)(hi:∀E sg H,t' E sg H->t E sg H):PSs X e t':=λpins s sg H Q I q=>h pins s sg H Q I (hi _ _ _ q)
section
variable {A:AC}{X:Cx}{a b c e:Expr}{es:List Expr}{ta tb tc:TD}{pos:Pos}
def atD(d:D)(k:D->Prop):Prop:=match d with
 |.own _=>False
 |.owT _ _=>False
 |.non=>k .non
 |.bl b=>k (.bl b)
 |.int b=>k (.int b)
 |.str b=>k (.str b)
 |.ty b=>k (.ty b)
 |.tup b=>k (.tup b)
 |.lst b=>k (.lst b)
 |.fz b=>k (.fz b)
 |.st=>k .st
 |.dic=>k .dic
 |.prT b=>k (.prT b)
 |.dct a b=>k (.dct a b)
 |.dcL a b=>k (.dcL a b)
def zD9(h:atD d k):xG d=true/\k d:=by
 cases d<;>first |exact⟨rfl,h⟩ |exact h.elim
def JL(h:xG d=true)(q:k d):atD d k:=by
 cases d<;>first |exact q |(simp[xG] at h;done)
def atV(o:Option (Option D))(k:D->Prop):Prop:=match o with |some (some d)=>atD d k |_=>False
def xd8(h:atV o k):∃d,o=some (some d)/\xG d=true/\k d:=by
 match o,h with
 |some (some d),h=>exact⟨d,rfl,zD9 h⟩
def zF0(i:Nat):TD:=λrho n P=>atV rho[i]? λd=>P d n
def dC(d:D):TD:=λ_ n P=>P d n
def zf(i:Nat)(hN:X.N[i]?=some x:=by rfl)(L:Vis X.env.scope x:=by first |exact Or.inl rfl |exact Or.inr (Or.inl rfl) |exact Or.inr (Or.inr rfl))(hd:(x == ("__debug__" : Str))=false:=by decide)
  (J:(x == ("__classdict__" : Str))=false:=by decide):PD A X (.Name x pos) (zF0 i):=by
 exists (qp hN L hd J).imp λsg H Q h=>by
   obtain⟨rho,n,P,ds,vs,⟨os,I⟩,O,Y⟩:=h;obtain⟨d,e,hd,q⟩:=xd8 O;obtain⟨v,e1,e2⟩:=I.slot i d e;exact⟨v,e1,Y v H n d ⟨os,I.push (e2.rep hd)⟩ q⟩
def zO4(hs:kM d=true)(ht:∀sg H Q,Q (ofS d) H->t sg H Q)(h:PE X e t):PD A X e (dC d):=by
 exists h.imp λsg H Q q=>by
   obtain⟨rho,n,P,ds,vs,⟨os,I⟩,q,J⟩:=q;exact ht _ _ _ (J _ H n d ⟨os,I.push (Rep.ofS hs)⟩ q)
def zq{i:Int}{j:Nat}:PD A X (.Constant (.int i) j pos) (dC (.int i)):=by exists zO4 rfl (λ_ _ _ q=>q) KA
def YY{i:Bool}{j:Nat}:PD A X (.Constant (.bool i) j pos) (dC (.bl i)):=by exists zO4 rfl (λ_ _ _ q=>q) xk0
def yV{j:Nat}:PD A X (.Constant .none j pos) (dC .non):=by exists zO4 rfl (λ_ _ _ q=>q) xj7
def qW{j:Nat}:PD A X (.Constant (.str x) j pos) (dC (.str x)):=by exists zO4 rfl (λ_ _ _ q=>q) xj4
abbrev RD2:=D->D->(D->Prop)->Prop
def kr(A:AC)(r:R2)(rd:RD2):Prop:=
 ∀os n rho sg H ds vs d1 d2 v1 v2 (k:D->Prop) (Q:VK),AmO A os n rho sg H (d2::d1::ds) (v2::v1::vs)->rd d1 d2 k->(∀v H' d,Am A n rho sg H' (d::ds) (v::vs)->k d->Q v H')->r v1 v2 H Q
def dOp(rd:RD2)(ta tb:TD):TD:=λrho n P=>ta rho n λd1 L=>tb rho L λd2 J=>rd d1 d2 λd=>P d J
def Jt(t:TD):TBD:=λrho n P=>t rho n λd n'=>∃b,d=.bl b/\P b n'
def Kf(hr:kr A r rd)(h:tOf A (dOp rd ta tb) sg H Q):tOp r (tOf A ta) (tOf A tb) sg H Q:=by
 obtain⟨rho,n,P,ds,vs,I,ht,hQ⟩:=h;exact⟨rho,n,_,ds,vs,I,ht,λv1 H1 Y d1 I1 h1=>⟨rho,Y,_,d1::ds,v1::vs,I1,h1,λv2 H2 O d2 ⟨L,I2⟩ h2=>hr _ _ _ _ _ _ _ _ _ _ _ _ Q I2 h2 λv H' d J k=>hQ v H' O d J k⟩⟩
def VT{t:TE}{td:TD}(h:∀sg H Q,tOf A td sg H Q->t sg H Q){sg:St}{H:Hp}{Q:Bool->Hp->Prop}(q:VF A (Jt td) sg H Q):xf0 t sg H Q:=by
 obtain⟨rho,n,P,ds,vs,I,ht,L⟩:=q;refine h _ _ _ ⟨rho,n,_,ds,vs,I,ht,λv H' n' d ⟨os,J⟩ k=>?_⟩;obtain⟨b,rfl,k⟩:=k;obtain⟨O,r⟩:=J.pop;exact⟨b,r.bl_inv,L b H' n' ⟨os,O⟩ k⟩
def qJ(ho:OpR X (binaryOp op) r)(J:kr A r rd)(ha:PD A X a ta)(L:PD A X b tb):PD A X (.BinOp a op b pos) (dOp rd ta tb):=by exists (xD1 ho ha L).imp λ_ _ _=>Kf J
def qY(ho:OpR X (compareOp op) r)(J:kr A r rd)(ha:PD A X a ta)(O:PD A X b tb)(L:behindInMarks op b=false):PD A X (.Compare a [op] [b] pos) (dOp rd ta tb):=by exists (zX6 ho ha O L).imp λ_ _ _=>Kf J
def xR(ho:OpR X (compareOp op) r)(J:kr A r rd)(ha:PD A X a ta)(O:PD A X b tb)(L:behindInMarks op b=false):PTD A X (.Compare a [op] [b] pos) (Jt (dOp rd ta tb)):=by
 exists 
   (zr5 ho ha O L).imp λ_ _ _=>VT λ_ _ _=>Kf J
def xU(hi:IxR X r)(J:kr A r rd)(ha:PD A X a ta)(L:PD A X b tb)(hs:UP b):PD A X (.Subscript a b pos) (dOp rd ta tb):=by exists (zX1 hi ha L hs).imp λ_ _ _=>Kf J
def kn(ha:PD A X a ta)(he:∀J,isTrue a X.env J=(do let v <- J;standAt a.pos;holding [v] (truthy v)):=by intro _;rfl):PTD A X a (Jt ta):=by exists (xi6 ha he).imp λ_ _ _=>VT λ_ _ _ q=>q
def rdI(C:Int->Int->Prop)(g:Int->Int->D):RD2:=λd1 d2 k=>match d1,d2 with |.int i,.int j=>C i j/\k (g i j) |_,_=>False
def zV4(h:rdI C g d1 d2 k):∃i j,d1=.int i/\d2=.int j/\C i j/\k (g i j):=by
 unfold rdI at h
 split at h
 ·exact⟨_,_,rfl,rfl,h⟩
 ·exact h.elim
def zH5(g:Int->Int->D):RD2:=λd1 d2 k=>match d1,d2 with |.int i,.int j=>k (g i j) |_,_=>False
def zH4(h:zH5 g d1 d2 k):∃i j,d1=.int i/\d2=.int j/\k (g i j):=by
 unfold zH5 at h
 split at h
 ·exact⟨_,_,rfl,rfl,h⟩
 ·exact h.elim
def zH2{C:Int->Int->Prop}{g:Int->Int->V}{gd:Int->Int->D}(hs:∀i j,kM (gd i j)=true)(hg:∀i j,ofS (gd i j)=g i j):kr A (rI C g) (rdI C gd):=by
 rintro os n rho sg H ds vs d1 d2 v1 v2 k Q I O hQ;obtain⟨i,j,rfl,rfl,Y,q⟩:=zV4 O;obtain⟨I1,J⟩:=I.pop;obtain⟨I2,L⟩:=I1.pop
 exact⟨i,j,L.int_inv,J.int_inv,Y,hQ _ H _ ⟨os,I2.push (by rw[<- hg];exact Rep.ofS (hs i j))⟩ q⟩
def Kv{g:Int->Int->V}{gd:Int->Int->D}(hs:∀i j,kM (gd i j)=true)(hg:∀i j,ofS (gd i j)=g i j):kr A (rI0 g) (zH5 gd):=by
 rintro os n rho sg H ds vs d1 d2 v1 v2 k Q I O Y;obtain⟨i,j,rfl,rfl,q⟩:=zH4 O;obtain⟨I1,J⟩:=I.pop;obtain⟨I2,L⟩:=I1.pop
 exact⟨i,j,L.int_inv,J.int_inv,Y _ H _ ⟨os,I2.push (by rw[<- hg];exact Rep.ofS (hs i j))⟩ q⟩
abbrev xS9:TD->TD->TD:=dOp (zH5 λi j=>.int (i+j))
abbrev xS4:TD->TD->TD:=dOp (zH5 λi j=>.int (i-j))
abbrev xS6:TD->TD->TD:=dOp (rdI CMul λi j=>.int (i*j))
abbrev xS7:TD->TD->TD:=dOp (rdI (λ_ j=>0<j) λi j=>.int (i%j))
abbrev xS8:TD->TD->TD:=dOp (rdI xM1 λi j=>.int (i/j))
abbrev xS5:TD->TD->TD:=dOp (rdI xM0 λi j=>.int (i^j.toNat))
def vX(ha:PD A X a ta)(J:PD A X b tb):PD A X (.BinOp a .Add b pos) (xS9 ta tb):=by exists qJ xl3 (Kv (λ_ _=>rfl) λ_ _=>rfl) ha J
def jr(ha:PD A X a ta)(J:PD A X b tb):PD A X (.BinOp a .Sub b pos) (xS4 ta tb):=by exists qJ xk8 (Kv (λ_ _=>rfl) λ_ _=>rfl) ha J
def jY(ha:PD A X a ta)(J:PD A X b tb):PD A X (.BinOp a .Mult b pos) (xS6 ta tb):=by exists qJ xl0 (zH2 (λ_ _=>rfl) λ_ _=>rfl) ha J
def qX(ha:PD A X a ta)(J:PD A X b tb):PD A X (.BinOp a .Mod b pos) (xS7 ta tb):=by exists qJ xl1 (zH2 (λ_ _=>rfl) λ_ _=>rfl) ha J
def Vh(ha:PD A X a ta)(J:PD A X b tb):PD A X (.BinOp a .FloorDiv b pos) (xS8 ta tb):=by exists qJ zY1 (zH2 (λ_ _=>rfl) λ_ _=>rfl) ha J
def KD(ha:PD A X a ta)(J:PD A X b tb):PD A X (.BinOp a .Pow b pos) (xS5 ta tb):=by exists qJ xk9 (zH2 (λ_ _=>rfl) λ_ _=>rfl) ha J
abbrev xN8:RD2:=zH5 λi j=>.bl (decide (i<j))
abbrev xO0:RD2:=zH5 λi j=>.bl (decide (j<i))
abbrev xO1:RD2:=zH5 λi j=>.bl (decide (j<=i))
def zH3:kr A (rI0 λi j=>.bl (decide (i<j))) xN8:=Kv (g:=λi j=>.bl (decide (i<j))) (λ_ _=>rfl) λ_ _=>rfl
def YX:kr A (rI0 λi j=>.bl (decide (j<i))) xO0:=Kv (g:=λi j=>.bl (decide (j<i))) (λ_ _=>rfl) λ_ _=>rfl
def xw3:kr A (rI0 λi j=>.bl (decide (j<=i))) xO1:=Kv (g:=λi j=>.bl (decide (j<=i))) (λ_ _=>rfl) λ_ _=>rfl
def zV5:RD2:=λd1 d2 k=>kM d1=true/\kM d2=true/\xF8 (ofS d1) (ofS d2)=true/\k (.bl (decide (ofS d1=ofS d2)))
def WH:kr A rEq zV5:=by
 rintro os n rho sg H ds vs d1 d2 v1 v2 k Q I ⟨h1,h2,Y,q⟩ O;obtain⟨I1,J⟩:=I.pop;obtain⟨I2,L⟩:=I1.pop;rw[L.toS h1,J.toS h2];exact⟨Y,O _ H _ ⟨os,I2.push (Rep.ofS rfl)⟩ q⟩
def kE:D->Bool
 |.non=>true
 |_=>false
theorem Rep.non_iff{K:W.Frag}{G:QqE}{Z:QqA}{H:Hp}{v:V}:∀{d:D},Rep K G Z H d v->decide (v=.non)=kE d
 |.non,h=>by unfold Rep at h;rw[h];rfl
 |.bl b,h=>by unfold Rep at h;rw[h];rfl
 |.int b,h=>by unfold Rep at h;rw[h];rfl
 |.str b,h=>by unfold Rep at h;rw[h];rfl
 |.ty b,h=>by unfold Rep at h;rw[h];rfl
 |.st,h=>by unfold Rep at h;obtain⟨a,_,h⟩:=h;rw[h];rfl
 |.tup ds,h=>by obtain⟨a,xs,h,_⟩:=h.tup_inv;rw[h];rfl
 |.lst ds,h=>by obtain⟨a,xs,h,_⟩:=h.lst_inv;rw[h];rfl
 |.own ds,h=>by unfold Rep at h;exact h.elim
 |.owT _ _,h=>by unfold Rep at h;exact h.elim
 |.fz ds,h=>by obtain⟨a,xs,h,_⟩:=h.fz_inv;rw[h];rfl
 |.dic,h=>by unfold Rep at h;obtain⟨a,kvs,h,_⟩:=h;rw[h];rfl
 |.prT _,h=>by unfold Rep at h;obtain⟨a,h,_⟩:=h;rw[h];rfl
 |.dct _ _,h=>by unfold Rep at h;obtain⟨a,xs,h,_⟩:=h;rw[h];rfl
 |.dcL _ _,h=>by unfold Rep at h;obtain⟨a,bs,xs,h,_⟩:=h;rw[h];rfl
def xh1:RD2:=λd1 d2 k=>d2=.non/\k (.bl (kE d1))
def zq9:RD2:=λd1 d2 k=>d2=.non/\k (.bl (!kE d1))
def kw:kr A (λx y H Q=>y=.non/\Q (.bl (decide (x=.non))) H) xh1:=by
 rintro os n rho sg H ds vs d1 d2 v1 v2 k Q I ⟨rfl,q⟩ O;obtain⟨I1,J⟩:=I.pop;obtain⟨Y,L⟩:=I1.pop;have e:v2=.non:=J.toS rfl
 exact⟨e,by rw[L.non_iff];exact O _ H _ ⟨os,Y.push (Rep.ofS (d:=.bl (kE d1)) rfl)⟩ q⟩
def jn:kr A (λx y H Q=>y=.non/\Q (.bl (!decide (x=.non))) H) zq9:=by
 rintro os n rho sg H ds vs d1 d2 v1 v2 k Q I ⟨rfl,q⟩ O;obtain⟨I1,J⟩:=I.pop;obtain⟨Y,L⟩:=I1.pop;have e:v2=.non:=J.toS rfl
 exact⟨e,by rw[L.non_iff];exact O _ H _ ⟨os,Y.push (Rep.ofS (d:=.bl (!kE d1)) rfl)⟩ q⟩
def Zt:RD2:=λd1 d2 k=>∃es i d,(d1=.lst es\/d1=.tup es\/d1=.fz es)/\d2=.int i/\atI es i=some d/\k d
def UO{K:W.Frag}{G:QqE}{Z:QqA}{H:Hp}{es:List D}{xs:List V}{i:Int}{d:D}(h:Reps K G Z H es xs)(e:atI es i=some d):∃v,atI xs i=some v/\Rep K G Z H d v:=by
 unfold atI at e ⊢;rw[h.length]
 cases q:ixN es.length i with
 |none=>rw[q] at e;cases e
 |some j=>
  rw[q] at e;exact h.get (i:=j) e
def xT:kr A (rIx A.K) Zt:=by
 rintro os n rho sg H ds vs d1 d2 v1 v2 k Q I ⟨es,i,d,h1,rfl,h2,q⟩ Y;obtain⟨I1,L⟩:=I.pop;obtain⟨I2,O⟩:=I1.pop
 rcases h1 with rfl |rfl |rfl
 ·obtain⟨a,xs,e,sq,rs⟩:=O.lst_inv;obtain⟨v,J,rv⟩:=UO rs h2;exact .inl ⟨a,xs,i,v,e,L.int_inv,sq.sq,J,Y v H d ⟨os,I2.push rv⟩ q⟩
 ·obtain⟨a,xs,e,sq,rs⟩:=O.tup_inv;obtain⟨v,J,rv⟩:=UO rs h2;exact .inr (.inl ⟨a,xs,i,v,e,L.int_inv,sq.sq,J,Y v H d ⟨os,I2.push rv⟩ q⟩)
 ·obtain⟨a,xs,e,sq,rs⟩:=O.fz_inv;obtain⟨v,J,rv⟩:=UO rs h2;exact .inl ⟨a,xs,i,v,e,L.int_inv,sq,J,Y v H d ⟨os,I2.push rv⟩ q⟩
def xh5:RD2:=λd1 d2 k=>∃es fs,d1=.lst es/\d2=.lst fs/\es.length+fs.length<=sizeLine/\k (.lst (es++fs))
def Kx:kr A xH0 xh5:=by
 rintro os n rho sg H ds vs d1 d2 v1 v2 k Q I ⟨es,fs,rfl,rfl,hz,q⟩ Y;obtain⟨I1,J⟩:=I.pop;obtain⟨I2,L⟩:=I1.pop;obtain⟨a,xs,e,sq,rs⟩:=L.lst_inv;obtain⟨b,ys,e',sq',rs'⟩:=J.lst_inv
 exact⟨a,b,xs,ys,e,e',sq.2,sq'.2,by rw[rs.length,rs'.length];exact hz,λp O=>Y _ _ _ ⟨os,I2.newLst (rs.append rs') O⟩ q⟩
def zq8:RD2:=λd1 d2 k=>∃es i,d1=.tup es/\d2=.int i/\es≠[]/\1<=i/\es.length*i.toNat<=sizeLine/\k (.tup (replicate i.toNat es).flatten)
def zV1:kr A (xh6 A.K) zq8:=by
 rintro os n rho sg H ds vs d1 d2 v1 v2 k Q I ⟨es,i,rfl,rfl,J,h1,hz,q⟩ Y;obtain⟨I1,r2⟩:=I.pop;obtain⟨I2,O⟩:=I1.pop;have r1':=O;obtain⟨a,xs,e,sq,rs⟩:=O.tup_inv;have L:=rs.length
 refine⟨a,i,xs,e,r2.int_inv,sq.sq,λz=>J ?_,h1,by rw[L];exact hz,λhi=>?_,λhi p hp=>?_⟩
 ·rw[z] at L;exact xb.mp L.symm
 ·subst hi
  have e1:(replicate (1:Int).toNat es).flatten=es:=by simp
  rw[e1] at q;rw[e] at r1';exact Y _ H _ ⟨os,I2.push r1'⟩ q
 ·exact Y _ _ _ ⟨os,I2.newTup (rs.flatRep i.toNat) hp⟩ q
def zs7(ha:PD A X a ta):PD A X (.UnaryOp .USub a pos) (λrho n P=>ta rho n λd n'=>∃i,d=.int i/\P (.int (-i)) n'):=by
 exists (xD0 xe8 ha).imp λsg H Q h=>by
   obtain⟨rho,n,P,ds,vs,I,ht,L⟩:=h;refine⟨rho,n,_,ds,vs,I,ht,λv H' n' d ⟨os,J⟩ k=>?_⟩;obtain⟨i,rfl,k⟩:=k;obtain⟨O,r⟩:=J.pop;exact⟨i,r.int_inv,L _ H' n' _ ⟨os,O.push (Rep.ofS (d:=.int (-i)) rfl)⟩ k⟩
variable {t u:TBD}{rest:List Expr}
def xF1(t u:TBD):TBD:=λrho n P=>t rho n λc J=>if c=true then u rho J P else P false J
def bOr(t u:TBD):TBD:=λrho n P=>t rho n λc J=>if c=true then P true J else u rho J P
def xF0(t:TBD):TBD:=λrho n P=>t rho n λc J=>P (!c) J
def qH(ha:PTD A X a t):PWD A X (.BoolOp .And [a] pos) t:=by exists zW0 ha
def Qr(ha:PTD A X a t):PWD A X (.BoolOp .Or [a] pos) t:=by exists xi3 ha
def qI(ha:PTD A X a t)(O:PWD A X (.BoolOp .And (b::rest) pos) u):PWD A X (.BoolOp .And (a::b::rest) pos) (xF1 t u):=by
 exists (xi4 ha O).imp λsg H Q h=>by
   obtain⟨rho,n,P,ds,vs,I,ht,L⟩:=h;refine⟨rho,n,_,ds,vs,I,ht,λc H' n' J k=>?_⟩
   cases c with
   |true=>exact⟨rho,n',P,ds,vs,J,k,L⟩
   |false=>exact L _ _ _ J k
def zr2(ha:PTD A X a t)(O:PWD A X (.BoolOp .Or (b::rest) pos) u):PWD A X (.BoolOp .Or (a::b::rest) pos) (bOr t u):=by
 exists (xC7 ha O).imp λsg H Q h=>by
   obtain⟨rho,n,P,ds,vs,I,ht,L⟩:=h;refine⟨rho,n,_,ds,vs,I,ht,λc H' n' J k=>?_⟩
   cases c with
   |false=>exact⟨rho,n',P,ds,vs,J,k,L⟩
   |true=>exact L _ _ _ J k
def PWD.pt(h:PWD A X e t):PTD A X e t:=by exists PW.pt h
def Ui(ha:PTD A X a t):PTD A X (.UnaryOp .Not a pos) (xF0 t):=by
 exists (xi7 ha).imp λsg H Q h=>by
   obtain⟨rho,n,P,ds,vs,I,ht,L⟩:=h;exact⟨rho,n,_,ds,vs,I,ht,λc H' n' J k=>L _ _ _ J k⟩
def xL5(ta tb:TD):TD:=λrho n P=>ta rho n λd J=>∃c,d=.bl c/\if c=true then tb rho J P else P (.bl false) J
def xL3(ta:TD):TD:=λrho n P=>ta rho n λd J=>∃c,d=.bl c/\P (.bl (!c)) J
def zd4(h:PD A X a ta):PD A X (.BoolOp op [a] pos) ta:=by exists xj5 h
def KG(ha:PD A X a ta)(Y:PD A X (.BoolOp .And (b::rest) pos) tb):PD A X (.BoolOp .And (a::b::rest) pos) (xL5 ta tb):=by
 exists (xk1 ha Y).imp λsg H Q h=>by
   obtain⟨rho,n,P,ds,vs,I,ht,L⟩:=h;refine⟨rho,n,_,ds,vs,I,ht,λv H' n' d ⟨os,J⟩ k=>?_⟩;obtain⟨c,rfl,k⟩:=k;obtain⟨O,r⟩:=J.pop;refine⟨c,r.bl_inv,?_⟩
   cases c with
   |true=>exact⟨rho,n',P,ds,vs,⟨os,O⟩,k,L⟩
   |false=>exact L _ _ _ _ ⟨os,O.push (Rep.ofS (d:=.bl false) rfl)⟩ k
def zR2(ha:PD A X a ta):PD A X (.UnaryOp .Not a pos) (xL3 ta):=by
 exists (xj6 ha).imp λsg H Q h=>by
   obtain⟨rho,n,P,ds,vs,I,ht,L⟩:=h;refine⟨rho,n,_,ds,vs,I,ht,λv H' n' d ⟨os,J⟩ k=>?_⟩;obtain⟨c,rfl,k⟩:=k;obtain⟨O,r⟩:=J.pop;exact⟨c,r.bl_inv,L _ _ _ _ ⟨os,O.push (Rep.ofS (d:=.bl (!c)) rfl)⟩ k⟩
def dIf(t:TBD)(ta tb:TD):TD:=λrho n P=>t rho n λc J=>if c=true then ta rho J P else tb rho J P
def Um(O:PTD A X c t)(ha:PD A X a ta)(Y:PD A X b tb):PD A X (.IfExp c a b pos) (dIf t ta tb):=by
 exists (zJ0 O ha Y).imp λsg H Q h=>by
   obtain⟨rho,n,P,ds,vs,I,ht,L⟩:=h;refine⟨rho,n,_,ds,vs,I,ht,λc H' n' J k=>?_⟩
   cases c with
   |true=>exact⟨rho,n',P,ds,vs,J,k,L⟩
   |false=>exact⟨rho,n',P,ds,vs,J,k,L⟩
variable {t1:TAD}
def xq8:TAD:=λ_ n P=>P [] n
def za4(t:TD)(r:TAD):TAD:=λrho n P=>t rho n λd L=>r rho L λds J=>P (d::ds) J
def zi:PAD A X [] xq8:=by
 exists jZ.imp λsg H Q h=>by
   obtain⟨rho,n,P,ds,vs,I,ht,J⟩:=h;exact J [] H n [] I rfl ht
def zH1{K:W.Frag}{G:QqE}{Z:QqA}{H:Hp}{es ds:List D}{ws vs:List V}{d:D}{v:V}(h:Reps K G Z H (es++d::ds) (ws++v::vs))(J:ws.length=es.length):Reps K G Z H (d::es++ds) (v::ws++vs):=by
 have h1:=h.take es.length;have L:=h.drop es.length;rw[take_left' rfl,take_left' J] at h1;rw[wR rfl,wR J] at L;obtain⟨r,t⟩:=L.inv;exact .cons r (h1.append t)
def vG:Expr->Bool
 |.Starred ..=>true
 |_=>false
def sE(h:vG e=false):starEach (e::es) env=(false,eval e env)::starEach es env:=by
 cases e<;>first |(simp[starEach];done) |(simp[vG] at h;done)
def zc(ha:PD A X a ta)(hr:PAD A X es t1)(hs:vG a=false:=by rfl):PAD A X (a::es) (za4 ta t1):=by
 exists (qh ha hr (sE hs)).imp λsg H Q h=>by
   obtain⟨rho,n,P,ds,vs,I,ht,hQ⟩:=h;refine⟨rho,n,_,ds,vs,I,ht,λv H' n' d J k=>⟨rho,n',_,d::ds,v::vs,J,k,λws H2 Y es' ⟨os,O⟩ L k2=>?_⟩⟩
   exact hQ (v::ws) H2 Y (d::es') ⟨os,O.pends (zH1 O.pend L)⟩ (by rw[zJ,zJ,L]) k2
def Xj{K:W.Frag}{G:QqE}{Z:QqA}{H:Hp}{es ds:List D}{ws vs:List V}(h:Reps K G Z H (es++ds) (ws++vs))(J:ws.length=es.length):Reps K G Z H es ws/\Reps K G Z H ds vs:=by
 have h1:=h.take es.length;have L:=h.drop es.length;rw[take_left' rfl,take_left' J] at h1;rw[wR rfl,wR J] at L;exact⟨h1,L⟩
def xL0(t:TAD):TD:=λrho n P=>t rho n λds J=>ds.length<=sizeLine/\P (.tup ds) J
def xE8(t:TAD):TD:=λrho n P=>t rho n λds J=>ds.length<=sizeLine/\P (.lst ds) J
def wf{O}(h:PAD A X es t1):PD A X (.Tuple es O pos) (xL0 t1):=by
 exists (zR1 h).imp λsg H Q h=>by
   obtain⟨rho,n,P,ds,vs,I,ht,hQ⟩:=h
   refine⟨rho,n,_,ds,vs,I,ht,λws H' n' es' ⟨os,J⟩ L k=>⟨by rw[L];exact k.1,λp hp=>?_⟩⟩
   obtain⟨q1,Y⟩:=Xj J.pend L;exact hQ _ _ n' _ ⟨os,(J.pends Y).newTup q1 hp⟩ k.2
def vg(h:PAD A X es t1):PD A X (.List es pos) (xE8 t1):=by
 exists (Kz h).imp λsg H Q h=>by
   obtain⟨rho,n,P,ds,vs,I,ht,hQ⟩:=h
   refine⟨rho,n,_,ds,vs,I,ht,λws H' n' es' ⟨os,J⟩ L k=>⟨by rw[L];exact k.1,λp Y=>?_⟩⟩
   obtain⟨q1,O⟩:=Xj J.pend L;exact hQ _ _ n' _ ⟨os,(J.pends O).newLst q1 Y⟩ k.2
def ve(A:AC)(r:List V->Hp->VK->Prop)(rd:List D->(D->Prop)->Prop):Prop:=
 ∀os n rho sg H ds vs es ws (k:D->Prop) (Q:VK),AmO A os n rho sg H ds vs->Reps A.K A.G (Zof A os) H es ws->rd es k->(∀v H' d,Am A n rho sg H' (d::ds) (v::vs)->k d->Q v H')->r ws H Q
def zO3(rd:List D->(D->Prop)->Prop)(t:TAD):TD:=λrho n P=>t rho n λes J=>rd es λd=>P d J
def zQ1(Y:ve A r rd)(h:tOf A (zO3 rd t1) sg H Q):tCB r (xF5 A t1) sg H Q:=by
 obtain⟨rho,n,P,ds,vs,I,ht,hQ⟩:=h;refine⟨rho,n,_,ds,vs,I,ht,λws H' n' es' ⟨os,J⟩ hl k=>?_⟩;obtain⟨q1,L⟩:=Xj J.pend hl;exact Y _ _ _ _ _ _ _ _ _ _ Q (J.pends L) q1 k λv H2 d J2 O=>hQ v H2 n' d J2 O
def xZ{x:Str}{p:Pos}{id:String}{r:List V->Hp->VK->Prop}{rd:List D->(D->Prop)->Prop}(hc:kG X (.builtin id) r)(Y:ve A r rd)(hm:X.mg x=none)(O:bootBuiltins x=some (.builtin id))(ha:PAD A X (e::es) t1)(hg:Gl X x:=by rfl)(hn:x ≠ "__name__" := by decide)(L:(x == ("__debug__" : Str))=false:=by decide)
  (he:starEach (e::es) X.env=(false,eval e X.env)::starEach es X.env:=by rfl) (J:(backTo pos (starEach es X.env)).any (·.1)=false:=by rfl):PD A X (.Call (.Name x p) (e::es) [] pos) (zO3 rd t1):=by
 exists 
   (Uk hc hg hm O ha hn L he J).imp λ_ _ _=>zQ1 Y
def yq(hc:kG X (.type T) r)(Y:ve A r rd)(hm:X.mg x=none)(O:bootBuiltins x=some (.type T))(ha:PAD A X (e::es) t1)(hg:Gl X x:=by rfl)(hn:x ≠ "__name__" := by decide)(L:(x == ("__debug__" : Str))=false:=by decide)
  (he:starEach (e::es) X.env=(false,eval e X.env)::starEach es X.env:=by rfl) (J:(backTo pos (starEach es X.env)).any (·.1)=false:=by rfl):PD A X (.Call (.Name x p) (e::es) [] pos) (zO3 rd t1):=by
 exists 
   (KC hc hg hm O ha hn L he J).imp λ_ _ _=>zQ1 Y
def kO{K:W.Frag}{G:QqE}{Z:QqA}{H:Hp}{d:D}{ws:List V}(h:Reps K G Z H [d] ws):∃v,ws=[v]/\Rep K G Z H d v:=by
 obtain⟨v,r,rfl,q,t⟩:=h.split;rw[t.nil_inv];exact⟨v,rfl,q⟩
def Ku{K:W.Frag}{G:QqE}{Z:QqA}{H:Hp}{d d':D}{ws:List V}(h:Reps K G Z H [d,d'] ws):∃v v',ws=[v,v']/\Rep K G Z H d v/\Rep K G Z H d' v':=by
 obtain⟨v,r,rfl,q,t⟩:=h.split;obtain⟨v',rfl,q'⟩:=kO t;exact⟨v,v',rfl,q,q'⟩
def zM7:List D->(D->Prop)->Prop:=λes k=>∃fs,(es=[.lst fs]\/es=[.tup fs]\/es=[.fz fs])/\k (.int fs.length)
def xK9:List D->(D->Prop)->Prop:=λes k=>∃i,es=[.int i]/\k (.int (if i<0 then -i else i))
def xn9:List D->(D->Prop)->Prop:=λes k=>∃c,es=[.bl c]/\k (.int (if c then 1 else 0))
def xR8:List D->(D->Prop)->Prop:=λes k=>∃bs:List Bool,es=[.lst (bs.map D.bl)]/\k (.bl (bs.any id))
def ze6:List D->(D->Prop)->Prop:=λes k=>∃fs,(es=[.lst fs]\/es=[.tup fs])/\k (.tup fs)
def xb1:List D->(D->Prop)->Prop:=λes k=>∃fs,(es=[.lst fs]\/es=[.tup fs])/\k (.lst fs)
def kC:ve A (λxs H Q=>∃p ys,xs=[.ref p]/\(SqL A.K H p ys\/SqT A.K H p ys)/\Q (.int ys.length) H) zM7:=by
 rintro os n rho sg H ds vs es ws k Q I rs ⟨fs,h,q⟩ L
 rcases h with rfl |rfl |rfl
 ·obtain ⟨v, rfl, r⟩ := kO rs;obtain⟨a,xs,rfl,sq,J⟩:=r.lst_inv
  exact⟨a,xs,rfl,.inl sq.sq,by rw[J.length];exact L _ H _ ⟨os,I.push (Rep.ofS rfl)⟩ q⟩
 ·obtain ⟨v, rfl, r⟩ := kO rs;obtain⟨a,xs,rfl,sq,J⟩:=r.tup_inv
  exact⟨a,xs,rfl,.inr sq.sq,by rw[J.length];exact L _ H _ ⟨os,I.push (Rep.ofS rfl)⟩ q⟩
 ·obtain ⟨v, rfl, r⟩ := kO rs;obtain⟨a,xs,rfl,sq,J⟩:=r.fz_inv
  exact⟨a,xs,rfl,.inl sq,by rw[J.length];exact L _ H _ ⟨os,I.push (Rep.ofS rfl)⟩ q⟩
def zT0:ve A (λxs H Q=>∃i,xs=[.int i]/\Q (.int (if i<0 then -i else i)) H) xK9:=by
 rintro os n rho sg H ds vs es ws k Q I rs ⟨i,rfl,q⟩ J;obtain⟨v,rfl,r⟩:=kO rs
 exact⟨i,by rw[r.int_inv],J _ H _ ⟨os,I.push (Rep.ofS rfl)⟩ q⟩
def QT:ve A (λxs H Q=>(∃i,xs=[.int i]/\Q (.int i) H)\/∃k,xs=[.bl k]/\Q (.int (if k then 1 else 0)) H) xn9:=by
 rintro os n rho sg H ds vs es ws k Q I rs ⟨i,rfl,q⟩ J;obtain⟨v,rfl,r⟩:=kO rs
 exact .inr ⟨i,by rw[r.bl_inv],J _ H _ ⟨os,I.push (Rep.ofS rfl)⟩ q⟩
theorem Vf{K:W.Frag}{G:QqE}{Z:QqA}{H:Hp}:∀{bs:List Bool}{ws:List V},Reps K G Z H (bs.map D.bl) ws->ws=bs.map V.bl
 |[],ws,h=>h.nil_inv
 |b::bs,ws,h=>by
  obtain⟨v,r,rfl,q,t⟩:=h.split;rw[q.bl_inv,Vf t];rfl
def zS9:ve A (λxs H Q=>∃(p:Addr) (bs:List Bool),xs=[.ref p]/\SqL A.K H p (bs.map V.bl)/\Q (.bl (bs.any id)) H) xR8:=by
 rintro os n rho sg H ds vs es ws k Q I rs ⟨bs,rfl,q⟩ L;obtain⟨v,rfl,r⟩:=kO rs;obtain⟨a,xs,rfl,sq,J⟩:=r.lst_inv;have e:=Vf J;subst e;exact⟨a,bs,rfl,sq.sq,L _ H _ ⟨os,I.push (Rep.ofS rfl)⟩ q⟩
def vn:ve A (λxs H Q=>∃p ys,xs=[.ref p]/\((SqL A.K H p ys/\∀l,H l=none->Q (.ref l) (upd H l (.tup ys)))\/(SqT A.K H p ys/\Q (.ref p) H))) ze6:=by
 rintro os n rho sg H ds vs es ws k Q I rs ⟨fs,h,q⟩ L
 rcases h with rfl |rfl
 ·obtain⟨v,rfl,r⟩:=kO rs;obtain⟨a,xs,rfl,sq,J⟩:=r.lst_inv;exact⟨a,xs,rfl,.inl ⟨sq.sq,λl O=>L _ _ _ ⟨os,I.newTup J O⟩ q⟩⟩
 ·obtain⟨v,rfl,r⟩:=kO rs;have r':=r;obtain⟨a,xs,rfl,sq,J⟩:=r.tup_inv;exact⟨a,xs,rfl,.inr ⟨sq.sq,L _ _ _ ⟨os,I.push r'⟩ q⟩⟩
def xd3:ve A (λxs H Q=>∃p ys,xs=[.ref p]/\(SqL A.K H p ys\/SqT A.K H p ys)/\∀l,H l=none->Q (.ref l) (upd H l (.lst ys))) xb1:=by
 rintro os n rho sg H ds vs es ws k Q I rs ⟨fs,h,q⟩ O
 rcases h with rfl |rfl
 ·obtain⟨v,rfl,r⟩:=kO rs;obtain⟨a,xs,rfl,sq,J⟩:=r.lst_inv;exact⟨a,xs,rfl,.inl sq.sq,λl L=>O _ _ _ ⟨os,I.newLst J L⟩ q⟩
 ·obtain⟨v,rfl,r⟩:=kO rs;obtain⟨a,xs,rfl,sq,J⟩:=r.tup_inv;exact⟨a,xs,rfl,.inr sq.sq,λl L=>O _ _ _ ⟨os,I.newLst J L⟩ q⟩
end
section
variable {A:AC}{os:List (Nat × Addr)}{n:Nat}{rho:Rho}{sg:St}{H:Hp}{ds es:List D}{vs ws:List V}{d:D}{v:V}
def AmO.split(I:AmO A os n rho sg H (es++ds) (ws++vs))(L:ws.length=es.length):AmO A os n rho sg H ds vs/\Reps A.K A.G (Zof A os) H es ws:=
 let ⟨q1,J⟩:=Xj I.pend L
 ⟨I.pends J,q1⟩
def AmO.join(I:AmO A os n rho sg H ds vs)(h:Reps A.K A.G (Zof A os) H es ws):AmO A os n rho sg H (es++ds) (ws++vs):=I.pends (h.append I.pend)
def AmO.under(I:AmO A os n rho sg H (d::(es++ds)) (v::(ws++vs)))(L:ws.length=es.length):AmO A os n rho sg H (d::ds) (v::vs):=by
 obtain⟨J,r⟩:=I.pop;exact(J.split L).1.push r
def AmO.front(m:Nat)(I:AmO A os n rho sg H ds vs):AmO A (os.map λp=>(p.1+m,p.2)) n (replicate m none++rho) (replicate m none++sg) H ds vs:=by
 have J:∀a,Zof A (os.map λp=>(p.1+m,p.2)) a->Zof A os a:=λa z=>by
  rcases z with z |⟨p,hp,e⟩
  ·exact .inl z
  ·obtain⟨q,hq,rfl⟩:=zk.mp hp;exact .inr ⟨q,hq,e⟩
 refine⟨by simp[I.len],λi c e=>?_,Reps.mono (λa _ z=>J a z) (λ_ _ _ e=>e) _ _ I.pend,?_,λp hp=>?_,I.st,I.gz,I.fr,I.z0⟩
 ·have hi : m <= i := by
   apply Nat.le_of_not_lt;intro L
   rw[wq (by simpa using L),xt,if_pos L] at e
   cases e
  rw[xN (by simpa using hi),wA] at e
  obtain⟨u,e1,e2⟩:=I.slot _ c e
  refine⟨u,by rw[xN (by simpa using hi),wA];exact e1,?_⟩
  have key:∀j,j+m=i->SlotR A os H j c u->SlotR A (os.map λp=>(p.1+m,p.2)) H i c u:=λj hj h=>by
   subst hj
   cases c with
   |own fs=>
    obtain⟨a,xs,q1,q2,Y,O⟩:=h;exact⟨a,xs,q1,zk.mpr ⟨_,q2,rfl⟩,Y,Reps.mono (λa _ z=>J a z) (λ_ _ _ e=>e) _ _ O⟩
   |owT ks fs=>
    obtain⟨a,xs,q1,q2,Y,ql,O⟩:=h;exact⟨a,xs,q1,zk.mpr ⟨_,q2,rfl⟩,Y,ql,Reps.mono (λa _ z=>J a z) (λ_ _ _ e=>e) _ _ O⟩
   |non=>exact Rep.mono (λa _ z=>J a z) (λ_ _ _ e=>e) _ _ h
   |bl _=>exact Rep.mono (λa _ z=>J a z) (λ_ _ _ e=>e) _ _ h
   |int _=>exact Rep.mono (λa _ z=>J a z) (λ_ _ _ e=>e) _ _ h
   |str _=>exact Rep.mono (λa _ z=>J a z) (λ_ _ _ e=>e) _ _ h
   |ty _=>exact Rep.mono (λa _ z=>J a z) (λ_ _ _ e=>e) _ _ h
   |tup _=>exact Rep.mono (λa _ z=>J a z) (λ_ _ _ e=>e) _ _ h
   |lst _=>exact Rep.mono (λa _ z=>J a z) (λ_ _ _ e=>e) _ _ h
   |st=>exact Rep.mono (λa _ z=>J a z) (λ_ _ _ e=>e) _ _ h
   |fz _=>exact Rep.mono (λa _ z=>J a z) (λ_ _ _ e=>e) _ _ h
   |dic=>exact Rep.mono (λa _ z=>J a z) (λ_ _ _ e=>e) _ _ h
   |prT _=>exact Rep.mono (λa _ z=>J a z) (λ_ _ _ e=>e) _ _ h
   |dct _ _=>exact Rep.mono (λa _ z=>J a z) (λ_ _ _ e=>e) _ _ h
   |dcL _ _=>exact Rep.mono (λa _ z=>J a z) (λ_ _ _ e=>e) _ _ h
  exact key (i-m) q5 e2
 ·rw [xE]
  exact I.nd.imp λ{p q} h=>⟨λz=>h.1 (by simpa using z),h.2⟩
 ·obtain⟨q,hq,rfl⟩:=zk.mp hp;exact I.fresh q hq
def AmO.back{m:Nat}(I:AmO A os n rho' sg' H ds vs)(h1:rho'.drop m=rho)(h2:sg'.drop m=sg):∃os',AmO A os' n rho sg H ds vs:=by
 refine⟨(os.filter λp=>decide (m<=p.1)).map λp=>(p.1-m,p.2),?_⟩
 have J:∀a,Zof A ((os.filter λp=>decide (m<=p.1)).map λp=>(p.1-m,p.2)) a->Zof A os a:=λa z=>by
  rcases z with z |⟨p,Y,e⟩
  ·exact .inl z
  ·obtain⟨q,O,rfl⟩:=zk.mp Y;exact .inr ⟨q,(zy.mp O).1,e⟩
 subst h1 h2
 refine⟨by simp[I.len],λi c e=>?_,Reps.mono (λa _ z=>J a z) (λ_ _ _ e=>e) _ _ I.pend,?_,λp Y=>?_,I.st,I.gz,I.fr,I.z0⟩
 ·rw [List.getElem?_drop] at e;obtain⟨u,e1,L⟩:=I.slot _ c e
  refine⟨u,by rw[getElem?_drop];exact e1,?_⟩
  cases c with
  |own fs=>
   obtain⟨a,xs,q1,q2,q3,q4⟩:=L
   exact⟨a,xs,q1,zk.mpr ⟨_,zy.mpr ⟨q2,by simp⟩,by simp⟩,q3,Reps.mono (λa _ z=>J a z) (λ_ _ _ e=>e) _ _ q4⟩
  |owT ks fs=>
   obtain⟨a,xs,q1,q2,q3,ql,q4⟩:=L
   exact⟨a,xs,q1,zk.mpr ⟨_,zy.mpr ⟨q2,by simp⟩,by simp⟩,q3,ql,Reps.mono (λa _ z=>J a z) (λ_ _ _ e=>e) _ _ q4⟩
  |non=>exact Rep.mono (λa _ z=>J a z) (λ_ _ _ e=>e) _ _ L
  |bl _=>exact Rep.mono (λa _ z=>J a z) (λ_ _ _ e=>e) _ _ L
  |int _=>exact Rep.mono (λa _ z=>J a z) (λ_ _ _ e=>e) _ _ L
  |str _=>exact Rep.mono (λa _ z=>J a z) (λ_ _ _ e=>e) _ _ L
  |ty _=>exact Rep.mono (λa _ z=>J a z) (λ_ _ _ e=>e) _ _ L
  |tup _=>exact Rep.mono (λa _ z=>J a z) (λ_ _ _ e=>e) _ _ L
  |lst _=>exact Rep.mono (λa _ z=>J a z) (λ_ _ _ e=>e) _ _ L
  |st=>exact Rep.mono (λa _ z=>J a z) (λ_ _ _ e=>e) _ _ L
  |fz _=>exact Rep.mono (λa _ z=>J a z) (λ_ _ _ e=>e) _ _ L
  |dic=>exact Rep.mono (λa _ z=>J a z) (λ_ _ _ e=>e) _ _ L
  |prT _=>exact Rep.mono (λa _ z=>J a z) (λ_ _ _ e=>e) _ _ L
  |dct _ _=>exact Rep.mono (λa _ z=>J a z) (λ_ _ _ e=>e) _ _ L
  |dcL _ _=>exact Rep.mono (λa _ z=>J a z) (λ_ _ _ e=>e) _ _ L
 ·rw [xE, List.pairwise_filter];refine I.nd.imp λ{p q} h Y O=>⟨λz=>h.1 ?_,h.2⟩
  have a1:m<=p.1:=by simpa using Y
  have a2:m<=q.1:=by simpa using O
  have z':p.1-m=q.1-m:=z;lia
 ·obtain⟨q,O,rfl⟩:=zk.mp Y;exact I.fresh q (zy.mp O).1
end
abbrev TGD:=D->Rho->(Rho->Prop)->Prop
abbrev xe0:=List D->Rho->(Rho->Prop)->Prop
def gOf(A:AC)(m:Nat)(g:TGD):TG:=λv sg H Q=>∃rho n P d ds vs,Am A n rho sg H (d::ds) (v::vs)/\g d rho P/\∀rho' sg',Am A n rho' sg' H ds vs->sg'.drop m=sg.drop m->P rho'->Q sg' H
def xS0(A:AC)(m:Nat)(g:xe0):TGs:=λus sg H Q=>∃rho n P es ds vs,Am A n rho sg H (es++ds) (us++vs)/\us.length=es.length/\g es rho P/\∀rho' sg',Am A n rho' sg' H ds vs->sg'.drop m=sg.drop m->P rho'->Q sg' H
@[irreducible] def PGD(A:AC)(X:Cx)(m:Nat)(tg:Expr)(g:TGD):Prop:=PG X tg (gOf A m g)
@[irreducible] def xu7(A:AC)(X:Cx)(m:Nat)(tg:List Expr)(g:xe0):Prop:=PGs X tg (xS0 A m g)
def PG.imp(h:PG X tg g)(hi:∀v sg H Q,g' v sg H Q->g v sg H Q):PG X tg g':=λpins s sg H v u Q I r q=>h pins s sg H v u Q I r (hi _ _ _ _ q)
def PGs.imp(h:PGs X tg g)(hi:∀v sg H Q,g' v sg H Q->g v sg H Q):PGs X tg g':=λpins s sg H v u Q I r q=>h pins s sg H v u Q I r (hi _ _ _ _ q)
section
variable {A:AC}{X:Cx}{m:Nat}{pos:Pos}
def zf0(i:Nat):TGD:=λd rho P=>i<rho.length/\P (rho.set i (some d))
def zZ{i:Nat}(hN:X.N.Nodup)(hi:X.N[i]?=some x)(hx:Loc X.env.scope x)(J:i<m)(O:X.fn x=true\/X.env.scope.names.lookup x=some .local:=by first |exact .inl rfl |exact .inr rfl |assumption):PGD A X m (.Name x pos) (zf0 i):=by
 exists 
   (zX0 hN hi hx O).imp λv sg H Q h => by
    obtain⟨rho,n,P,d,ds,vs,⟨os,I⟩,⟨L,k⟩,Y⟩:=h;refine Y (rho.set i (some d)) (sg.set i (some v)) ⟨_,I.set L⟩ ?_ k;rw[List.drop_set_of_lt J]
def xo8:xe0:=λes rho P=>es=[]/\P rho
def zS1(g:TGD)(gs:xe0):xe0:=λes rho P=>∃d r,es=d::r/\g d rho λrho'=>gs r rho' P
def vb:xu7 A X m [] xo8:=by
 exists zW9.imp λus sg H Q h=>by
   obtain⟨rho,n,P,es,ds,vs,I,J,⟨rfl,k⟩,L⟩:=h;have e:us=[]:=xb.mp J;subst e;exact⟨rfl,L rho sg I rfl k⟩
def xn(h1:PGD A X m e g)(h2:xu7 A X m es gs)(hs:(assignEach (e::es) X.env).map (·.2)=assign e X.env::(assignEach es X.env).map (·.2):=by rfl):xu7 A X m (e::es) (zS1 g gs):=by
 exists 
   (zI8 h1 h2 hs).imp λus sg H Q h => by
    obtain⟨rho,n,P,es',ds,vs,I,L,⟨d,r,rfl,k⟩,Y⟩:=h
    cases us with
    |nil=>simp at L
    |cons u us=>
     refine⟨u,us,rfl,⟨rho,n,_,d,r++ds,us++vs,I,k,λrho' sg' I' e1 k'=>⟨rho',n,P,r,ds,vs,I',by simpa using L,k',λJ sg2 I2 e2 O=>Y J sg2 I2 (e2.trans e1) O⟩⟩⟩
def xo7(k:Nat)(gs:xe0):TGD:=λd rho P=>∃es,d=.tup es/\es.length=k/\gs es rho P
def vy{es:List Expr}{k:Nat}{gs:xe0}{O:Nat}(hK:X.K=A.K)(hc:X.calm=true)(h:xu7 A X m es gs)(Y:(assignEach es X.env).length=k:=by rfl)(L:(assignEach es X.env).findIdx? (·.1)=none:=by rfl):PGD A X m (.Tuple es O pos) (xo7 k gs):=by
 exists 
   (xj2 (n := k) hc h Y L).imp λv sg H Q h => by
    obtain⟨rho,n,P,d,ds,vs,⟨os,I⟩,⟨fs,rfl,hl,q⟩,hQ⟩:=h;obtain⟨J,r⟩:=I.pop;obtain⟨a,xs,rfl,sq,rs⟩:=r.tup_inv;have hx:=rs.length;rw[hK]
    exact⟨a,xs,rfl,sq.sq,by rw[hx];exact hl,rho,n,P,fs,ds,vs,⟨os,J.join rs⟩,hx,q,hQ⟩
end
abbrev TID:=Rho->Nat->(List D->Nat->Prop)->Prop
def JIs(A:AC)(J:It)(es:List D)(ws:List V)(items:List D):Prop:=∀n rho sg H ds vs i,Am A n rho sg H (es++ds) (ws++vs) ->
 (∀d,items[i]?=some d->J.go i H/\∀x H',J.yld i H x H'->Am A n rho sg H' (d::(es++ds)) (x::(ws++vs)))/\(items.length<=i->J.stop i H)
def iOf(A:AC)(it:TID):TI:=λsg H R=>∃rho n P ds vs,Am A n rho sg H ds vs/\it rho n P/\∀J H' n' items es ws,Am A n' rho sg H' (es++ds) (ws++vs)->ws.length=es.length->JIs A J es ws items->P items n'->R J H'
@[irreducible] def PID(A:AC)(X:Cx)(tg iter:Expr)(it:TID):Prop:=PI X tg iter (iOf A it)
def PI.imp(h:PI X tg e t)(hi:∀sg H Q,t' sg H Q->t sg H Q):PI X tg e t':=λpins s sg H Q I q=>h pins s sg H Q I (hi _ _ _ q)
section
variable {A:AC}{X:Cx}{tg a b:Expr}{ta tb:TD}{pos p:Pos}{t1:TAD}
def zi3(lo:Int)(k:Nat):List D:=(List.range k).map fun(i:Nat)=>D.int (lo+(i:Int))
def xo5(t:TAD):TID:=λrho n P=>t rho n λes J=>∃j:Int,es=[.int j]/\-(2^62)<=j/\j<2^62/\P (zi3 0 j.toNat) J
def xb3{lo:Int}{k:Nat}:JIs A (Itr lo k) [] [] (zi3 lo k):=λn2 O sg2 H2 ad aa i ⟨J,I2⟩=>by
 refine⟨λd e=>?_,λhi=>?_⟩
 ·unfold zi3 at e;rw[zw] at e
  cases q:(List.range k)[i]? with
  |none=>rw[q] at e;cases e
  |some j=>
   rw[q] at e;cases e;have hj:=zm.mp q;obtain⟨L,Y⟩:=hj;rw[List.getElem_range] at Y;subst Y
   refine⟨(show i<k by simpa using L),λx H3 y=>?_⟩
   obtain⟨e3,e4⟩:=y;subst e3 e4;exact⟨J,I2.push (Rep.ofS (d:=.int (lo+i)) rfl)⟩
 ·unfold zi3 at hi
  exact(show k<=i by simpa using hi)
def kQ(L:X.mg "range" = none)(ha:PAD A X [a] t1)(hg:Gl X "range" := by rfl)(hs:starEach [a] X.env=[(false,eval a X.env)]:=by rfl):PID A X tg (.Call (.Name "range" p) [a] [] pos) (xo5 t1):=by
 exists 
   (zs2 hg L ha hs).imp λsg H R h => by
    obtain⟨rho,n,P,ds,vs,I,ht,Y⟩:=h;refine⟨rho,n,_,ds,vs,I,ht,λws H' n' es' ⟨os,J⟩ O k=>?_⟩;obtain⟨j,rfl,h1,h2,k⟩:=k;obtain⟨J1,rs⟩:=J.split O;obtain⟨v,rfl,r⟩:=kO rs
    exact⟨j,by rw[r.int_inv],h1,h2,Y _ H' n' _ [] [] ⟨os,J1⟩ rfl xb3 k⟩
def XC:D->Option (Bool × List D)
 |.lst es=>some (true,es)
 |.tup es=>some (false,es)
 |_=>none
theorem Rep.seq{K:W.Frag}{G:QqE}{Z:QqA}{H:Hp}{v:V}{b:Bool}{es:List D}:∀{d:D},XC d=some (b,es)->Rep K G Z H d v->∃a xs,v=.ref a/\SqZ K Z H b a xs/\Reps K G Z H es xs
 |.lst fs,h,r=>by cases h;exact r.lst_inv
 |.tup fs,h,r=>by cases h;exact r.tup_inv
 |.non,h,_=>by cases h
 |.bl _,h,_=>by cases h
 |.int _,h,_=>by cases h
 |.str _,h,_=>by cases h
 |.ty _,h,_=>by cases h
 |.st,h,_=>by cases h
 |.own _,h,_=>by cases h
 |.owT _ _,h,_=>by cases h
 |.prT _,h,_=>by cases h
 |.fz _,h,_=>by cases h
def Kb(xs ys:List D):List D:=List.zipWith (λx y=>D.tup [x,y]) xs ys
def xo3(t:TAD):TID:=λrho n P=>t rho n λes J=>∃d1 d2 O xs L ys,es=[d1,d2]/\XC d1=some (O,xs)/\XC d2=some (L,ys)/\P (Kb xs ys) J
def xb2{d1 d2:D}{l1 l2:Addr}{b1 b2:Bool}{xs ys:List D}(h1:XC d1=some (b1,xs))(h2:XC d2=some (b2,ys)):JIs A (Itz A.K b1 b2 l1 l2) [d1,d2] [.ref l1,.ref l2] (Kb xs ys):=λn rho sg H ds vs i ⟨os,I⟩=>by
 obtain⟨I1,r1⟩:=AmO.pop (d:=d1) (v:=.ref l1) (ds:=d2::ds) (vs:=.ref l2::vs) I;obtain⟨I2,r2⟩:=I1.pop;obtain⟨a1,us,e1,L,Y⟩:=r1.seq h1;obtain⟨a2,ws,e2,J,O⟩:=r2.seq h2;cases e1;cases e2;refine⟨λd e=>?_,λhi=>⟨us,ws,L.sq,J.sq,?_⟩⟩
 ·unfold Kb at e;rw[List.getElem?_zipWith] at e
  cases q1:xs[i]? with
  |none=>rw[q1] at e;cases e
  | some x =>
   cases q2:ys[i]? with
   |none=>rw[q1,q2] at e;cases e
   |some y=>
    rw[q1,q2] at e;cases e;obtain⟨u,eu,ru⟩:=Y.get q1;obtain⟨w,ew,rw'⟩:=O.get q2;refine⟨⟨us,ws,u,w,L.sq,J.sq,eu,ew⟩,λv H3 yy=>?_⟩;obtain⟨T,hT,rfl,k⟩:=yy;obtain⟨u',w',eu',ew',rfl⟩:=k us ws L.sq J.sq;rw[eu] at eu';cases eu';rw[ew] at ew';cases ew';exact⟨os,I.newTup (.cons ru (.cons rw' .nil)) hT⟩
 ·rw[Y.length,O.length];unfold Kb at hi;rw[wu] at hi;lia
def Qu{es:List Expr}{kk:Nat}{ps:Pos}(hK:X.K=A.K)(hm:X.mg "zip" = none)(ha:PAD A X [a,b] t1)(hg:Gl X "zip" := by rfl)(hs:starEach [a,b] X.env=[(false,eval a X.env),(false,eval b X.env)]:=by rfl)(Y:starEach [b] X.env=[(false,eval b X.env)]:=by rfl) :
  PID A X (.Tuple es kk ps) (.Call (.Name "zip" p) [a,b] [] pos) (xo3 t1):=by
 exists (xj1 hg hm ha hs Y).imp λsg H R h=>by
   obtain⟨rho,n,P,ds,vs,I,ht,hQ⟩:=h;refine⟨rho,n,_,ds,vs,I,ht,λws H' n' es' ⟨os,J⟩ hl k=>?_⟩;obtain⟨d1,d2,b1,xs,b2,ys,rfl,h1,h2,k⟩:=k;obtain⟨J1,rs⟩:=J.split hl;obtain⟨v1,v2,rfl,r1,r2⟩:=Ku rs;obtain⟨a1,us,rfl,O,ad⟩:=r1.seq h1;obtain⟨a2,ws',rfl,L,aa⟩:=r2.seq h2;rw[hK];exact⟨b1,b2,a1,a2,us,ws',rfl,O.sq,L.sq,hQ _ H' n' _ [d1,d2] [.ref a1,.ref a2] ⟨os,J⟩ rfl (xb2 h1 h2) k⟩
end
section
variable {A:AC}{X:Cx}{tg iter elt:Expr}{ifs:List Expr}{scope:Scope}{own M:List Str}{pos:Pos}{it:TID}{g:TGD}{tt:TBD}{te:TD}
def zl2(it:TID)(own:Nat)(g:TGD)(tt:TBD)(te:TD):TD:=λrho n P=>it rho n λitems Y=>items.length<=sizeLine/\∃J:Nat->List D->Nat->Prop,J 0 [] Y /\
 (∀i d acc n,items[i]?=some d->J i acc n->g d (replicate own none++rho) λrho'=>rho'.drop own=rho/\tt rho' n λc L=>if c=true then te rho' L λe O=>J (i+1) (acc++[e]) O else J (i+1) acc L) /\
 ∀acc n,J items.length acc n->P (.lst acc) n
def xd7:TBD:=λ_ n P=>P true n
def PTs.imp(h:PTs X e t)(hi:∀sg H Q,t' sg H Q->t sg H Q):PTs X e t':=by exists λpins s sg H Q I q=>h pins s sg H Q I (hi _ _ _ q)
def yT:PTs X [] (VF A xd7):=by
 exists zW2.imp λsg H Q h=>by
   obtain⟨rho,n,P,ds,vs,I,ht,J⟩:=h;exact J true H n I ht
def zp2{m:Nat}{n:Nat}(I:Am A n rho sg H ds vs)(ht:zl2 it m g tt te rho n P)
  (hQ:∀os n' H' fs xs p,AmO A os n' rho sg H' ds vs->Reps A.K A.G (Zof A os) H' fs xs->H' p=none->P (.lst fs) n'->Q (.ref p) (upd H' p (.lst xs))):zG4 (iOf A it) m (gOf A m g) (VF A tt) (tOf A te) sg H Q:=by
 refine⟨rho,n,_,ds,vs,I,ht,λJ H' n' items es ws I1 hl hJ k=>?_⟩;obtain⟨hsz,W,w0,turn,fin⟩:=k
 refine⟨λi mm acc H=>mm=items.length-i/\i<=items.length/\acc.length<=i/\∃L n,acc.length=L.length/\Am A n rho sg H (es++(L++ds)) (ws++(acc++vs))/\W i L n,
  ⟨items.length,rfl,xq _,zo _,[],n',rfl,I1,w0⟩,?_⟩
 rintro i mm acc H3 ⟨rfl,hi,ag,L,n3,Y,⟨os,I3⟩,w3⟩;obtain⟨j1,j2⟩:=hJ n3 rho sg H3 (L++ds) (acc++vs) i ⟨os,I3⟩
 by_cases O:i<items.length
 ·refine .inr ⟨(j1 items[i] (by simp [O])).1, by lia, λx H4 y => ?_⟩
  obtain⟨al,I4⟩:=(j1 items[i] (by simp[O])).2 x H4 y
  refine⟨replicate m none++rho,n3,_,items[i],es++(L++ds),ws++(acc++vs),⟨_,I4.front m⟩,turn i items[i] L n3 (by simp[O]) w3,λrho' sg' ⟨af,I5⟩ e5 k5=>?_⟩
  obtain⟨k5,k6⟩:=k5
  have e6:sg'.drop m=sg:=by rw[e5,wR (by simp)]
  refine⟨e6,rho',n3,_,es++(L++ds),ws++(acc++vs),⟨af,I5⟩,k6,λc H6 n6 ⟨ae,I6⟩ k7=>?_⟩
  cases c with
  |false=>
   obtain⟨ad,I7⟩:=I6.back k5 e6
   exact⟨items.length-(i+1),q5,rfl,O,q5,L,n6,Y,⟨ad,I7⟩,k7⟩
  |true=>
   rw[if_pos rfl] at k7 ⊢;refine⟨rho',n6,_,es++(L++ds),ws++(acc++vs),⟨ae,I6⟩,k7,λv H8 n8 d ⟨ak,I8⟩ k8=>?_⟩;obtain⟨aa,I9⟩:=I8.back k5 e6;obtain⟨aj,rv⟩:=I9.pop;obtain⟨ai,r1⟩:=aj.split hl;obtain⟨ah,r2⟩:=ai.split Y
   refine⟨items.length-(i+1),q5,rfl,O,by rw[zu,List.length_singleton];lia,L++[d],n8,by simp[Y],⟨aa,(ah.join (r2.append (.cons rv .nil))).join r1⟩,k8⟩
 ·have e : i = items.length := by lia
  subst e;refine .inl ⟨j2 (zo _),zK ag hsz,λD hD=>?_⟩;obtain⟨I4,r1⟩:=I3.split hl;obtain⟨I5,r2⟩:=I4.split Y;exact hQ os n3 _ L acc D I5 r2 hD (fin L n3 w3)
def zb7{m:Nat}(h:tOf A (zl2 it m g tt te) sg H Q):zG4 (iOf A it) m (gOf A m g) (VF A tt) (tOf A te) sg H Q:=by
 obtain⟨rho,n,P,ds,vs,I,ht,O⟩:=h;exact zp2 I ht λos n' H' fs xs p J r L k=>O _ _ n' _ ⟨os,J.newLst r L⟩ k
def vB(ok:CompOk X scope M)(L:X.calm=true)(hi:PID A X tg iter it)(hg:∀C J H2 fp,PGD A (wa X scope own M C J H2 fp) own.length tg g)(ht:∀C J H2 fp,PTs (wa X scope own M C J H2 fp) ifs (VF A tt))
  (he:∀C J H2 fp,PD A (wa X scope own M C J H2 fp) elt te) (hs:∀x,foldedSetIterable iter X.env x=pure x:=by intro _;rfl):PD A X (.ListComp elt [⟨tg,iter,ifs,0⟩] scope pos) (zl2 it own.length g tt te):=by
 exists 
   (zX5 ok L hi hg ht he hs).imp λ_ _ _=>zb7
end
structure EndsD where
 nx:Rho->Nat->Prop
 rt:D->Nat->Prop
 bk:Rho->Nat->Prop:=λ_ _=>False
 ct:Rho->Nat->Prop:=λ_ _=>False
abbrev TSD:=EndsD->Rho->Nat->Prop
structure EOk(A:AC)(E:VC)(F:EndsD)(ds:List D)(vs:List V):Prop where
 nx:∀rho n sg H,Am A n rho sg H ds vs->F.nx rho n->E.nx sg H
 rt:∀d n v rho sg H,Am A n rho sg H (d::ds) (v::vs)->F.rt d n->E.rt v H
 bk:∀rho n sg H,Am A n rho sg H ds vs->F.bk rho n->E.bk sg H
 ct:∀rho n sg H,Am A n rho sg H ds vs->F.ct rho n->E.ct sg H
def sOf(A:AC)(t:TSD):TS:=λE sg H=>∃rho n F ds vs,Am A n rho sg H ds vs/\t F rho n/\EOk A E F ds vs
@[irreducible] def PSD(A:AC)(X:Cx)(s:Stmt)(t:TSD):Prop:=PS X s (sOf A t)
@[irreducible] def zm2(A:AC)(X:Cx)(s:List Stmt)(t:TSD):Prop:=PSs X s (sOf A t)
section
variable {A:AC}{X:Cx}{st:Stmt}{rest:List Stmt}{t u:TSD}{e a b:Expr}{te:TD}{tc:TBD}{pos:Pos}
def xg1:TSD:=λF rho n=>F.nx rho n
def XF(t u:TSD):TSD:=λF rho n=>t { F with nx:=u F } rho n
def wI:zm2 A X [] xg1:=by
 exists zr6.imp λE sg H h=>by
   obtain⟨rho,n,F,ds,vs,I,ht,ok⟩:=h;exact ok.nx _ _ _ _ I ht
def zx(h1:PSD A X st t)(J:zm2 A X rest u):zm2 A X (st::rest) (XF t u):=by
 exists (Uj h1 J).imp λE sg H h=>by
   obtain⟨rho,n,F,ds,vs,I,ht,ok⟩:=h;exact⟨rho,n,{ F with nx:=u F },ds,vs,I,ht,⟨λrho' n' sg' H' I' k=>⟨rho',n',F,ds,vs,I',k,ok⟩,ok.rt,ok.bk,ok.ct⟩⟩
def zF(h1:PSD A X st t):zm2 A X [st] t:=by exists zW3 h1
def xG0(te:TD):TSD:=λF rho n=>te rho n F.rt
def xp(he:PD A X e te):PSD A X (.Return (some e) pos) (xG0 te):=by
 exists (zQ8 he).imp λE sg H h=>by
   obtain⟨rho,n,F,ds,vs,I,ht,ok⟩:=h;exact⟨rho,n,_,ds,vs,I,ht,λv H' n' d I' k=>ok.rt _ _ _ _ _ _ I' k⟩
def sIf(c:TBD)(t u:TSD):TSD:=λF rho n=>c rho n λb J=>if b=true then t F rho J else u F rho J
def yU(L:PTD A X c tc)(ha:zm2 A X sa t)(O:zm2 A X sb u):PSD A X (.If c sa sb pos) (sIf tc t u):=by
 exists (xC9 L ha O).imp λE sg H h=>by
   obtain⟨rho,n,F,ds,vs,I,ht,ok⟩:=h;refine⟨rho,n,_,ds,vs,I,ht,λc H' n' J k=>?_⟩
   cases c with
   |true=>exact⟨rho,n',F,ds,vs,J,k,ok⟩
   |false=>exact⟨rho,n',F,ds,vs,J,k,ok⟩
def zc2(i:Nat)(te:TD):TSD:=λF rho n=>i<rho.length/\te rho n λd J=>F.nx (rho.set i (some d)) J
def yf{i:Nat}(Y:X.N.Nodup)(hi:X.N[i]?=some x)(hx:Loc X.env.scope x)(he:PD A X e te)(hs:swapsWith e (some (.Name x pos')) pos.line X.env=pure false:=by rfl)(O:X.fn x=true\/X.env.scope.names.lookup x=some .local:=by first |exact .inl rfl |exact .inr rfl |assumption) :
  PSD A X (.Assign [.Name x pos'] e pos) (zc2 i te):=by
 exists (zc9 Y hi hx he hs O).imp λE sg H h=>by
   obtain⟨rho,n,F,ds,vs,I,⟨L,ht⟩,ok⟩:=h;exact⟨rho,n,_,ds,vs,I,ht,λv H' n' d ⟨os,J⟩ k=>ok.nx _ _ _ _ ⟨_,J.set L⟩ k⟩
def XN{i:Nat}(hN:X.N.Nodup)(Y:X.N[i]?=some x)(hx:Loc X.env.scope x)(ok:CompOk X scope M)(hc:X.calm=true)(hi:PID A X tg iter it)
  (hg:∀C L H2 fp,PGD A (wa X scope own M C L H2 fp) own.length tg g) (ht:∀C L H2 fp,PTs (wa X scope own M C L H2 fp) ifs (VF A tt)) (he:∀C L H2 fp,PD A (wa X scope own M C L H2 fp) elt te)
  (O:swapsWith (.ListComp elt [⟨tg,iter,ifs,0⟩] scope pos) (some (.Name x pos')) spos.line X.env=pure true:=by rfl) (hf:X.fn x=true\/X.env.scope.names.lookup x=some .local:=by first |exact .inl rfl |exact .inr rfl |assumption)
  (hs:∀x,foldedSetIterable iter X.env x=pure x:=by intro _;rfl):PSD A X (.Assign [.Name x pos'] (.ListComp elt [⟨tg,iter,ifs,0⟩] scope pos) spos) (zc2 i (zl2 it own.length g tt te)):=by
 exists 
   (zi4 hN Y hx ok hc hi hg ht he O hf hs).imp λE sg H h => by
    obtain⟨rho,n,F,ds,vs,I,⟨hl,ht⟩,ok⟩:=h;exact zb7 (A:=A) ⟨rho,n,_,ds,vs,I,ht,λv H' n' d ⟨os,J⟩ k=>ok.nx _ _ _ _ ⟨_,J.set hl⟩ k⟩
def xF9(te:TD)(g:TGD):TSD:=λF rho n=>te rho n λd J=>g d rho λrho'=>F.nx rho' J
def jo{m:Nat}(he:PD A X e te)(hg:PGD A X m tg g)(hs:swapsWithSole [tg] e pos.line X.env=pure false:=by rfl)(L:swappedStores [tg] e X.env=pure none:=by rfl)
  (h1:(assignEach [tg] X.env).map (·.2)=[assign tg X.env]:=by rfl):PSD A X (.Assign [tg] e pos) (xF9 te g):=by
 exists (zd0 he hg hs L h1).imp λE sg H h=>by
   obtain⟨rho,n,F,ds,vs,I,ht,ok⟩:=h;exact⟨rho,n,_,ds,vs,I,ht,λv H' n' d J k=>⟨rho,n',_,d,ds,vs,J,k,λrho' sg' J' _ k'=>ok.nx _ _ _ _ J' k'⟩⟩
def xg0(i j:Nat)(t:TAD):TSD:=λF rho n=>i<rho.length/\j<rho.length/\t rho n λes J=>∃d d',es=[d,d']/\F.nx ((rho.set i (some d)).set j (some d')) J
def zW5{i j:Nat}{x y:Str}{ta:TAD}{px py pt:Pos}{Y k2 L}(hc:X.calm=true)(hN:X.N.Nodup)(hi:X.N[i]?=some x)(hj:X.N[j]?=some y)(ad:i≠j)
  (hx:X.env.scope.names.lookup x=some .local) (hy:X.env.scope.names.lookup y=some .local) (ha:PAD A X [a,b] ta)
  (hw:swappedStores [.Tuple [.Name x px,.Name y py] Y pt] (.Tuple [a,b] k2 L) X.env=pure (some [x,y]):=by rfl)
  (hs:swapsWithSole [.Tuple [.Name x px,.Name y py] Y pt] (.Tuple [a,b] k2 L) pos.line X.env=pure false:=by rfl) :
  PSD A X (.Assign [.Tuple [.Name x px,.Name y py] Y pt] (.Tuple [a,b] k2 L) pos) (xg0 i j ta):=by
 exists (zQ9 hc hN hi hj ad hx hy ha hw hs).imp λE sg H h=>by
   obtain⟨rho,n,F,ds,vs,I,⟨hl,aa,ht⟩,ok⟩:=h;refine⟨rho,n,_,ds,vs,I,ht,λws H' n' es ⟨os,J⟩ O k=>?_⟩;obtain⟨d,d',rfl,k⟩:=k;obtain⟨J1,rs⟩:=J.split O;obtain⟨v,v',rfl,r,r'⟩:=Ku rs;refine⟨v,v',rfl,ok.nx _ _ _ _ ?_ k⟩;have J2:AmO A os n' rho sg H' (d::d'::ds) (v::v'::vs):=(J1.push r').push r
   exact⟨_,(J2.set hl).set (by simpa using aa)⟩
def xG2(it:TID)(g:TGD)(tb:TSD):TSD:=λF rho n=>it rho n λitems L=>∃J:Nat->Rho->Nat->Prop,J 0 rho L /\
 (∀i d rho n,items[i]?=some d->J i rho n->g d rho λrho'=>tb { F with nx:=J (i+1),ct:=J (i+1),bk:=F.nx } rho' n)/\∀rho n,J items.length rho n->F.nx rho n
def jq{m:Nat}(hp:PassesOwn (model X.prog X.w) X.A X.env X.xe)(hc:X.calm=true)(hi:PID A X tg iter it)(hg:PGD A X m tg g)(hb:zm2 A X body tb)
  (hs:∀x,foldedSetIterable iter X.env x=pure x:=by intro _;rfl):PSD A X (.For tg iter body [] pos) (xG2 it g tb):=by
 exists (xi8 hp hc hi hg hb hs).imp λE sg H h=>by
   obtain⟨rho,n,F,ds,vs,I,ht,ok⟩:=h;refine⟨rho,n,_,ds,vs,I,ht,λJ H' n' items es ws I1 hl hJ k=>?_⟩;obtain⟨W,w0,turn,fin⟩:=k;refine⟨λi mm sg H=>mm=items.length-i/\i<=items.length/\∃rho n,Am A n rho sg H (es++ds) (ws++vs)/\W i rho n,⟨items.length,rfl,xq _,rho,n',I1,w0⟩,?_⟩;rintro i mm ae H3 ⟨rfl,hi,O,n3,I3,w3⟩;obtain⟨j1,j2⟩:=hJ n3 O ae H3 ds vs i I3
   by_cases Y:i<items.length
   ·refine .inr ⟨(j1 items[i] (by simp [Y])).1, λsg' H' => ∃ rho n, Am A n rho sg' H' (es ++ ds) (ws ++ vs) /\ W (i + 1) rho n, λsg' H' ⟨rho', n', I', w'⟩ => ⟨items.length - (i + 1), by lia, rfl, Y, rho', n', I', w'⟩, λx H4 y => ?_⟩
    have I4:=(j1 items[i] (by simp[Y])).2 x H4 y
    refine⟨O,n3,_,items[i],es++ds,ws++vs,I4,turn i items[i] O n3 (by simp[Y]) w3,λrho' sg' I5 _ k5=>⟨rho',n3,{ F with nx:=W (i+1),ct:=W (i+1),bk:=F.nx },es++ds,ws++vs,I5,k5,?_⟩⟩
    refine⟨λL n6 aa H6 I6 k6=>⟨L,n6,I6,k6⟩,λd n6 v L aa H6 ⟨ad,I6⟩ k6=>ok.rt _ _ _ _ _ _ ⟨ad,I6.under hl⟩ k6,λL n6 aa H6 ⟨ad,I6⟩ k6=>ok.nx _ _ _ _ ⟨ad,(I6.split hl).1⟩ k6,λL n6 aa H6 I6 k6=>⟨L,n6,I6,k6⟩⟩
   ·have e : i = items.length := by lia
    subst e;obtain⟨os,I3⟩:=I3;exact .inl ⟨j2 (zo _),ok.nx _ _ _ _ ⟨os,(I3.split hl).1⟩ (fin O n3 w3)⟩
def AmO.setOwn{os:List (Nat × Addr)}{n:Nat}{rho:Rho}{sg:St}{H:Hp}{ds es:List D}{vs xs:List V}{i:Nat}{p:Addr}(I:AmO A os n rho sg H ds vs)(hi:i<rho.length)(L:H p=none)(r:Reps A.K A.G (Zof A os) H es xs) :
  ∃os',AmO A os' n (rho.set i (some (.own es))) (sg.set i (some (.ref p))) (upd H p (.lst xs)) ds vs:=by
 have O:∀a u,H a=some u->upd H p (.lst xs) a=some u:=λa u e=>by rw[xX (yd e L)];exact e
 refine⟨(i,p)::os.filter λq=>decide (q.1≠i),?_⟩
 have zz:∀a,H a≠none->Zof A ((i,p)::os.filter λq=>decide (q.1≠i)) a->Zof A os a:=λa ha z=>by
  rcases z with z |⟨q,J,e⟩
  ·exact .inl z
  ·rcases zj.mp J with rfl | J
   ·exact absurd (by rw[<- e];exact L) ha
   ·exact .inr ⟨q,(zy.mp J).1,e⟩
 have h0:A.H0 p=none:=by
  cases q:A.H0 p with
  |none=>rfl
  |some o=>
   by_cases e:A.G=some p
   ·obtain⟨x,y,z,w,_⟩:=I.st p e;rw[w] at L;cases L
   ·have:=I.fr p o e q;rw[this] at L;cases L
 refine⟨by simp[I.len],λj c e=>?_,Reps.mono zz (λa u _ e=>O a u e) _ _ I.pend,?_,λq J=>?_,λa e=>?_,I.gz,λa u h e=>O a u (I.fr a u h e),I.z0⟩
 ·by_cases Y : j = i
  ·subst Y;rw[zU hi] at e;cases e
   exact⟨.ref p,zU (by rw[<- I.len];exact hi),p,xs,rfl,xf,yb,Reps.mono zz (λa u _ e=>O a u e) _ _ r⟩
  ·rw [xg (Ne.symm Y)] at e;obtain⟨u,e1,e2⟩:=I.slot j c e
   exact⟨u,by rw[xg (Ne.symm Y)];exact e1,SlotR.mono zz (λa u _ e=>O a u e) (λa ys m q=>⟨zn _ (zy.mpr ⟨m,by simpa using Y⟩),O a _ q⟩) _ _ e2⟩
 ·refine wF.mpr ⟨λq J => ?_, I.nd.filter _⟩;obtain⟨m1,m2⟩:=zy.mp J
  refine⟨λz=>by simp[<- z] at m2,λz=>(I.fresh q m1).2.2.ne ?_⟩
  have z':p=q.2:=z;rw[<- z'];exact L
 ·rcases zj.mp J with rfl | J
  ·exact⟨h0,λz=>(I.z0.1 p z).ne h0,by show Hot (upd H p _ p);rw[yb];exact Hot.lst⟩
  ·obtain⟨f1,f2,f3⟩:=I.fresh q (zy.mp J).1;exact⟨f1,f2,f3.of λu w=>O _ _ w⟩
 ·obtain⟨x,y,z,q,rr⟩:=I.st a e;exact⟨x,y,z,O _ _ q,rr⟩
def xw1(i:Nat)(t:TAD):TSD:=λF rho n=>i<rho.length/\t rho n λes J=>es.length<=sizeLine/\F.nx (rho.set i (some (.own es))) J
def Yx{i:Nat}(hN:X.N.Nodup)(hi:X.N[i]?=some x)(hx:Loc X.env.scope x)(ha:PAD A X els ta)(hf:X.fn x=true\/X.env.scope.names.lookup x=some .local:=by first |exact .inl rfl |exact .inr rfl |assumption)
  (hs:swapsWith (.List els pos2) (some (.Name x pos')) pos.line X.env=pure false:=by rfl):PSD A X (.Assign [.Name x pos'] (.List els pos2) pos) (xw1 i ta):=by
 exists (zc9 hN hi hx (Kz ha) hs hf).imp λE sg H h=>by
   obtain⟨rho,n,F,ds,vs,I,⟨Y,ht⟩,ok⟩:=h
   refine⟨rho,n,_,ds,vs,I,ht,λws H' n' es ⟨os,J⟩ L k=>⟨by rw[L];exact k.1,λp O=>?_⟩⟩
   obtain⟨J1,rs⟩:=J.split L;exact ok.nx _ _ _ _ (J1.setOwn Y O rs) k.2
def AmO.own{os:List (Nat × Addr)}{n:Nat}{rho:Rho}{sg:St}{H:Hp}{ds es es':List D}{vs xs':List V}{i:Nat}(I:AmO A os n rho sg H ds vs)(hi:rho[i]?=some (some (.own es))) :
  ∃a xs,sg[i]?=some (some (.ref a))/\H a=some (.lst xs)/\Reps A.K A.G (Zof A os) H es xs/\∀es' xs',Reps A.K A.G (Zof A os) H es' xs'->AmO A os n (rho.set i (some (.own es'))) sg (upd H a (.lst xs')) ds vs:=by
 obtain⟨v,J,a,xs,rfl,Y,hH,rs⟩:=I.slot i _ hi;have aa:i<rho.length:=(zm.mp hi).1;have za:Zof A os a:=.inr ⟨_,Y,rfl⟩
 have hf:∀(xs':List V) b u,¬ Zof A os b->H b=some u->upd H a (.lst xs') b=some u:=λxs' b u nz e=>by
  rw[xX λz=>nz (by rw[z];exact za)];exact e
 have uniq:∀j,(j,a)∈os->j=i:=λj O=>by
  by_cases L:j=i
  ·exact L
  ·have key : ∀ (l : List (Nat × Addr)), l.Pairwise (λp q => p.1 ≠ q.1 /\ p.2 ≠ q.2) -> (j, a) ∈ l -> (i, a) ∈ l -> False := by
    intro l
    induction l with
    |nil=>intro _ h;simp at h
    |cons c l ih=>
     intro hp h1 h2;obtain⟨p1,p2⟩:=wF.mp hp
     rcases zj.mp h1 with J |h1<;>rcases zj.mp h2 with e2 |h2
     ·rw[<- e2] at J;exact L (Prod.mk.inj J).1
     ·exact(p1 _ h2).2 (by rw[<- J])
     ·exact(p1 _ h1).2 (by rw[<- e2])
     ·exact ih p2 h1 h2
   exact(key os I.nd O Y).elim
 obtain⟨ae,ad,af⟩:=I.fresh _ Y
 refine⟨a,xs,J,hH,rs,λes' xs' r=>⟨by simp[I.len],λj c e=>?_,Reps.mono (λ_ _ z=>z) (hf xs') _ _ I.pend,I.nd,λq hq=>?_,λb e=>?_,I.gz,λb u h e=>?_,I.z0⟩⟩
 ·by_cases O : j = i
  ·subst O;rw[zU aa] at e;cases e;exact⟨.ref a,J,a,xs',rfl,Y,yb,Reps.mono (λ_ _ z=>z) (hf xs') _ _ r⟩
  ·rw [xg (Ne.symm O)] at e;obtain⟨u,e2,e3⟩:=I.slot j c e
   exact⟨u,e2,SlotR.mono (λ_ _ z=>z) (hf xs') (λb ys m q=>⟨m,by rw[xX λz=>O (uniq j (by rw[<- z];exact m))];exact q⟩) _ _ e3⟩
 ·obtain ⟨f1, f2, f3⟩ := I.fresh q hq;refine⟨f1,f2,?_⟩
  by_cases e:q.2=a
  ·rw[e,yb];exact Hot.lst
  ·rw[xX e];exact f3
 ·obtain ⟨x, y, z, q, rr⟩ := I.st b e
  exact⟨x,y,z,by rw[xX λw=>ad (by rw[<- w];exact I.gz b e)];exact q,rr⟩
 ·rw [xX λw => by rw [w, ae] at e; cases e]
  exact I.fr b u h e
def AmO.freeze{os:List (Nat × Addr)}{n:Nat}{rho:Rho}{sg:St}{H:Hp}{ds es:List D}{vs:List V}{i:Nat}(I:AmO A os n rho sg H ds vs)(hi:rho[i]?=some (some (.own es))):∃os',AmO A os' n (rho.set i (some (.lst es))) sg H ds vs:=by
 obtain⟨v,Y,a,xs,rfl,hm,hH,rs⟩:=I.slot i _ hi;have aa:i<rho.length:=(zm.mp hi).1;refine⟨os.filter λq=>decide (q.1≠i),?_⟩
 have sub:∀b,H b≠none->Zof A (os.filter λp=>decide (p.1≠i)) b->Zof A os b:=λb _ z=>by
  rcases z with z |⟨p,L,e⟩
  ·exact .inl z
  ·exact .inr ⟨p,(zy.mp L).1,e⟩
 have key:∀(l:List (Nat × Addr)),l.Pairwise (λp q=>p.1≠q.1/\p.2≠q.2)->(i,a)∈l->∀q∈l,q.2=a->q.1=i:=by
  intro l
  induction l with
  |nil=>intro _ h;simp at h
  |cons c l ih=>
   intro L h1 q hq J;obtain⟨p1,p2⟩:=wF.mp L
   rcases zj.mp h1 with Y |h1<;>rcases zj.mp hq with O |h2
   ·rw[O,<- Y]
   ·exact absurd (by rw[<- Y,J]) (p1 _ h2).2
   ·exact absurd (by rw[<- O,J]) (p1 _ h1).2
   ·exact ih p2 h1 q h2 J
 refine⟨by simp[I.len],λj c e=>?_,Reps.mono sub (λ_ _ _ e=>e) _ _ I.pend,I.nd.filter _,λp L=>I.fresh p (zy.mp L).1,I.st,I.gz,I.fr,I.z0⟩
 by_cases hj:j=i
 ·subst hj;rw[zU aa] at e;cases e;refine⟨.ref a,Y,Rep.lst_mk ⟨λz=>?_,hH⟩ (Reps.mono sub (λ_ _ _ e=>e) _ _ rs)⟩
  rcases z with z |⟨p,L,e⟩
  ·exact(I.fresh _ hm).2.1 z
  ·obtain⟨m1,m2⟩:=zy.mp L;have:=key os I.nd hm p m1 e;simp[this] at m2
 ·rw [xg (Ne.symm hj)] at e;obtain⟨u,O,e3⟩:=I.slot j c e
  exact⟨u,O,SlotR.mono sub (λ_ _ _ e=>e) (λb ys m q=>⟨zy.mpr ⟨m,by simpa using hj⟩,q⟩) _ _ e3⟩
def xg3(i:Nat)(t:TSD):TSD:=λF rho n=>∃es,rho[i]?=some (some (.own es))/\t F (rho.set i (some (.lst es))) n
def jp(i:Nat)(h:PSD A X st t):PSD A X st (xg3 i t):=by
 exists PS.imp h λE sg H q=>by
   obtain⟨rho,n,F,ds,vs,⟨os,I⟩,⟨es,hi,ht⟩,ok⟩:=q;exact⟨_,n,F,ds,vs,I.freeze hi,ht,ok⟩
end
section
variable {A:AC}{X:Cx}{e a b:Expr}{es:List Expr}{te ta tb:TD}{t1:TAD}{pos:Pos}
def Qp(i:Nat)(t:TAD):TSD:=λF rho n=>∃es,rho[i]?=some (some (.own es))/\es.length<sizeLine/\t rho n λds J=>∃d,ds=[d]/\F.nx (rho.set i (some (.own (es++[d])))) J
def vc{i:Nat}{x:Str}{px apos cpos:Pos}(ha:PAD A X [e] t1)(hK:X.K=A.K)(hN:X.N[i]?=some x:=by rfl)(hv:Vis X.env.scope x:=by first |exact Or.inl rfl |exact Or.inr (Or.inl rfl) |exact Or.inr (Or.inr rfl))(hd:(x == ("__debug__" : Str))=false:=by decide)
  (af:(x == ("__classdict__" : Str))=false:=by decide) (Y:attributeBase (.Name x px) "append" X.env (eval (.Name x px) X.env)=eval (.Name x px) X.env:=by rfl)
  (aa : ((backTo cpos (starEach [e] X.env)).all (λx => !x.1) && (backToKw cpos (keywordEach [] X.env)).all (λx => x.1.isSome)
   && decide ([e].length+([]:List Keyword).length+(if ([]:List Keyword).isEmpty then 0 else 1)<30))=true:=by rfl)
  (O:(apos.endLine == cpos.line)=true:=by rfl) (hs:starEach [e] X.env=(false,eval e X.env)::starEach [] X.env:=by rfl) (L:(backTo cpos (starEach [] X.env)).any (·.1)=false:=by rfl)
  (ae:swapsWith (.Call (.Attribute (.Name x px) "append" apos) [e] [] cpos) none pos.line X.env=pure false:=by rfl) :
  PSD A X (.Expr (.Call (.Attribute (.Name x px) "append" apos) [e] [] cpos) pos) (Qp i t1):=by
 exists 
   (zr8 (xj9 PySem.F.plainAttrs_list PySem.F.slot_list_append PySem.F.type_list_append zv8 (qp hN hv hd af) ha Y aa O hs L) ae).imp λE sg H h => by
    obtain⟨rho,n,F,ds,vs,⟨os,I⟩,⟨es,hi,hz,ht⟩,ok⟩:=h;obtain⟨a,xs,e1,hH,rs,_⟩:=I.own (es':=es) (xs':=[]) hi;refine⟨.ref a,e1,.inl ⟨rfl,xs,SqL.of hH⟩,rho,n,_,ds,vs,⟨os,I⟩,ht,λws H' n' fs ⟨os',J⟩ hl k=>?_⟩;obtain⟨d,rfl,k⟩:=k;obtain⟨J1,ad⟩:=J.split hl;obtain⟨v,rfl,r⟩:=kO ad;obtain⟨a',xs',e2,hH',rs',up⟩:=J1.own (es':=es) (xs':=[]) hi;rw[e1] at e2;cases e2
    exact⟨a,xs',v,rfl,rfl,hH',by rw[rs'.length];exact hz,ok.nx _ _ _ _ ⟨os',up _ _ (rs'.append (.cons r .nil))⟩ k⟩
def zt2(o:Option (Option D))(p:List D->Prop):Prop:=∃es,o=some (some (.own es))/\p es
def zS6(i:Nat)(tb:TD):TD:=λrho n P=>zt2 rho[i]? λes=>tb rho n λd J=>∃j c,d=.int j/\atI es j=some c/\P c J
def zJ6{i:Nat}{x:Str}{px:Pos}(hb:PD A X b tb)(L:UP b)(hN:X.N[i]?=some x:=by rfl)(hv:Vis X.env.scope x:=by first |exact Or.inl rfl |exact Or.inr (Or.inl rfl) |exact Or.inr (Or.inr rfl))(hd:(x == ("__debug__" : Str))=false:=by decide)
  (O:(x == ("__classdict__" : Str))=false:=by decide):PD A X (.Subscript (.Name x px) b pos) (zS6 i tb):=by
 exists 
   (zX1 QL (qp hN hv hd O) hb L).imp λsg H Q h => by
    obtain⟨rho,n,P,ds,vs,⟨os,I⟩,⟨es,hi,ht⟩,hQ⟩:=h;obtain⟨a,xs,e1,hH,rs,_⟩:=I.own (es':=es) (xs':=[]) hi;refine⟨.ref a,e1,rho,n,_,ds,vs,⟨os,I⟩,ht,λv H' n' d ⟨os',J⟩ k=>?_⟩;obtain⟨j,c,rfl,hc,k⟩:=k;obtain⟨J1,r⟩:=J.pop;obtain⟨a',xs',Y,hH',rs',_⟩:=J1.own (es':=es) (xs':=[]) hi;rw[e1] at Y;cases Y;obtain⟨w,e3,rw'⟩:=UO rs' hc;exact⟨a,xs',j,w,rfl,r.int_inv,SqL.of hH',e3,hQ w H' n' c ⟨os',J1.push rw'⟩ k⟩
def xp8(i:Nat)(tb:TD):TD:=λrho n P=>rho[i]?=some (some .st)/\tb rho n λd J=>∃j:Int,d=.int j/\0<=j/\j<J/\∀z:Int,0<=z->(j=1->z<2147483647)->P (.int z) J
def zS0{n:Nat}{i:Int}(h0:0<=i)(h1:i<n):ixN n i=some i.toNat:=by unfold ixN;rw[if_pos h0,if_pos h1]
def jt{i:Nat}{x:Str}{px:Pos}(hb:PD A X b tb)(aa:UP b)(hN:X.N[i]?=some x:=by rfl)(hv:Vis X.env.scope x:=by first |exact Or.inl rfl |exact Or.inr (Or.inl rfl) |exact Or.inr (Or.inr rfl))(hd:(x == ("__debug__" : Str))=false:=by decide)
  (ad:(x == ("__classdict__" : Str))=false:=by decide):PD A X (.Subscript (.Name x px) b pos) (xp8 i tb):=by
 exists 
   (zX1 QL (qp hN hv hd ad) hb aa).imp λsg H Q h => by
    obtain⟨rho,n,P,ds,vs,⟨os,I⟩,⟨hi,ht⟩,hQ⟩:=h;obtain⟨v,e1,e2⟩:=I.slot i _ hi
    obtain⟨a,ha,rfl⟩:∃a,A.G=some a/\v=.ref a:=by
     have e3:=SlotR.rep (d:=.st) rfl e2;unfold Rep at e3;exact e3
    refine⟨.ref a,e1,rho,n,_,ds,vs,⟨os,I⟩,ht,λw H' n' d ⟨os',J⟩ k=>?_⟩;obtain⟨j,rfl,h0,h3,k⟩:=k;obtain⟨J1,r⟩:=J.pop;obtain⟨Y,_,_,hH,p1,p2,p3⟩:=J1.st a ha;obtain⟨L,rfl⟩:=xz h0
    have O:L<Y.length:=q5
    have ej:Y[L]?=some Y[L]:=ze O
    refine⟨a,_,(L:Int),.int Y[L],rfl,r.int_inv,SqL.of hH,?_,hQ _ H' n' _ ⟨os',J1.push (Rep.ofS (d:=.int Y[L]) rfl)⟩ (k Y[L] (p2 _ (wm O)) λe=>p3 _ (by rw[<- ej];congr 1;lia))⟩
    unfold atI
    rw[zS0 q5 (by rw[zg];lia)]
    simp[O]
def zM8(J:List Int)(j:Nat)(z:Int):(J.map V.int).set j (.int z)=(J.set j z).map V.int:=by rw[List.map_set]
def AmO.setSt{os:List (Nat × Addr)}{n:Nat}{rho:Rho}{sg:St}{H:Hp}{ds:List D}{vs:List V}{a:Addr}{J:List Int}(I:AmO A os n rho sg H ds vs)(ha:A.G=some a)(h:J.length=n/\(∀x∈J,0<=x)/\∀x,J[1]?=some x->x<2147483647) :
  AmO A os n rho sg (upd H a (.lst (J.map V.int))) ds vs:=by
 have za:Zof A os a:=.inl (I.gz a ha)
 have Y:∀b u,¬ Zof A os b->H b=some u->upd H a (.lst (J.map V.int)) b=some u:=λb u nz e=>by
  rw[xX λw=>nz (by rw[w];exact za)];exact e
 have L:∀p∈os,p.2≠a:=λp hp e=>(I.fresh p hp).2.1 (by rw[e];exact I.gz a ha)
 refine⟨I.len,λj c e=>?_,Reps.mono (λ_ _ w=>w) Y _ _ I.pend,I.nd,λq O=>?_,λb e=>?_,I.gz,λb u h e=>?_,I.z0⟩
 ·obtain ⟨u, e1, e2⟩ := I.slot j c e
  exact⟨u,e1,SlotR.mono (λ_ _ w=>w) Y (λb ys m q=>⟨m,by rw[xX (L _ m)];exact q⟩) _ _ e2⟩
 ·obtain ⟨f1, f2, f3⟩ := I.fresh q O
  exact⟨f1,f2,by rw[xX (L q O)];exact f3⟩
 ·rw[ha] at e;cases e;exact⟨J,0,0,yb,h⟩
 ·rw [xX λw => h (by rw [w]; exact ha)]
  exact I.fr b u h e
def zQ2(i:Nat)(te tb:TD):TSD:=λF rho n=>rho[i]?=some (some .st)/\te rho n λd L=>tb rho L λd2 J=>∃j z:Int,d=.int z/\d2=.int j/\0<=j/\j<J/\0<=z/\(j=1->z<2147483647)/\F.nx rho J
def XM{i:Nat}(he:PD A X e te)(hb:PD A X b tb)(hN:X.N[i]?=some x:=by rfl)(hv:Vis X.env.scope x:=by first |exact Or.inl rfl |exact Or.inr (Or.inl rfl) |exact Or.inr (Or.inr rfl))(hd:(x == ("__debug__" : Str))=false:=by decide)
  (ad : (x == ("__classdict__" : Str)) = false := by decide) (ha : ∀ v, assign (.Subscript (.Name x px) b ps) X.env v = (do
   let L <- holding [v] (eval (.Name x px) X.env)
   let iv <- holding [v,L] (eval b X.env)
   standAt ps
   holding [v,L,iv] (setItem L iv v)
   release [v,L,iv] []):=by intro _;rfl) (hs:swapsWithSole [.Subscript (.Name x px) b ps] e pos.line X.env=pure false:=by rfl) (hw:swappedStores [.Subscript (.Name x px) b ps] e X.env=pure none:=by rfl)
  (h1:(assignEach [.Subscript (.Name x px) b ps] X.env).map (·.2)=[assign (.Subscript (.Name x px) b ps) X.env]:=by rfl) :
  PSD A X (.Assign [.Subscript (.Name x px) b ps] e pos) (zQ2 i te tb):=by
 exists 
   (zd0 he (xj3 (qp hN hv hd ad) hb zG6 ha) hs hw h1).imp λE sg H h => by
    obtain⟨rho,n,F,ds,vs,⟨os,I⟩,⟨hi,ht⟩,ok⟩:=h;obtain⟨v,e1,e2⟩:=I.slot i _ hi
    obtain⟨a,hG,rfl⟩:∃a,A.G=some a/\v=.ref a:=by
     have e3:=SlotR.rep (d:=.st) rfl e2;unfold Rep at e3;exact e3
    refine⟨rho,n,_,ds,vs,⟨os,I⟩,ht,λv H' n' d J k=>⟨.ref a,e1,rho,n',_,d::ds,v::vs,J,k,λw H2 n2 d2 ⟨Y,J2⟩ k2=>?_⟩⟩;obtain⟨j,z,rfl,rfl,h0,h3,hz,h2,k2⟩:=k2;obtain⟨J3,r2⟩:=J2.pop;obtain⟨J4,r1⟩:=J3.pop;obtain⟨zs,_,_,hH,p1,p2,p3⟩:=J4.st a hG;rw[r1.int_inv,r2.int_inv];obtain⟨O,rfl⟩:=xz h0
    have aa:O<zs.length:=q5
    refine⟨a,_,(O:Int),O,rfl,rfl,hH,by rw[zS0 q5 (by rw[zg];lia)];simp,?_⟩
    rw[zM8]
    refine ok.nx _ _ _ _ ⟨Y,J4.setSt hG ⟨by rw[List.length_set];exact p1,λx hx=>?_,λx hx=>?_⟩⟩ k2
    ·rcases List.mem_or_eq_of_mem_set hx with hx | rfl
     ·exact p2 x hx
     ·exact hz
    ·by_cases e : O = 1
     ·subst e;rw[zU aa] at hx;cases hx;exact h2 rfl
     ·rw[xg e] at hx;exact p3 x hx
def Ju(es:List D)(lo hi:Option Int):List D:=(es.drop (HT.sIx es.length 0 lo)).take (HT.sIx es.length es.length hi-HT.sIx es.length 0 lo)
def Uf{K:W.Frag}{G:QqE}{Z:QqA}{H:Hp}{fs:List D}{xs:List V}(h:Reps K G Z H fs xs)(lo hi:Option Int):Reps K G Z H (Ju fs lo hi) (zO5 xs lo hi):=by
 unfold Ju zO5;rw[h.length];exact(h.drop _).take _
end
abbrev TF:=List D->Nat->(D->Nat->Prop)->Prop
def spD(K:W.Frag)(k:Nat)(t:TF):Sp:=λvs H Q _=>∃(G:QqE) (Z:QqA) (n:Nat) (P:D->Nat->Prop) (ds:List D),ds.length=k/\Reps K G Z H ds vs/\zF2 G n H/\(∀a,G=some a->Z a)/\ZOk K G Z H/\t ds n P /\
 ∀v H' n' d,(∀a o,G≠some a->H a=some o->H' a=some o)->zF2 G n' H'->Rep K G Z H' d v->P d n'->Q v H'
def startD(N:List Str)(ds:List D):Rho:=ds.map some++replicate (N.length-ds.length) none
def jD{K:W.Frag}{G:QqE}{Z:QqA}{H:Hp}{N:List Str}{ds:List D}{vs:List V}{n:Nat}(rs:Reps K G Z H ds vs)(st:zF2 G n H)(gz:∀a,G=some a->Z a)(z0:ZOk K G Z H) :
  AmO ⟨K,G,Z,H⟩ [] n (startD N ds) (start N vs) H [] []:=by
 have L:=rs.length
 have O:∀a,Zof ⟨K,G,Z,H⟩ [] a->Z a:=λa z=>by
  rcases z with z |⟨p,J,_⟩
  ·exact z
  ·simp at J
 have rs':Reps K G (Zof ⟨K,G,Z,H⟩ []) H ds vs:=Reps.mono (λa _ z=>O a z) (λ_ _ _ e=>e) _ _ rs
 refine⟨by simp[startD,start,L],λi d e=>?_,.nil,.nil,λp J=>by simp at J,st,gz,λa o _ e=>e,z0⟩
 unfold startD at e
 by_cases hi:i<ds.length
 ·rw [wq (by simpa using hi), zw] at e
  cases q:ds[i]? with
  |none=>rw[q] at e;cases e
  |some c=>
   rw[q] at e;cases e;obtain⟨v,Y,r⟩:=rs'.get q;refine⟨v,?_,SlotR.of r⟩;unfold start
   rw[wq (by rw[zg,L];exact hi),zw,Y]
   rfl
 ·rw [xN (by simpa using hi), xt] at e
  split at e<;>cases e
section
variable {P:Program}{w:World}{K:W.Frag}{mg:QqM}{base:Heap}
def Fun.okD{x J:Str}{st:Stmt}{f:Addr}{fd:FuncData}{N ps:List Str}{k:Nat}{t:TF}{tb:TSD}(F:Fun K x J st f fd)(S:FnScope N ps (zW st))
  (body : ∀ (L : Value) (Y : Around) (outer : List Env) (s : Shared) (H : Hp) (E : XK) (G : Option Addr) (Z : Addr -> Prop), Room k (Y.deeper (envOfC J (zW st) s.heap.objs.size f L)) ->
   zm2 ⟨K,G,Z,H⟩ (zF1 CX0 P w K mg base N J (zW st) f L Y outer s H E).nox (vC st) tb)
  (O:∀ds n Q,ds.length=ps.length->t ds n Q->tb { nx:=λ_ n=>Q .non n,rt:=Q } (startD N ds) n):FnOk P w K mg base CX0 (k+1) f fd ps (spD K ps.length t):=by
 exists (by
   refine F.ok S (λvs H Q E h=>?_) (λL Y outer s H vs Q E hr h=>?_)
   ·obtain⟨G,Z,n,R,ds,hl,rs,_⟩:=h;rw[rs.length];exact hl
   ·obtain ⟨G, Z, n, R, ds, hl, rs, aa, gz, z0, ht, hQ⟩ := h;refine⟨_,body L Y outer s H E G Z hr,startD N ds,n,_,[],[],⟨[],jD rs aa gz z0⟩,O ds n R hl ht,?_⟩;have zz:∀ (os:List (Nat × Addr)) a,Z a->Zof ⟨K,G,Z,H⟩ os a:=λos a z=>.inl z;refine⟨λrho' n' sg' H' ⟨os,I⟩ q=>?_,λd n' v rho' sg' H' ⟨os,I⟩ q=>?_,λ_ _ _ _ _ q=>q.elim,λ_ _ _ _ _ q=>q.elim⟩
    ·exact hQ .non H' n' .non I.fr I.st (Rep.ofS rfl) q
    ·exact hQ v H' n' d I.fr I.st (Rep.mono (λa _ z=>zz os a z) (λ_ _ _ e=>e) _ _ I.pop.2) q)
end
section
variable {A:AC}{X:Cx}{e:Expr}{es:List Expr}{t1:TAD}{pos p:Pos}
def dFn(k:Nat)(t:TF)(t1:TAD):TD:=λrho n P=>t1 rho n λes J=>es.length=k/\t es J P
def AmO.called{os:List (Nat × Addr)}{n n':Nat}{rho:Rho}{sg:St}{H H':Hp}{ds:List D}{vs:List V}(I:AmO A os n rho sg H ds vs)(fr:∀a o,A.G≠some a->H a=some o->H' a=some o)(st:zF2 A.G n' H'):AmO A os n' rho sg H' ds vs:=by
 have O:∀b u,¬ Zof A os b->H b=some u->H' b=some u:=λb u Y e=>fr b u (λz=>Y (.inl (I.gz b z))) e;have J:∀p∈os,A.G≠some p.2:=λp hp e=>(I.fresh p hp).2.1 (I.gz _ e);refine⟨I.len,λj c e=>?_,Reps.mono (λ_ _ w=>w) O _ _ I.pend,I.nd,λq L=>?_,st,I.gz,λb u h e=>fr b u h (I.fr b u h e),I.z0⟩
 ·obtain⟨u,e1,e2⟩:=I.slot j c e;exact⟨u,e1,SlotR.mono (λ_ _ w=>w) O (λb ys m q=>⟨m,fr _ _ (J _ m) q⟩) _ _ e2⟩
 ·obtain⟨f1,f2,f3⟩:=I.fresh q L;exact⟨f1,f2,f3.of λu z=>fr _ _ (J q L) z⟩
def zX9{kk k:Nat}(F:FnOk X.prog X.w X.K X.mg X.base CX0 kk f fd ps (spD X.K k t))(hr:Room kk X.A)(hm:X.mg x=some (.ref f))(hk:W.keepIn X.K (.ref f)=true)(hb:Binds X.K fd ps [])(hK:X.K=A.K)
  (ha:PAD A X (e::es) t1) (hg:Gl X x:=by rfl) (Y:(x == ("__debug__" : Str))=false:=by decide) (he:starEach (e::es) X.env=(false,eval e X.env)::starEach es X.env:=by rfl) (O:(backTo pos (starEach es X.env)).any (·.1)=false:=by rfl) :
  PD A X (.Call (.Name x p) (e::es) [] pos) (dFn k t t1):=by
 exists (Ul F hr hg hm hk hb .nil zJ9 ha Y he O).imp λsg H Q h=>by
   obtain⟨rho,n,R,ds,vs,I,ht,hQ⟩:=h;refine⟨rho,n,_,ds,vs,I,ht,λws H' n' es' ⟨os,J⟩ hl k=>?_⟩;obtain⟨L,rs⟩:=J.split hl;rw[yh,hK];refine⟨A.G,Zof A os,n',R,es',k.1,rs,L.st,λa z=>.inl (L.gz a z),L.zO,k.2,λv H2 n2 d fr st r q=>hQ v H2 n2 d ⟨os,(L.called fr st).push r⟩ q⟩
end
section
variable {A:AC}{X:Cx}{tg a:Expr}{ta:TD}{pos p:Pos}
def xE3(K:W.Frag)(tl:TE):TI:=λsg H R=>tl sg H λx H1=>∃l,x=.ref l/\(((∃xs,SqL K H1 l xs)/\R (Itl K l) H1)\/((∃xs,SqT K H1 l xs)/\R (Itt K l) H1))
def zW8{l:Expr}{tl:TE}(hl:PE X l tl):PI X tg l (xE3 X.K tl):=by
 intro pins s sg H R I h;refine thn (hl pins s sg H _ I h) λv s1 ⟨x,H1,J,Y,q1⟩=>?_;obtain⟨c,e,q1⟩:=q1;subst e;cases Y
 have L:∀b∈[s1.heap.objs.size],FpOk X pins H1 b:=λb hb=>by
  obtain rfl:b=s1.heap.objs.size:=by simpa using hb
  exact J.fpOk (zo _) (J.hok.fresh (zo _))
 rcases q1 with ⟨⟨xs,O⟩,q⟩ |⟨⟨xs,O⟩,q⟩
 ·obtain⟨its,rv,pl,hz⟩:=J.list O;exact yz pl.isList ⟨s1.heap.objs.size,[s1.heap.objs.size],_,_,H1,rfl,J.kept (t':=s1.toks) λb o e=>zh _ e,zo1 c _,⟨_,zr _ rfl,rfl,rfl⟩,L,q⟩
 ·obtain⟨its,rv,pl,hz⟩:=J.tuple O;exact wpAny_pyIter_tuple (show s1.heap.IsTuple c its.toArray from pl) ⟨s1.heap.objs.size,[s1.heap.objs.size],_,_,H1,rfl,J.kept (t':=s1.toks) λb o e=>zh _ e,zh6 c _,⟨_,zr _ rfl,rfl,rfl⟩,L,q⟩
def xo4(ta:TD):TID:=λrho n P=>ta rho n λd J=>∃es,(d=.lst es\/d=.tup es)/\P es J
def vw(hK:X.K=A.K)(ha:PD A X a ta):PID A X tg a (xo4 ta):=by
 exists (zW8 ha).imp λsg H R h=>by
   obtain⟨rho,n,P,ds,vs,I,ht,hQ⟩:=h;refine⟨rho,n,_,ds,vs,I,ht,λv H' n' d ⟨os,J⟩ k=>?_⟩;obtain⟨es,hd,k⟩:=k;have r:=J.pop.2;rw[hK]
   rcases hd with rfl |rfl
   ·obtain ⟨l, xs, rfl, sq, rs⟩ := r.lst_inv;refine⟨l,rfl,.inl ⟨⟨xs,sq.sq⟩,hQ _ H' n' es [.lst es] [.ref l] ⟨os,J⟩ rfl (λn2 ae sg2 H2 ad Y i ⟨aa,I2⟩=>?_) k⟩⟩;obtain⟨I3,r2⟩:=AmO.pop (d:=.lst es) (v:=.ref l) (ds:=ad) (vs:=Y) I2;obtain⟨l',xs2,e,L,O⟩:=r2.lst_inv;cases e
    refine⟨λd e=>?_,λhi=>⟨xs2,L.sq,by rw[O.length];exact hi⟩⟩
    obtain⟨v,e1,rv⟩:=O.get e;refine⟨⟨xs2,v,L.sq,e1⟩,λx H3 y=>?_⟩;obtain⟨e3,y⟩:=y;subst e3;have e4:=y xs2 L.sq;rw[e1] at e4;cases e4;exact⟨aa,I2.push rv⟩
   ·obtain ⟨l, xs, rfl, sq, rs⟩ := r.tup_inv;refine⟨l,rfl,.inr ⟨⟨xs,sq.sq⟩,hQ _ H' n' es [.tup es] [.ref l] ⟨os,J⟩ rfl (λn2 ae sg2 H2 ad Y i ⟨aa,I2⟩=>?_) k⟩⟩;obtain⟨I3,r2⟩:=AmO.pop (d:=.tup es) (v:=.ref l) (ds:=ad) (vs:=Y) I2;obtain⟨l',xs2,e,L,O⟩:=r2.tup_inv;cases e
    refine⟨λd e=>?_,λhi=>⟨xs2,L.sq,by rw[O.length];exact hi⟩⟩
    obtain⟨v,e1,rv⟩:=O.get e;refine⟨⟨xs2,v,L.sq,e1⟩,λx H3 y=>?_⟩;obtain⟨e3,y⟩:=y;subst e3;have e4:=y xs2 L.sq;rw[e1] at e4;cases e4;exact⟨aa,I2.push rv⟩
end
structure Fn(P:Program)(w:World)(K:W.Frag)(mg:QqM)(base:Heap)(x:Str)(kk k:Nat)(t:TF):Prop where
 ex:∃(f:Addr) (fd:FuncData) (ps:List Str),FnOk P w K mg base CX0 kk f fd ps (spD K k t)/\mg x=some (.ref f)/\W.keepIn K (.ref f)=true/\Binds K fd ps []
def wt{O k:Nat}(F:Fn X.prog X.w X.K X.mg X.base x O k t)(Y:Room O X.A)(hK:X.K=A.K)
  (ha:PAD A X (e::es) t1) (hg:Gl X x:=by rfl) (L:(x == ("__debug__" : Str))=false:=by decide) (he:starEach (e::es) X.env=(false,eval e X.env)::starEach es X.env:=by rfl) (J:(backTo pos (starEach es X.env)).any (·.1)=false:=by rfl) :
  PD A X (.Call (.Name x p) (e::es) [] pos) (dFn k t t1):=by
 exists (by
   obtain⟨f,fd,ps,h1,h2,h3,h4⟩:=F.ex
   exact zX9 h1 Y h2 h3 h4 hK ha hg L he J)
structure Blt(mg:QqM):Prop where
 len:mg "len" = none
 abs:mg "abs" = none
 all:mg "all" = none
 any:mg "any" = none
 isi:mg "isinstance" = none
 int:mg "int" = none
 bool:mg "bool" = none
 str:mg "str" = none
 tuple:mg "tuple" = none
 list:mg "list" = none
 range:mg "range" = none
 zip:mg "zip" = none
 enum:mg "enumerate" = none
 max:mg "max" = none
 min:mg "min" = none
 sorted:mg "sorted" = none
def vZ:bootBuiltins "len" = some (.builtin "len"):=w5
def zT3:bootBuiltins "abs" = some (.builtin "abs"):=w5
def zT2:bootBuiltins "any" = some (.builtin "any"):=w5
def zD4:bootBuiltins "int" = some (.type "int"):=w5
def vo:bootBuiltins "tuple" = some (.type "tuple"):=w5
def zD3:bootBuiltins "list" = some (.type "list"):=w5
def isB(d:D)(p:Bool->Prop):Prop:=∃c,d=.bl c/\p c
@[simp] theorem xP7{b:Bool}:isB (.bl b) p↔p b:=⟨fun⟨_,e,h⟩=>by cases e;exact h,λh=>⟨_,rfl,h⟩⟩
@[simp] theorem xy3{F rho n}:xg1 F rho n=F.nx rho n:=rfl
@[simp] theorem xH3{t u F rho n}:XF t u F rho n=t { F with nx:=u F } rho n:=rfl
@[simp] theorem xH4{te F rho n}:xG0 te F rho n=te rho n F.rt:=rfl
@[simp] theorem xO7{c t u F rho n}:sIf c t u F rho n=c rho n λb J=>if b=true then t F rho J else u F rho J:=rfl
@[simp] theorem xH2{i te F rho n}:zc2 i te F rho n=(i<rho.length/\te rho n λd J=>F.nx (rho.set i (some d)) J):=rfl
@[simp] theorem xH1{te g F rho n}:xF9 te g F rho n=te rho n λd J=>g d rho λrho'=>F.nx rho' J:=rfl
@[simp] theorem xH7{i t F rho n}:xw1 i t F rho n=(i<rho.length/\t rho n λes J=>es.length<=sizeLine/\F.nx (rho.set i (some (.own es))) J):=rfl
@[simp] theorem xH8{i t F rho n}:xg3 i t F rho n=∃es,rho[i]?=some (some (.own es))/\t F (rho.set i (some (.lst es))) n:=rfl
@[simp] theorem xh8{i t F rho n}:Qp i t F rho n=∃es,rho[i]?=some (some (.own es))/\es.length<sizeLine/\t rho n λds J=>∃d,ds=[d]/\F.nx (rho.set i (some (.own (es++[d])))) J:=rfl
@[simp] theorem xt2{i d rho P}:zf0 i d rho P=(i<rho.length/\P (rho.set i (some d))):=rfl
@[simp] theorem xI5{i rho n P}:zF0 i rho n P=atV rho[i]? λd=>P d n:=rfl
@[simp] theorem xQ9{d k}:atV (some (some d)) k=atD d k:=rfl
@[simp] theorem xK4{k}:atD .non k=k .non:=rfl
@[simp] theorem xK3{k b}:atD (.bl b) k=k (.bl b):=rfl
@[simp] theorem xK2{k b}:atD (.int b) k=k (.int b):=rfl
@[simp] theorem xK1{k b}:atD (.str b) k=k (.str b):=rfl
@[simp] theorem xK0{k b}:atD (.tup b) k=k (.tup b):=rfl
@[simp] theorem xJ9{k b}:atD (.lst b) k=k (.lst b):=rfl
@[simp] theorem xJ8{k b}:atD (.fz b) k=k (.fz b):=rfl
@[simp] theorem xJ7{k}:atD .st k=k .st:=rfl
@[simp] theorem xJ6{k a b}:atD (.dct a b) k=k (.dct a b):=rfl
@[simp] theorem xR0{d k}(h:xG d=true):atD d k=k d:=propext ⟨λz=>(zD9 z).2,JL h⟩
@[simp] theorem xT3{d rho n P}:dC d rho n P=P d n:=rfl
@[simp] theorem xQ5{rd ta tb rho n P}:dOp rd ta tb rho n P=ta rho n λd1 L=>tb rho L λd2 J=>rd d1 d2 λd=>P d J:=rfl
@[simp] theorem xB1{t rho n P}:Jt t rho n P=t rho n λd n'=>isB d λb=>P b n':=rfl
@[simp] theorem xy7{d1 d2 k}:xh1 d1 d2 k=(d2=.non/\k (.bl (kE d1))):=rfl
@[simp] theorem xr6{d1 d2 k}:zq9 d1 d2 k=(d2=.non/\k (.bl (!kE d1))):=rfl
@[simp] theorem xJ5{t u rho n P}:xF1 t u rho n P=t rho n λc J=>if c=true then u rho J P else P false J:=rfl
@[simp] theorem xQ8{t u rho n P}:bOr t u rho n P=t rho n λc J=>if c=true then P true J else u rho J P:=rfl
@[simp] theorem xJ4{t rho n P}:xF0 t rho n P=t rho n λc J=>P (!c) J:=rfl
@[simp] theorem xJ3{rho n P}:xd7 rho n P=P true n:=rfl
@[simp] theorem xJ2{ta tb rho n P}:xL5 ta tb rho n P=ta rho n λd J=>isB d λc=>if c=true then tb rho J P else P (.bl false) J:=rfl
@[simp] theorem xI9{ta rho n P}:xL3 ta rho n P=ta rho n λd J=>isB d λc=>P (.bl (!c)) J:=rfl
@[simp] theorem xQ6{t ta tb rho n P}:dIf t ta tb rho n P=t rho n λc J=>if c=true then ta rho J P else tb rho J P:=rfl
@[simp] theorem xK5{rho n P}:xq8 rho n P=P [] n:=rfl
@[simp] theorem xB7{t r rho n P}:za4 t r rho n P=t rho n λd L=>r rho L λds J=>P (d::ds) J:=rfl
@[simp] theorem xI6{t rho n P}:xL0 t rho n P=t rho n λds J=>ds.length<=sizeLine/\P (.tup ds) J:=rfl
@[simp] theorem xJ0{t rho n P}:xE8 t rho n P=t rho n λds J=>ds.length<=sizeLine/\P (.lst ds) J:=rfl
@[simp] theorem xB6{rd t rho n P}:zO3 rd t rho n P=t rho n λes J=>rd es λd=>P d J:=rfl
@[simp] theorem xQ7{k t t1 rho n P}:dFn k t t1 rho n P=t1 rho n λes J=>es.length=k/\t es J P:=rfl
@[simp] theorem xA7{ta rho n P}:xo4 ta rho n P=ta rho n λd J=>∃es,(d=.lst es\/d=.tup es)/\P es J:=rfl
@[simp] theorem xA8{t rho n P}:xo5 t rho n P=t rho n λes J=>∃j:Int,es=[.int j]/\-(2^62)<=j/\j<2^62/\P (zi3 0 j.toNat) J:=rfl
@[simp] theorem xB0{rho P}:xo8 [] rho P↔P rho:=⟨λh=>h.2,λh=>⟨rfl,h⟩⟩
@[simp] theorem xt3{g gs d r rho P}:zS1 g gs (d::r) rho P↔g d rho λrho'=>gs r rho' P:=⟨fun⟨_,_,e,h⟩=>by cases e;exact h,λh=>⟨_,_,rfl,h⟩⟩
@[simp] theorem xA9{k gs es rho P}:xo7 k gs (.tup es) rho P↔(es.length=k/\gs es rho P):=⟨fun⟨_,e,h⟩=>by cases e;exact h,λh=>⟨_,rfl,h⟩⟩
@[simp] theorem xO8{C g i j k}:rdI C g (.int i) (.int j) k=(C i j/\k (g i j)):=rfl
@[simp] theorem xI0{g i j k}:zH5 g (.int i) (.int j) k=k (g i j):=rfl
@[simp] theorem zV8{es i k}:Zt (.lst es) (.int i) k↔∃d,atI es i=some d/\k d:=⟨fun⟨_,_,d,e,e',h⟩=>by cases e' ;rcases e with e |e |e<;>cases e;exact⟨d,h⟩,fun⟨d,h⟩=>⟨_,_,d,.inl rfl,rfl,h⟩⟩
@[simp] theorem zr0{es i k}:Zt (.tup es) (.int i) k↔∃d,atI es i=some d/\k d:=⟨fun⟨_,_,d,e,e',h⟩=>by cases e' ;rcases e with e |e |e<;>cases e;exact⟨d,h⟩,fun⟨d,h⟩=>⟨_,_,d,.inr (.inl rfl),rfl,h⟩⟩
@[simp] theorem xy6{es i k}:Zt (.fz es) (.int i) k↔∃d,atI es i=some d/\k d:=⟨fun⟨_,_,d,e,e',h⟩=>by cases e' ;rcases e with e |e |e<;>cases e;exact⟨d,h⟩,fun⟨d,h⟩=>⟨_,_,d,.inr (.inr rfl),rfl,h⟩⟩
@[simp] theorem xz3{es fs k}:xh5 (.lst es) (.lst fs) k↔(es.length+fs.length<=sizeLine/\k (.lst (es++fs))):=⟨fun⟨_,_,e,e',h⟩=>by cases e;cases e';exact h,λh=>⟨_,_,rfl,rfl,h⟩⟩
@[simp] theorem zH8{es i k}:zq8 (.tup es) (.int i) k↔(es≠[]/\1<=i/\es.length*i.toNat<=sizeLine/\k (.tup (replicate i.toNat es).flatten)):=⟨fun⟨_,_,e,e',h⟩=>by cases e;cases e';exact h,λh=>⟨_,_,rfl,rfl,h⟩⟩
def xk6(es:List D)(p:D->D->Prop):Prop:=∃d d',es=[d,d']/\p d d'
@[simp] theorem xz4{a b p}:xk6 [a,b] p↔p a b:=⟨fun⟨_,_,e,h⟩=>by cases e;exact h,λh=>⟨_,_,rfl,h⟩⟩
@[simp] theorem xH6{i j t F rho n}:xg0 i j t F rho n=(i<rho.length/\j<rho.length/\t rho n λes J=>xk6 es λd d'=>F.nx ((rho.set i (some d)).set j (some d')) J):=rfl
@[simp] theorem xy9{i j:Int}{k}:zV5 (.int i) (.int j) k↔k (.bl (decide (i=j))):=by
 have e:decide (ofS (.int i)=ofS (.int j))=decide (i=j):=by simp[ofS]
 unfold zV5;rw[e];exact⟨λh=>h.2.2.2,λh=>⟨rfl,rfl,rfl,h⟩⟩
@[simp] theorem xz0{i j:Bool}{k}:zV5 (.bl i) (.bl j) k↔k (.bl (decide (i=j))):=by
 have e:decide (ofS (.bl i)=ofS (.bl j))=decide (i=j):=by simp[ofS]
 unfold zV5;rw[e];exact⟨λh=>h.2.2.2,λh=>⟨rfl,rfl,rfl,h⟩⟩
@[simp] theorem xA2{fs k}:zM7 [.lst fs] k↔k (.int fs.length):=⟨fun⟨_,e,h⟩=>by rcases e with e |e |e<;>cases e;exact h,λh=>⟨_,.inl rfl,h⟩⟩
@[simp] theorem Ug{fs k}:zM7 [.tup fs] k↔k (.int fs.length):=⟨fun⟨_,e,h⟩=>by rcases e with e |e |e<;>cases e;exact h,λh=>⟨_,.inr (.inl rfl),h⟩⟩
@[simp] theorem xA3{fs k}:zM7 [.fz fs] k↔k (.int fs.length):=⟨fun⟨_,e,h⟩=>by rcases e with e |e |e<;>cases e;exact h,λh=>⟨_,.inr (.inr rfl),h⟩⟩
@[simp] theorem xI1{i k}:xK9 [.int i] k↔k (.int (if i<0 then -i else i)):=⟨fun⟨_,e,h⟩=>by cases e;exact h,λh=>⟨_,rfl,h⟩⟩
@[simp] theorem xA4{i k}:xn9 [.bl i] k↔k (.int (if i then 1 else 0)):=⟨fun⟨_,e,h⟩=>by cases e;exact h,λh=>⟨_,rfl,h⟩⟩
@[simp] theorem zr1{fs k}:ze6 [.lst fs] k↔k (.tup fs):=⟨fun⟨_,e,h⟩=>by rcases e with e |e<;>cases e;exact h,λh=>⟨_,.inl rfl,h⟩⟩
@[simp] theorem xh9{fs k}:ze6 [.tup fs] k↔k (.tup fs):=⟨fun⟨_,e,h⟩=>by rcases e with e |e<;>cases e;exact h,λh=>⟨_,.inr rfl,h⟩⟩
@[simp] theorem xt1{fs k}:xb1 [.lst fs] k↔k (.lst fs):=⟨fun⟨_,e,h⟩=>by rcases e with e |e<;>cases e;exact h,λh=>⟨_,.inl rfl,h⟩⟩
@[simp] theorem xt0{fs k}:xb1 [.tup fs] k↔k (.lst fs):=⟨fun⟨_,e,h⟩=>by rcases e with e |e<;>cases e;exact h,λh=>⟨_,.inr rfl,h⟩⟩
@[simp] theorem xB2{i tb rho n P}:xp8 i tb rho n P=(rho[i]?=some (some .st)/\tb rho n λd J=>∃j:Int,d=.int j/\0<=j/\j<J/\∀z:Int,0<=z->(j=1->z<2147483647)->P (.int z) J):=rfl
@[simp] theorem xr4{i te tb F rho n}:zQ2 i te tb F rho n=(rho[i]?=some (some .st)/\te rho n λd L=>tb rho L λd2 J=>∃j z:Int,d=.int z/\d2=.int j/\0<=j/\j<J/\0<=z/\(j=1->z<2147483647)/\F.nx rho J):=rfl
@[simp] theorem xP6:xG .non=true:=rfl
@[simp] theorem xP5{b}:xG (.bl b)=true:=rfl
@[simp] theorem xP4{b}:xG (.int b)=true:=rfl
@[simp] theorem xP3{b}:xG (.str b)=true:=rfl
@[simp] theorem xP2{b}:xG (.tup b)=true:=rfl
@[simp] theorem xP1{b}:xG (.lst b)=true:=rfl
@[simp] theorem xP0:xG .st=true:=rfl
@[simp] theorem xO9{b}:xG (.fz b)=true:=rfl
@[simp] theorem xQ3:kE .non=true:=rfl
@[simp] theorem xQ2{b}:kE (.bl b)=false:=rfl
@[simp] theorem xQ1{b}:kE (.int b)=false:=rfl
@[simp] theorem xQ0{b}:kE (.str b)=false:=rfl
@[simp] theorem xP9{b}:kE (.tup b)=false:=rfl
@[simp] theorem xP8{b}:kE (.lst b)=false:=rfl
@[simp] theorem xO6{b}:XC (.lst b)=some (true,b):=rfl
@[simp] theorem xO5{b}:XC (.tup b)=some (false,b):=rfl
@[simp] theorem xx8:(0<=sizeLine)=True:=by simp
@[simp] theorem xx7:(1<=sizeLine)=True:=by simp[sizeLine]
@[simp] theorem xx6:(2<=sizeLine)=True:=by simp[sizeLine]
@[simp] theorem xx5:(3<=sizeLine)=True:=by simp[sizeLine]
@[simp] theorem xx4:(4<=sizeLine)=True:=by simp[sizeLine]
@[simp] theorem xx3:(5<=sizeLine)=True:=by simp[sizeLine]
@[simp] theorem xx2:(6<=sizeLine)=True:=by simp[sizeLine]
@[simp] theorem xx1:(7<=sizeLine)=True:=by simp[sizeLine]
def wS{k:Nat}(h:k<=1000:=by decide):k<=sizeLine:=zK h q9
def lt_size{k:Nat}(h:k<=1000:=by decide):k<sizeLine:=Nat.lt_of_le_of_lt h q9
def Jx(own:Nat)(g:TGD)(tt:TBD)(te:TD)(rho:Rho)(P:D->Nat->Prop)(items:List D)(Y:Nat):Prop:=items.length<=sizeLine/\∃J:Nat->List D->Nat->Prop,J 0 [] Y /\
 (∀i d acc n,items[i]?=some d->J i acc n->g d (replicate own none++rho) λrho'=>rho'.drop own=rho/\tt rho' n λc L=>if c=true then te rho' L λe O=>J (i+1) (acc++[e]) O else J (i+1) acc L) /\
 ∀acc n,J items.length acc n->P (.lst acc) n
@[simp] theorem xB5{it own g tt te rho n P}:zl2 it own g tt te rho n P=it rho n (Jx own g tt te rho P):=rfl
def xm6(g:TGD)(tb:TSD)(F:EndsD)(rho:Rho)(items:List D)(L:Nat):Prop:=∃J:Nat->Rho->Nat->Prop,J 0 rho L /\
 (∀i d rho n,items[i]?=some d->J i rho n->g d rho λrho'=>tb { F with nx:=J (i+1),ct:=J (i+1),bk:=F.nx } rho' n)/\∀rho n,J items.length rho n->F.nx rho n
@[simp] theorem xH9{it g tb F rho n}:xG2 it g tb F rho n=it rho n (xm6 g tb F rho):=rfl
def zO8{it:TID}{own:Nat}{g:TGD}{te:TD}{rho:Rho}{n:Nat}{P:D->Nat->Prop}{α:Type}(enc:α->D)(f:α->D)(xs:List α)
  (hi:∀R,R (xs.map enc) n->it rho n R) (hz:xs.length<=sizeLine) (he:∀x∈xs,∀Q,Q (f x) n->g (enc x) (replicate own none++rho) λrho'=>rho'.drop own=rho/\te rho' n Q) (O:P (.lst (xs.map f)) n):zl2 it own g xd7 te rho n P:=by
 refine hi _ ⟨by simpa using hz,λi acc n'=>n'=n/\acc=(xs.take i).map f,⟨rfl,rfl⟩,?_,?_⟩
 ·rintro i d acc n' e ⟨rfl, rfl⟩;rw[zw] at e
  cases q:xs[i]? with
  |none=>rw[q] at e;cases e
  |some x=>
   rw[q] at e;cases e;have L:x∈xs:=zM q;refine he x L (λe J=>J=n'/\(xs.take i).map f++[e]=(xs.take (i+1)).map f) ⟨rfl,?_⟩;rw[xm,q];simp
 ·rintro acc n' ⟨rfl,rfl⟩;rw[zg,xY];exact O
def zD8{α:Type}{xs:List α}{i:Int}(h0:0<=i)(h1:i<xs.length):∃d,atI xs i=some d/\d∈xs:=by
 obtain⟨k,rfl⟩:=xz h0
 have hk:k<xs.length:=q5
 exact⟨xs[k],qo (by simp[hk]),wm hk⟩
@[simp] theorem xR3{α:Type}{a:α}{l:List α}:atI (a::l) 0=some a:=qo (j:=0) rfl
@[simp] theorem xR2{α:Type}{a b:α}{l:List α}:atI (a::b::l) 1=some b:=qo (j:=1) rfl
@[simp] theorem xR1{α:Type}{a b c:α}{l:List α}:atI (a::b::c::l) 2=some c:=qo (j:=2) rfl
@[simp] theorem xz5{es p}:zt2 (some (some (.own es))) p↔p es:=⟨fun⟨_,e,h⟩=>by cases e;exact h,λh=>⟨_,rfl,h⟩⟩
@[simp] theorem xt6{i tb rho n P}:zS6 i tb rho n P=zt2 rho[i]? λes=>tb rho n λd J=>∃j c,d=.int j/\atI es j=some c/\P c J:=rfl
@[simp] theorem xI4:ixN 3 0=some 0:=rfl
@[simp] theorem xI3:ixN 3 1=some 1:=rfl
@[simp] theorem xI2:ixN 3 2=some 2:=rfl
def zP2(H:Hp):Prop:=∀b,H b=none\/(∃o xs,H b=some (.frz o (.lst xs)))\/∃q,H b=some (.cot q)
def Kj(K:W.Frag):Sp:=λvs H Q _=>∃(a:Addr) (ns:List Int),vs=[.ref a]/\zP2 H/\SqL K H a (ns.map V.int)/\ns.length<=63/\(∀P q,qa K P q->H P=some (.cot q))/\∀H',(∀P q,H P=some (.cot q)->H' P=some (.cot q))->Q (.bl true) H'
def wD(ns:List Int):D:=.fz (ns.map D.int)
def vU(ns:List Int)(N:Nat):Rho:=some (wD ns)::replicate (N-1) none
def Vj(ns:List Int)(i N:Nat):Rho:=(vU ns N).set i (some .st)
theorem ZS{K:W.Frag}{G:QqE}{Z:QqA}{H:Hp}:∀{ns:List Int},Reps K G Z H (ns.map D.int) (ns.map V.int)
 |[]=>.nil
 |n::ns=>.cons (Rep.ofS (d:=.int n) rfl) ZS
theorem qG{K:W.Frag}{G:QqE}{Z:QqA}{H:Hp}:∀{ns:List Int}{xs:List V},Reps K G Z H (ns.map D.int) xs->xs=ns.map V.int
 |[],xs,h=>by unfold Reps at h;exact h
 |n::ns,xs,h=>by
  obtain⟨v,r,rfl,h1,J⟩:=Reps.split h;rw[h1.int_inv,qG J];rfl
section
variable {P:Program}{w:World}{K:W.Frag}{mg:QqM}{base:Heap}
def Fun.okLaw{x J:Str}{st:Stmt}{f:Addr}{fd:FuncData}{N:List Str}{p:Str}{k:Nat}{t:TSD}(F:Fun K x J st f fd)(S:FnScope N [p] (zW st))(n0:Nat)
  (body : ∀ (L : Value) (O : Around) (outer : List Env) (s : Shared) (H : Hp) (E : XK), Room k (O.deeper (envOfC J (zW st) s.heap.objs.size f L)) ->
   zm2 ⟨K,none,λ_=>False,H⟩ (zF1 CX0 P w K mg base N J (zW st) f L O outer s H E).nox (vC st) t)
  (h1:∀(ns:List Int),ns.length<=63->t { nx:=λ_ _=>False,rt:=λd _=>d=.bl true } (startD N [wD ns]) n0):FnOk P w K mg base CX0 (k+1) f fd [p] (Kj K):=by
 exists (by
   refine F.ok S (λvs H Q E h=>?_) (λL O outer s H vs Q E hr h=>?_)
   ·obtain⟨a,ns,rfl,_⟩:=h;rfl
   ·obtain ⟨a, ns, rfl, hO, hS, hl, hT, k⟩ := h;refine⟨_,body L O outer s H E hr,?_⟩
    have rs:Reps K none (λ_=>False) H [wD ns] [.ref a]:=by
     refine .cons ?_ .nil;unfold wD Rep;refine⟨a,ns.map V.int,rfl,?_,ZS⟩
     rcases hS with (q |⟨o,q⟩) |q
     ·rcases hO a with z | ⟨o, xs, z⟩ | ⟨o, z⟩
      ·rw[z] at q;cases q
      ·rw[z] at q;cases q
      ·rw[z] at q;cases q
     ·exact .inl ⟨λz=>z,o,q⟩
     ·exact .inr (.inr q)
    refine⟨startD N [wD ns],n0,_,[],[],⟨[],jD rs (λb e=>by cases e) (λb e=>by cases e) ⟨λb e=>e.elim,λP q t=>⟨hT P q t,by simp⟩⟩⟩,h1 ns hl,?_⟩
    refine⟨λ_ _ _ _ _ q=>q.elim,λd n v Y sg2 H2 ⟨aa,I2⟩ q=>?_,λ_ _ _ _ _ q=>q.elim,λ_ _ _ _ _ q=>q.elim⟩;subst q;rw[I2.pop.2.bl_inv]
    exact k H2 λP q e=>I2.fr P _ (by simp) e)
end
def xG1(i:Nat)(t:TF)(t1:TAD)(t2:TSD):TSD:=λF rho n=>∃ns:List Int,i<rho.length/\i≠0/\rho[0]?=some (some (wD ns))/\t1 rho n λes L=>∃j:Int,es=[wD ns,.int j]/\L=n/\t es n λd O=>∃J:List Int,d=.lst (J.map D.int)/\J.length=n/\(∀x∈J,0<=x)/\(∀x,J[1]?=some x->x<2147483647) /\
 t2 { nx:=λrho' n'=>n'=n/\rho'.length=rho.length/\rho'[0]?=some (some (wD ns))/\F.nx (vU ns rho.length) n,rt:=λd n'=>n'=n/\kM d=true/\F.rt d n,bk:=λrho' n'=>n'=n/\rho'.length=rho.length/\rho'[0]?=some (some (wD ns))/\F.bk (vU ns rho.length) n,ct:=λrho' n'=>n'=n/\rho'.length=rho.length/\rho'[0]?=some (some (wD ns))/\F.ct (vU ns rho.length) n } (Vj ns i rho.length) n
@[simp] theorem xe3:xG (wD ns)=true:=rfl
@[simp] theorem zV9:zM7 [wD ns] k↔k (.int ns.length):=by unfold wD;simp
def zv4{i:Nat}{n:Nat}(ns:List Int)(hi:i<rho.length)(h0:i≠0)(hr:rho[0]?=some (some (wD ns)))(j:Int)(ht:t1 rho n λes J=>es=[wD ns,.int j]/\J=n)
  (O:∀(P P':List D->Nat->Prop),(∀es J,P es J->P' es J)->t1 rho n P->t1 rho n P')
  (h : t [wD ns, .int j] n λd n2 => ∃ L : List Int, d = .lst (L.map D.int) /\ L.length = n /\ (∀ x ∈ L, 0 <= x) /\ (∀ x, L[1]? = some x -> x < 2147483647) /\
   t2 { nx:=λrho' n'=>n'=n/\rho'.length=rho.length/\rho'[0]?=some (some (wD ns))/\F.nx (vU ns rho.length) n,rt:=λd n'=>n'=n/\kM d=true/\F.rt d n,bk:=λrho' n'=>n'=n/\rho'.length=rho.length/\rho'[0]?=some (some (wD ns))/\F.bk (vU ns rho.length) n,ct:=λrho' n'=>n'=n/\rho'.length=rho.length/\rho'[0]?=some (some (wD ns))/\F.ct (vU ns rho.length) n } (Vj ns i rho.length) n):xG1 i t t1 t2 F rho n:=
 ⟨ns,hi,h0,hr,O _ _ (λes J ⟨Y,e2⟩=>⟨j,Y,e2,by rw[Y];exact h⟩) ht⟩
section
variable {A:AC}{X:Cx}{e:Expr}{es:List Expr}{t1:TAD}{t2:TSD}{pos p:Pos}
def Yv{K:W.Frag}{G G':QqE}{Z Z':QqA}{H H':Hp}{ns:List Int}{v:V}(h:Rep K G Z H (wD ns) v)(hz:∀a o u,¬ Z a->H a=some (.frz o u)->¬ Z' a/\H' a=some (.frz o u)):Rep K G' Z' H' (wD ns) v:=by
 unfold wD Rep at h ⊢;obtain⟨a,xs,rfl,sq,rs⟩:=h
 refine⟨a,xs,rfl,?_,by rw[qG rs];exact ZS⟩
 rcases sq with ⟨J,o,e⟩ |sq
 ·obtain⟨z1,z2⟩:=hz a o _ J e;exact .inl ⟨z1,o,z2⟩
 ·exact .inr sq
def zI0{x g:Str}{i:Nat}{t:TF}{kk:Nat}{pos' spos:Pos}{rest:List Stmt}(hG:A.G=none)(hN:X.N.Nodup)(hi:X.N[i]?=some x)(hx:Loc X.env.scope x)(F:Fn X.prog X.w X.K X.mg X.base g kk 2 t)(hr:Room kk X.A)(hK:X.K=A.K)
  (ha:PAD A X (e::es) t1) (h2:∀(c:Addr) (Z:QqA) (H0:Hp),zm2 ⟨A.K,some c,Z,H0⟩ X rest t2) (hg:Gl X g:=by rfl) (ap:(g == ("__debug__" : Str))=false:=by decide) (he:starEach (e::es) X.env=(false,eval e X.env)::starEach es X.env:=by rfl) (ak:(backTo pos (starEach es X.env)).any (·.1)=false:=by rfl)
  (hs:swapsWith (.Call (.Name g p) (e::es) [] pos) (some (.Name x pos')) spos.line X.env=pure false:=by rfl) (hf:X.fn x=true\/X.env.scope.names.lookup x=some .local:=by first |exact .inl rfl |exact .inr rfl |assumption) :
  zm2 A X (.Assign [.Name x pos'] (.Call (.Name g p) (e::es) [] pos) spos::rest) (xG1 i t t1 t2):=by
 exists (by
   obtain⟨f,fd,ps,f1,f2,f3,f4⟩:=F.ex;have c1:=zc9 (pos:=spos) hN hi hx (Ul (p:=p) f1 hr hg f2 f3 f4 .nil zJ9 ha ap he ak) hs hf
   have c2:PSs X rest (λE' sg' H'=>∃c Z H0,sOf ⟨A.K,some c,Z,H0⟩ t2 E' sg' H'):=λpins s' sg' H' D I q=>by
    obtain⟨c,Z,H0,q⟩:=q;exact h2 c Z H0 pins s' sg' H' D I q
   refine(Uj c1 c2).imp λE sg H h=>?_;obtain⟨rho,n,F,ds,vs,I,⟨ns,hi',h0,aj,ht⟩,ok⟩:=h;refine⟨rho,n,_,ds,vs,I,ht,λws H' n' es' ⟨os',J⟩ hl k=>?_⟩;obtain⟨j,rfl,rfl,k⟩:=k;obtain⟨J1,rs⟩:=J.split hl;obtain⟨v1,v2,rfl,r1,r2⟩:=Ku rs;have r1':Rep A.K none (λa=>Hot (H' a)/\¬ ∃o u,H' a=some (.frz o u)) H' (wD ns) v1:=Yv r1 λa o u _ e=>⟨λz=>z.2 ⟨o,u,e⟩,e⟩
   have r2':Rep A.K none (λa=>Hot (H' a)/\¬ ∃o u,H' a=some (.frz o u)) H' (.int j) v2:=by rw[r2.int_inv];exact Rep.ofS (d:=.int j) rfl
   rw[yh,hK]
   refine⟨none,λa=>Hot (H' a)/\¬ ∃o u,H' a=some (.frz o u),n',_,_,rfl,.cons r1' (.cons r2' .nil),λb e=>(by cases e),λb e=>(by cases e),⟨λb z=>z.1,λP q t=>⟨(J1.zO.2 P q t).1,by simp⟩⟩,k,λv H2 n2 d fr st r q=>?_⟩
   obtain⟨zs,rfl,q1,q2,q3,q⟩:=q;obtain⟨c,xs,rfl,sq,rr⟩:=r.lst_inv;rw[qG rr] at sq
   have hc:H' c=none:=by
    cases z:H' c with
    |none=>rfl
    |some o=>
     have z2:=fr c o (by simp) z
     rw[sq.2] at z2;cases z2
     exact absurd ⟨by rw[z];exact Hot.lst,fun⟨o,u,z3⟩=>by rw[z] at z3;cases z3⟩ sq.1
   have ne:∀{a:Addr}{o:HO},H' a=some o->a≠c:=λ{a o} e h=>by rw[h,hc] at e;cases e
   have back:∀{os:List (Nat × Addr)}{rho' O:Rho}{sg':St}{Y:Hp}{af:List D}{aa:List V},AmO ⟨A.K,some c,λb=>Zof A os' b\/b=c,H2⟩ os n' rho' sg' Y af aa->O.length=sg'.length->(∀j d,O[j]?=some (some d)->∃v,sg'[j]?=some (some v)/\Rep A.K A.G (Zof A []) Y d v)->AmO A [] n' O sg' Y ds vs:=λ{os rho' O sg' Y af aa} L am ai=>by
    have keep:∀a o,H' a=some o->Y a=some o:=λa o e=>L.fr a o (λz=>ne e (zP z).symm) (fr a o (by simp) e)
    refine⟨am,λj d e=>?_,?_,.nil,λp hp=>(by simp at hp),λb e=>(by rw[hG] at e;cases e),J1.gz,λa o z e=>keep a o (J1.fr a o z e),J1.z0⟩
    ·obtain⟨v,e1,e2⟩:=ai j d e;exact⟨v,e1,SlotR.of e2⟩
    ·refine Reps.mono (λa _ z => ?_) (λa o _ e => keep a o e) _ _ J1.pend
     rcases z with z |⟨p,hp,_⟩
     ·exact .inl z
     ·simp at hp
   have ag:∀{os:List (Nat × Addr)}{rho':Rho}{sg':St}{Y:Hp}{af:List D}{aa:List V},AmO ⟨A.K,some c,λb=>Zof A os' b\/b=c,H2⟩ os n' rho' sg' Y af aa->rho'[0]?=some (some (wD ns))->rho.length=sg'.length->AmO A [] n' (vU ns rho.length) sg' Y ds vs:=λ{os rho' sg' Y af aa} L e0 al=>by
    refine back L (by rw[<- al];simp[vU];lia) λj d e=>?_
    unfold vU at e
    cases j with
    |zero=>
     cases e;obtain⟨v,e1,e2⟩:=L.slot 0 _ e0;have e3:=SlotR.rep (d:=wD ns) rfl e2;refine⟨v,e1,Yv e3 λa o u nz e=>⟨λz=>nz ?_,e⟩⟩
     rcases z with z |⟨p,hp,_⟩
     ·exact .inl (.inl (.inl z))
     ·simp at hp
    |succ j=>
     rw[List.getElem?_cons_succ,xt] at e
     split at e<;>cases e
   have ao:rho.length=sg.length:=J1.len;refine⟨c,λb=>Zof A os' b\/b=c,H2,Vj ns i rho.length,n',_,[],[],⟨[],?_⟩,q,?_⟩
   ·refine ⟨by simp [Vj, vU, ao]; lia, λj d e => ?_, .nil, .nil, λp hp => by simp at hp, λb e => ?_, λb e => ?_, λb o _ e => e, ?_⟩
    ·unfold Vj at e
     by_cases hj:j=i
     ·subst hj
      rw[zU (by simp[vU];lia)] at e
      cases e
      exact⟨.ref c,zU q5,SlotR.of (by unfold Rep;exact⟨c,rfl,rfl⟩)⟩
     ·rw [xg (Ne.symm hj)] at e;unfold vU at e
      cases j with
      |zero=>
       cases e;obtain⟨v,e1,e2⟩:=J1.slot 0 _ aj;have e3:=SlotR.rep (d:=wD ns) rfl e2
       refine⟨v,by rw[xg h0];exact e1,SlotR.of (Yv e3 λa o u nz e=>⟨λz=>?_,fr a _ (by simp) e⟩)⟩
       rcases z with (z |z) |⟨p,hp,_⟩
       ·exact nz z
       ·exact ne e z
       ·simp at hp
      |succ j=>
       rw[List.getElem?_cons_succ,xt] at e
       split at e<;>cases e
    ·cases e;exact⟨zs,0,0,sq.2,q1,q2,q3⟩
    ·exact .inr (zP e).symm
    ·refine ⟨λb e => ?_, λP q t => ⟨fr P _ (by simp) (J1.zO.2 P q t).1, λz => ne (J1.zO.2 P q t).1 (zP z).symm⟩⟩
     rcases e with e |e
     ·exact(J1.zHot b e).of λo z=>fr b o (by simp) z
     ·show Hot (H2 b);rw[e,sq.2];exact Hot.lst
   ·refine ⟨λae n3 ad Y ⟨ah, L⟩ q => ?_, λd n3 v ae ad Y ⟨ah, L⟩ q => ?_, λae n3 ad Y ⟨ah, L⟩ q => ?_, λae n3 ad Y ⟨ah, L⟩ q => ?_⟩
    ·obtain ⟨rfl, l3, e3, q⟩ := q
     exact ok.nx _ _ _ _ ⟨[],ag L e3 (by rw[<- l3];exact L.len)⟩ q
    ·obtain ⟨rfl, hd, q⟩ := q
     have I4:AmO A [] n3 (replicate ad.length none) ad Y ds vs:=back L (by simp) λj d e=>by
      rw[xt] at e
      split at e<;>cases e
     refine ok.rt _ _ _ _ _ _ ⟨[],I4.push ?_⟩ q;rw[L.pop.2.toS hd];exact Rep.ofS hd
    ·obtain ⟨rfl, l3, e3, q⟩ := q
     exact ok.bk _ _ _ _ ⟨[],ag L e3 (by rw[<- l3];exact L.len)⟩ q
    ·obtain ⟨rfl, l3, e3, q⟩ := q
     exact ok.ct _ _ _ _ ⟨[],ag L e3 (by rw[<- l3];exact L.len)⟩ q)
end
end L2
namespace L2
open PySem PySem.Spec PyProof.Rows PySem.SeqAt
mutual
def eqD:D->D->Bool
 |.non,.non=>true
 |.bl a,.bl b=>a == b
 |.bl a,.int i=>(if a then 1 else 0) == i
 |.int i,.bl a=>i == (if a then 1 else 0)
 |.int i,.int j=>i == j
 |.str x,.str y=>x == y
 |.tup xs,.tup ys=>ZB xs ys
 |.lst xs,.lst ys=>ZB xs ys
 |_,_=>false
def ZB:List D->List D->Bool
 |[],[]=>true
 |x::xs,y::ys=>eqD x y&&ZB xs ys
 |_,_=>false
end
mutual
def okE:D->Nat->Bool
 |.non,_=>true
 |.bl _,_=>true
 |.int _,_=>true
 |.str _,_=>true
 |.tup ds,k=>match k with
  |0=>false
  |k+1=>Vi ds k
 |.lst ds,k=>match k with
  |0=>false
  |k+1=>Vi ds k
 |_,_=>false
def Vi:List D->Nat->Bool
 |[],_=>true
 |d::ds,k=>okE d k&&Vi ds k
end
theorem ZX:∀{ds:List D}{k i:Nat}{d:D},Vi ds k=true->ds[i]?=some d->okE d k=true
 |[],k,i,d,_,e=>by simp at e
 |c::ds,k,0,d,h,e=>by
  simp at e;subst e;unfold Vi at h;rw[zG] at h;exact h.1
 |c::ds,k,i+1,d,h,e=>by
  unfold Vi at h;rw[zG] at h
  exact ZX (i:=i) h.2 (by simpa using e)
def eAt(xs ys:List D)(j:Nat):Bool:=match xs[j]?,ys[j]? with
 |some x,some y=>eqD x y
 |_,_=>true
def WI(n:Nat)(e:Nat->Bool):(List.range (n+1)).all e=(e 0&&(List.range n).all λj=>e (j+1)):=by
 rw[List.range_succ_eq_map,all_cons,List.all_map];rfl
theorem Xr:∀(xs ys:List D),((List.range (min xs.length ys.length)).all (eAt xs ys)&&xs.length == ys.length)=ZB xs ys
 |[],[]=>by unfold ZB;rfl
 |[],y::ys=>by unfold ZB;simp
 |x::xs,[]=>by unfold ZB;simp
 |x::xs,y::ys=>by
  have J:=Xr xs ys;unfold ZB;rw[<- J]
  have O:min (x::xs).length (y::ys).length=min xs.length ys.length+1:=by simp only[zJ];lia
  rw[O,WI]
  have L:((x::xs).length == (y::ys).length)=(xs.length == ys.length):=by simp
  rw[L,Bool.and_assoc];rfl
def Jo(h:xs.length=ys.length):(List.range xs.length).all (eAt xs ys)=ZB xs ys:=by
 rw[<- Xr,h];simp
def zN6(h:xs.length≠ys.length):ZB xs ys=false:=by
 rw[<- Xr];simp[h]
theorem zA3:∀{xs ys:List D},xs.length=ys.length->(∀(j:Nat) (x y:D),xs[j]?=some x->ys[j]?=some y->eqD x y=true)->ZB xs ys=true
 |[],[],_,_=>by unfold ZB;rfl
 |[],y::ys,h,_=>by simp at h
 |x::xs,[],h,_=>by simp at h
 |x::xs,y::ys,h,q=>by
  unfold ZB
  rw[q 0 x y rfl rfl,zA3 (by simpa using h) λj a b ha J=>q (j+1) a b (by simpa using ha) (by simpa using J)]
  rfl
def Reps.get2{K:W.Frag}{G:QqE}{Z:QqA}{H:Hp}{ds:List D}{vs:List V}{i:Nat}{d:D}{v:V}(h:Reps K G Z H ds vs)(e:ds[i]?=some d)(e':vs[i]?=some v):Rep K G Z H d v:=by
 obtain⟨u,h1,J⟩:=h.get e;rw[h1] at e';cases e';exact J
section
variable {X:Cx}{pins:QqL}{σ:St}{H:Hp}{s:Shared}{G:QqE}{Z:QqA}
def zc6(I:Inv X pins σ H s):∀(k:Nat) (d1 d2:D) (v:V),okE d1 k=true->okE d2 k=true->Rep X.K G Z H d1 v->Rep X.K G Z H d2 v->eqD d1 d2=true:=by
 intro k
 induction k with
 | zero =>
  intro d1 d2 v h1 Y O L
  cases d1<;>cases d2<;>first
   |(simp[okE] at h1;done) |(simp[okE] at Y;done)
   |(have e1:=O.toS rfl;have J:=L.toS rfl;rw[e1] at J;simp[ofS] at J;done)
   |(have e1:=O.toS rfl;have J:=L.toS rfl;rw[e1] at J;simp[ofS] at J;simp[eqD,J])
 | succ k ih =>
  have seq:∀{ds es:List D}{xs:List V},Vi ds k=true->Vi es k=true->Reps X.K G Z H ds xs->Reps X.K G Z H es xs->ZB ds es=true:=λ{ds es xs} h1 Y O L=>by
   refine zA3 (O.length.symm.trans L.length) λj x y hx hy=>?_;obtain⟨u,hu,ru⟩:=O.get hx;exact ih x y u (ZX h1 hx) (ZX Y hy) ru (L.get2 hy hu)
  intro d1 d2 v h1 Y O L
  cases d1<;>cases d2<;>try (first
   |(simp[okE] at h1;done) |(simp[okE] at Y;done)
   |(have e1:=O.toS rfl;have J:=L.toS rfl;rw[e1] at J;simp[ofS] at J;done)
   |(have e1:=O.toS rfl;have J:=L.toS rfl;rw[e1] at J;simp[ofS] at J;simp[eqD,J];done)
   |(obtain⟨a,xs,e,_⟩:=O.tup_inv;have J:=L.toS rfl;rw[e] at J;simp[ofS] at J;done)
   |(obtain⟨a,xs,e,_⟩:=O.lst_inv;have J:=L.toS rfl;rw[e] at J;simp[ofS] at J;done)
   |(obtain⟨a,xs,e,_⟩:=L.tup_inv;have J:=O.toS rfl;rw[e] at J;simp[ofS] at J;done)
   |(obtain⟨a,xs,e,_⟩:=L.lst_inv;have J:=O.toS rfl;rw[e] at J;simp[ofS] at J;done))
  ·rename_i ds es;obtain⟨a,xs,e,sq,rs⟩:=O.tup_inv;obtain⟨b,ys,e',sq',rs'⟩:=L.tup_inv;rw[e] at e';cases e';have:=I.tuple_inj sq.sq sq'.sq;subst this;unfold eqD
   exact seq (by simpa [okE] using h1) (by simpa [okE] using Y) rs rs'
  ·rename_i ds es;obtain⟨a,xs,e,sq,rs⟩:=O.tup_inv;obtain⟨b,ys,e',sq',rs'⟩:=L.lst_inv;rw[e] at e';cases e';obtain⟨its,rv,pl,hz⟩:=I.tuple sq.sq;obtain⟨its',rv',pl',hz'⟩:=I.list sq'.sq;exact absurd rfl (ne_of_list_tuple pl'.isList (show s.heap.IsTuple a its.toArray from pl))
  ·rename_i ds es;obtain⟨a,xs,e,sq,rs⟩:=O.lst_inv;obtain⟨b,ys,e',sq',rs'⟩:=L.tup_inv;rw[e] at e';cases e';obtain⟨its,rv,pl,hz⟩:=I.list sq.sq;obtain⟨its',rv',pl',hz'⟩:=I.tuple sq'.sq;exact absurd rfl (ne_of_list_tuple pl.isList (show s.heap.IsTuple a its'.toArray from pl'))
  ·rename_i ds es;obtain⟨a,xs,e,sq,rs⟩:=O.lst_inv;obtain⟨b,ys,e',sq',rs'⟩:=L.lst_inv;rw[e] at e';cases e';have:=I.list_inj sq.sq sq'.sq;subst this;unfold eqD
   exact seq (by simpa [okE] using h1) (by simpa [okE] using Y) rs rs'
def rcC{b c:Bool}(h:RcAt A s y x b)(e:b=c):RcAt A s y x c:=e ▸ h
def rnC{b c:Bool}(h:RcNeAt A s y x b)(e:b=c):RcNeAt A s y x c:=e ▸ h
def eqC{b c:Bool}(h:EqAt A s y x b)(e:b=c):EqAt A s y x c:=e ▸ h
def E3(A:Around)(s:Shared)(u1 u2:Value)(b:Bool):Prop:=EqAt A s u1 u2 b/\RcAt A s u1 u2 b/\RcNeAt A s u1 u2 (!b)
def E3.cast{b c:Bool}(h:E3 A s y x b)(e:b=c):E3 A s y x c:=e ▸ h
def zD5:D->D->Bool
 |.tup _,.tup _=>true
 |.lst _,.lst _=>true
 |_,_=>false
def ShE(s:Shared):D->Value->Prop
 |.non,u=>u=.none
 |.bl x,u=>u=.bool x
 |.int x,u=>∃t,u=.int x t
 |.str x,u=>∃t,u=.str x t
 |.tup _,u=>∃a its,u=.ref a/\s.heap.IsTuple a its
 |.lst _,u=>∃a its,u=.ref a/\s.heap.IsList a its
 |_,_=>False
def shE(I:Inv X pins σ H s){k:Nat}{d:D}{v:V}{u:Value}(h:okE d k=true)(r:Rep X.K G Z H d v)(q:RelV v u):ShE s d u:=by
 cases d with
 |non=>have:=r.toS rfl;subst this;exact q
 |bl x=>have:=r.toS rfl;subst this;exact q
 |int x=>have:=r.toS rfl;subst this;exact q
 |str x=>have:=r.toS rfl;subst this;exact q
 |tup x=>
  obtain⟨a,xs,w,sq,_⟩:=r.tup_inv;subst w;obtain⟨its,_,pl,_⟩:=I.tuple sq.sq;exact⟨a,its.toArray,q,pl⟩
 |lst x=>
  obtain⟨a,xs,w,sq,_⟩:=r.lst_inv;subst w;obtain⟨its,_,pl,_⟩:=I.list sq.sq;exact⟨a,its.toArray,q,pl.isList⟩
 |_=>simp[okE] at h
section
local macro_rules
 | `(tactic|nomatch $n:ident,$t,*)=>do
  let f:=fun(p:Lean.Name)=>Lean.mkIdent (p++n.getId)
  let t:=t.getElems
  `(tactic|exact E3.cast ⟨$(f `EqAt) $t*,$(f `RcAt) $t*,$(f `RcNeAt) $t*⟩ (by unfold eqD;rfl))
def zS2(I:Inv X pins σ H s){k:Nat}(h1:okE d1 k=true)(h2:okE d2 k=true)(r1:Rep X.K G Z H d1 v1)(r2:Rep X.K G Z H d2 v2)(q1:RelV v1 u1)(q2:RelV v2 u2)
  (hu:A.units<cLine) (hb:zD5 d1 d2=false):E3 A s u1 u2 (eqD d1 d2):=by
 have Y:=shE I h1 r1 q1;have J:=shE I h2 r2 q2;clear h1 h2 r1 r2 q1 q2
 cases d1 with
 |non=>
  cases Y
  cases d2 with
  |non=>cases J;exact E3.cast ⟨EqAt.same _,RcAt.none_none,RcNeAt.none_none⟩ (by unfold eqD;rfl)
  |bl=>cases J;nomatch none_bool,_
  |int=>obtain⟨_,rfl⟩:=J;nomatch none_int,_,_
  |str=>obtain⟨_,rfl⟩:=J;nomatch none_str,_,_
  |tup=>obtain⟨_,_,rfl,L⟩:=J;nomatch none_tuple,L,hu
  |lst=>obtain⟨_,_,rfl,L⟩:=J;nomatch none_list,L,hu
  |_=>exact J.elim
 |bl x1=>
  cases Y
  cases d2 with
  |non=>cases J;nomatch bool_none,_
  |bl=>cases J;nomatch bool_bool,_,_
  |int=>obtain⟨_,rfl⟩:=J;nomatch bool_int,_,_,_
  |str=>obtain⟨_,rfl⟩:=J;nomatch bool_str,_,_,_
  |tup=>obtain⟨_,_,rfl,L⟩:=J;nomatch bool_tuple,_,L,hu
  |lst=>obtain⟨_,_,rfl,L⟩:=J;nomatch bool_list,_,L,hu
  |_=>exact J.elim
 |int x1=>
  obtain⟨t1,rfl⟩:=Y
  cases d2 with
  |non=>cases J;nomatch int_none,_,_
  |bl=>cases J;nomatch int_bool,_,_,_
  |int=>obtain⟨_,rfl⟩:=J;nomatch int_int,_,_,_,_
  |str=>obtain⟨_,rfl⟩:=J;nomatch int_str,_,_,_,_
  |tup=>obtain⟨_,_,rfl,L⟩:=J;nomatch int_tuple,_,_,L,hu
  |lst=>obtain⟨_,_,rfl,L⟩:=J;nomatch int_list,_,_,L,hu
  |_=>exact J.elim
 |str x1=>
  obtain⟨t1,rfl⟩:=Y
  cases d2 with
  |non=>cases J;nomatch str_none,_,_
  |bl=>cases J;nomatch str_bool,_,_,_
  |int=>obtain⟨_,rfl⟩:=J;nomatch str_int,_,_,_,_
  |str=>obtain⟨_,rfl⟩:=J;nomatch str_str,_,_,_,_
  |tup=>obtain⟨_,_,rfl,L⟩:=J;nomatch str_tuple,_,_,L,hu
  |lst=>obtain⟨_,_,rfl,L⟩:=J;nomatch str_list,_,_,L,hu
  |_=>exact J.elim
 |tup x1=>
  obtain⟨a1,i1,rfl,O⟩:=Y
  cases d2 with
  |non=>cases J;nomatch tuple_none,O,hu
  |bl=>cases J;nomatch tuple_bool,_,O,hu
  |int=>obtain⟨_,rfl⟩:=J;nomatch tuple_int,_,_,O,hu
  |str=>obtain⟨_,rfl⟩:=J;nomatch tuple_str,_,_,O,hu
  |tup=>cases hb
  |lst=>obtain⟨_,_,rfl,L⟩:=J;nomatch tuple_list,O,L,hu
  |_=>exact J.elim
 |lst x1=>
  obtain⟨a1,i1,rfl,O⟩:=Y
  cases d2 with
  |non=>cases J;nomatch list_none,O,hu
  |bl=>cases J;nomatch list_bool,_,O,hu
  |int=>obtain⟨_,rfl⟩:=J;nomatch list_int,_,_,O,hu
  |str=>obtain⟨_,rfl⟩:=J;nomatch list_str,_,_,O,hu
  |tup=>obtain⟨_,_,rfl,L⟩:=J;nomatch list_tuple,O,L,hu
  |lst=>cases hb
  |_=>exact J.elim
 |_=>exact Y.elim
end
def Jm(I:Inv X pins σ H s):∀(k:Nat) (d1 d2:D) (v1 v2:V) (u1 u2:Value) (A:Around),okE d1 k=true->okE d2 k=true->Rep X.K G Z H d1 v1->Rep X.K G Z H d2 v2->RelV v1 u1->RelV v2 u2 ->
  A.units+k<cLine->E3 A s u1 u2 (eqD d1 d2):=by
 intro k
 induction k with
 |zero=>
  intro d1 d2 v1 v2 u1 u2 A h1 Y O L q1 q2 hu
  refine zS2 I h1 Y O L q1 q2 q5 ?_
  cases d1<;>first |rfl |(simp[okE] at h1;done)
 | succ k ih =>
  intro d1 d2 v1 v2 u1 u2 A h1 Y O L q1 q2 hu
  by_cases hb:zD5 d1 d2=false
  ·exact zS2 I h1 Y O L q1 q2 q5 hb
  have items:∀{ds es:List D}{xs ys:List V}{its its':QqW},Vi ds k=true->Vi es k=true->Reps X.K G Z H ds xs->Reps X.K G Z H es ys->Vals xs its->Vals ys its' ->
    ∀(j:Nat) (l1:j<its.toArray.size) (l2:j<its'.toArray.size),EqAt A.in1 s its.toArray[j] its'.toArray[j] (eAt ds es j):=λ{ds es xs ys its its'} h1 Y O L rv rv' j l1 l2=>by
   have l1':j<its.length:=by simpa using l1
   have l2':j<its'.length:=by simpa using l2
   have a1:j<ds.length:=by rw[<- O.length,rv.length];exact l1'
   have a2:j<es.length:=by rw[<- L.length,rv'.length];exact l2'
   have g1:ds[j]?=some ds[j]:=ze a1;have g2:es[j]?=some es[j]:=ze a2;obtain⟨w1,e1,p1⟩:=O.get g1;obtain⟨w2,e2,p2⟩:=L.get g2;obtain⟨z1,f1,t1⟩:=rv.get e1;obtain⟨z2,f2,t2⟩:=rv'.get e2
   have m1:its.toArray[j]=z1:=by
    have:its[j]?=some its[j]:=ze l1';rw[f1] at this
    simpa using (zP this).symm
   have m2:its'.toArray[j]=z2:=by
    have:its'[j]?=some its'[j]:=ze l2';rw[f2] at this
    simpa using (zP this).symm
   have e3:eAt ds es j=eqD ds[j] es[j]:=by unfold eAt;rw[g1,g2]
   rw[m1,m2,e3]
   exact(ih _ _ _ _ _ _ A.in1 (ZX h1 g1) (ZX Y g2) p1 p2 t1 t2 (by show A.units+1+k<cLine;lia)).1
  cases d1 with
  | tup ds =>
   cases d2 with
   | tup es =>
    have s1:=O;have s2:=L;obtain⟨a,xs,e,sq,rs⟩:=O.tup_inv;obtain⟨b,ys,e',sq',rs'⟩:=L.tup_inv;subst e e';have c1:u1=.ref a:=q1;have c2:u2=.ref b:=q2;subst c1 c2;obtain⟨its,rv,pl,hz⟩:=I.tuple sq.sq;obtain⟨its',rv',pl',hz'⟩:=I.tuple sq'.sq
    have it:=items (by simpa [okE] using h1) (by simpa [okE] using Y) rs rs' rv rv'
    have n1:its.toArray.size=ds.length:=by rw[<- rs.length,rv.length];simp
    have n2:its'.toArray.size=es.length:=by rw[<- rs'.length,rv'.length];simp
    have ev:((List.range (min its.toArray.size its'.toArray.size)).all (eAt ds es)&&its.toArray.size == its'.toArray.size)=eqD (.tup ds) (.tup es):=by
     rw[n1,n2,Xr];unfold eqD;rfl
    have R:=rcC (RcAt.tuples (A:=A) (show s.heap.IsTuple a its.toArray from pl) (show s.heap.IsTuple b its'.toArray from pl') q5 it) ev
    have N:=rnC (RcNeAt.tuples (A:=A) (show s.heap.IsTuple a its.toArray from pl) (show s.heap.IsTuple b its'.toArray from pl') q5 it) (congrArg (!·) ev)
    refine⟨?_,R,N⟩
    by_cases J:a=b
    ·subst J;exact eqC (EqAt.same _) (zc6 I (k+1) _ _ _ h1 Y s1 s2).symm
    ·exact .of_refs J R
   |_=>exact absurd rfl hb
  | lst ds =>
   cases d2 with
   | lst es =>
    have s1:=O;have s2:=L;obtain⟨a,xs,e,sq,rs⟩:=O.lst_inv;obtain⟨b,ys,e',sq',rs'⟩:=L.lst_inv;subst e e';have c1:u1=.ref a:=q1;have c2:u2=.ref b:=q2;subst c1 c2;obtain⟨its,rv,pl,hz⟩:=I.list sq.sq;obtain⟨its',rv',pl',hz'⟩:=I.list sq'.sq
    have it:=items (by simpa [okE] using h1) (by simpa [okE] using Y) rs rs' rv rv'
    have n1:its.toArray.size=ds.length:=by rw[<- rs.length,rv.length];simp
    have n2:its'.toArray.size=es.length:=by rw[<- rs'.length,rv'.length];simp
    have R:RcAt A s (.ref a) (.ref b) (eqD (.lst ds) (.lst es))/\RcNeAt A s (.ref a) (.ref b) (!eqD (.lst ds) (.lst es)):=by
     by_cases hl:ds.length=es.length
     ·have ev : (List.range its.toArray.size).all (eAt ds es) = eqD (.lst ds) (.lst es) := by rw [n1, Jo hl]; unfold eqD; rfl
      exact⟨rcC (RcAt.lists (A:=A) pl.isList pl'.isList (by rw[n1,n2,hl]) q5 it) ev,rnC (RcNeAt.lists (A:=A) pl.isList pl'.isList (by rw[n1,n2,hl]) q5 it) (congrArg (!·) ev)⟩
     ·have ev : false = eqD (.lst ds) (.lst es) := by unfold eqD; exact (zN6 hl).symm
      have hs:(its.toArray.size != its'.toArray.size)=true:=by rw[n1,n2];simpa using hl
      exact⟨rcC (RcAt.lists_lengths (A:=A) pl.isList pl'.isList hs q5) ev,rnC (RcNeAt.lists_lengths (A:=A) pl.isList pl'.isList hs q5) (congrArg (!·) ev)⟩
    refine⟨?_,R⟩
    by_cases J:a=b
    ·subst J;exact eqC (EqAt.same _) (zc6 I (k+1) _ _ _ h1 Y s1 s2).symm
    ·exact .of_refs J R.1
   |_=>exact absurd rfl hb
  |_=>exact absurd rfl hb
def EqV(X:Cx)(H:Hp)(x y:V)(b:Bool):Prop:=∀pins s σ v u,Inv X pins σ H s->RelV x v->RelV y u->∀A:Around,A.units+60<cLine->E3 A s v u b
def xG9(X:Cx):R2:=λx y H Q=>∃b,EqV X H x y b/\Q (.bl b) H
def xw8(X:Cx):R2:=λx y H Q=>∃b,EqV X H x y b/\Q (.bl (!b)) H
def zd6{n:Nat}(O:Room n X.A):OpR X (compareOp .Eq) (xG9 X):=by
 intro pins s σ H x y v u Q I L J h;obtain⟨b,e,q⟩:=h
 exact(e pins s σ v u I L J X.A (by have:=O.units;lia)).2.1 X.prog X.w X.xe _ ⟨.bl b,H,I,rfl,q⟩
def zR4{n:Nat}(O:Room n X.A):OpR X (compareOp .NotEq) (xw8 X):=by
 intro pins s σ H x y v u Q I L J h;obtain⟨b,e,q⟩:=h
 exact(e pins s σ v u I L J X.A (by have:=O.units;lia)).2.2 X.prog X.w X.xe _ ⟨.bl (!b),H,I,rfl,q⟩
def xh4:RD2:=λd1 d2 k=>okE d1 20=true/\okE d2 20=true/\k (.bl (eqD d1 d2))
def zc8(hK:X.K=A.K):kr A (xG9 X) xh4:=by
 rintro os n rho sg H ds vs d1 d2 v1 v2 k Q I ⟨h1,h2,q⟩ hQ;obtain⟨I1,L⟩:=I.pop;obtain⟨I2,O⟩:=I1.pop;rw[<- hK] at O L
 exact⟨eqD d1 d2,λpins s σ v u J rx Y B hu=>Jm J 20 d1 d2 v1 v2 v u B h1 h2 O L rx Y q5,hQ _ H _ ⟨os,I2.push (Rep.ofS rfl)⟩ q⟩
@[simp] theorem xz2{d1 d2 k}:xh4 d1 d2 k=(okE d1 20=true/\okE d2 20=true/\k (.bl (eqD d1 d2))):=rfl
end
end L2
namespace L2
section
variable {A:AC}{X:Cx}{e a b:Expr}{es:List Expr}{te ta tb:TD}{t1:TAD}{pos p:Pos}
def zB2(i:Nat):TD:=λrho n P=>zt2 rho[i]? λes=>P (.int es.length) n
@[simp] theorem xi0{i rho n P}:zB2 i rho n P=zt2 rho[i]? λes=>P (.int es.length) n:=rfl
def ZV{i:Nat}(Y:X.mg "len" = none)(hK:X.K=A.K)(hN:X.N[i]?=some x:=by rfl)(O:Vis X.env.scope x:=by first |exact Or.inl rfl |exact Or.inr (Or.inl rfl) |exact Or.inr (Or.inr rfl))(hd:(x == ("__debug__" : Str))=false:=by decide)
  (L:(x == ("__classdict__" : Str))=false:=by decide) (hg:Gl X "len" := by rfl)
  (he:starEach [.Name x px] X.env=(false,eval (.Name x px) X.env)::starEach [] X.env:=by rfl) (J:(backTo pos (starEach [] X.env)).any (·.1)=false:=by rfl):PD A X (.Call (.Name "len" p) [.Name x px] [] pos) (zB2 i):=by
 exists 
   (Uk wE hg Y vZ (qh (qp hN O hd L) jZ he) q9 q9 he J).imp λsg H Q h => by
    obtain⟨rho,n,P,ds,vs,⟨os,I⟩,⟨es,hi,k⟩,hQ⟩:=h;obtain⟨a,xs,e1,hH,rs,_⟩:=I.own (es':=es) (xs':=[]) hi
    exact⟨.ref a,e1,a,xs,rfl,.inl (SqL.of hH),by rw[rs.length];exact hQ _ H n _ ⟨os,I.push (Rep.ofS (d:=.int es.length) rfl)⟩ k⟩
def xe4(K:W.Frag)(mg:QqM)(x:Str)(d:D):Prop:=∃v u,mg x=some u/\RelV v u/\∀G Z H,Rep K G Z H d v
def zs9(h:xe4 X.K X.mg x d)(Y:X.K=A.K)(hg:Gl X x:=by rfl)(hd:(x == ("__debug__" : Str))=false:=by decide):PD A X (.Name x pos) (dC d):=by
 exists (by
   obtain⟨v,u,L,r,J⟩:=h;refine(zX2 hg L r hd).imp λsg H Q q=>?_;obtain⟨rho,n,P,ds,vs,⟨os,I⟩,q,O⟩:=q
   exact O v H n d ⟨os,I.push (by rw[<- Y];exact J _ _ _)⟩ q)
def zN3{K:W.Frag}{mg:QqM}{x:Str}{a:Addr}{o:Obj}{its:Array Value}{n:Nat}{ds:List D}{xs:List V}(L:mg x=some (.ref a))(hk:K.lookup a=some o)(O:o.cls=.type "tuple")(hd:o.data=.seq its n)(hz:its.size<=sizeLine)(J:Vals xs its.toList)
  (hs:∀G Z H,Reps K G Z H ds xs):xe4 K mg x (.tup ds):=⟨.ref a,.ref a,L,rfl,λG Z H=>.tup_mk (.inr (.inr ⟨o,its,n,hk,O,hd,hz,J⟩)) (hs G Z H)⟩
def FnOk.botK{P:Program}{w:World}{K:W.Frag}{mg:QqM}{base:Heap}{f:Addr}{fd:FuncData}{ps:List Str}{k L:Nat}{t:TF}(ht:∀ds n Q,¬ t ds n Q):FnOk P w K mg base CX0 L f fd ps (spD K k t):=by
 refine⟨λvs H Q E h=>?_,λA outer s H args us vs Q E _ _ _ _ h=>?_⟩
 ·obtain⟨G,Z,n,R,ds,O,rs,J,gz,z0,h,_⟩:=h;exact(ht _ _ _ h).elim
 ·obtain⟨G,Z,n,R,ds,O,rs,J,gz,z0,h,_⟩:=h;exact(ht _ _ _ h).elim
end
def yN{own:Nat}{g:TGD}{te:TD}{rho:Rho}{n:Nat}{P:D->Nat->Prop}{α:Type}(enc:α->D)(f:α->D)(xs:List α)
  (hz:xs.length<=sizeLine) (he:∀x∈xs,∀Q,Q (f x) n->g (enc x) (replicate own none++rho) λrho'=>rho'.drop own=rho/\te rho' n Q) (J:P (.lst (xs.map f)) n):Jx own g xd7 te rho P (xs.map enc) n:=
 zO8 (it:=λ_ n R=>R (xs.map enc) n) (rho:=rho) enc f xs (λR h=>h) hz he J
@[simp] theorem xy8{k}:zV5 (.str i) (.str j) k↔k (.bl (decide (i=j))):=by
 have e:decide (ofS (.str i)=ofS (.str j))=decide (i=j):=by simp[ofS]
 unfold zV5;rw[e];exact⟨λh=>h.2.2.2,λh=>⟨rfl,rfl,rfl,h⟩⟩
theorem Us:∀{ds:List D}{k:Nat},Vi ds k=true↔∀d∈ds,okE d k=true
 |[],k=>by unfold Vi;simp
 |c::ds,k=>by
  unfold Vi;rw[zG,Us];simp
def qi{k:Nat}:okE (.tup ds) (k+1)=true↔∀d∈ds,okE d k=true:=by
 have e:okE (.tup ds) (k+1)=Vi ds k:=by rw[okE]
 rw[e,Us]
mutual
theorem UJ:∀{d:D}{k:Nat},okE d k=true->eqD d d=true
 |.non,k,_=>by simp[eqD]
 |.bl b,k,_=>by simp[eqD]
 |.int b,k,_=>by simp[eqD]
 |.str b,k,_=>by simp[eqD]
 |.tup ds,0,h=>by simp[okE] at h
 |.tup ds,k+1,h=>by unfold eqD;unfold okE at h;exact Wt h
 |.lst ds,0,h=>by simp[okE] at h
 |.lst ds,k+1,h=>by unfold eqD;unfold okE at h;exact Wt h
 |.ty _,k,h=>by simp[okE] at h
 |.fz _,k,h=>by simp[okE] at h
 |.st,k,h=>by simp[okE] at h
 |.own _,k,h=>by simp[okE] at h
 |.owT _ _,k,h=>by simp[okE] at h
 |.prT _,k,h=>by simp[okE] at h
theorem Wt:∀{ds:List D}{k:Nat},Vi ds k=true->ZB ds ds=true
 |[],k,_=>by simp[ZB]
 |d::ds,k,h=>by
  unfold Vi at h;rw[zG] at h;unfold ZB;rw[UJ h.1,Wt h.2];rfl
end
def xa9(es:List D)(k:List D->Prop):Prop:=∃d1 d2 L xs J ys,es=[d1,d2]/\XC d1=some (L,xs)/\XC d2=some (J,ys)/\k (Kb xs ys)
@[simp] theorem xA6{rho n P}:xo3 t rho n P↔t rho n λes J=>xa9 es λl=>P l J:=Iff.rfl
def YQ{b1 Y xs ys}(h1:XC d1=some (b1,xs))(J:XC d2=some (Y,ys)):xa9 [d1,d2] k↔k (Kb xs ys):=by
 constructor
 ·rintro⟨_,_,_,_,_,_,e,O,L,h⟩;cases e;rw[h1] at O;rw[J] at L;cases O;cases L;exact h
 ·intro h;exact⟨_,_,_,_,_,_,rfl,h1,J,h⟩
@[simp] theorem xs4{xs ys}:xa9 [.tup xs,.tup ys] k↔k (Kb xs ys):=YQ rfl rfl
@[simp] theorem xs5{xs ys}:xa9 [.tup xs,.lst ys] k↔k (Kb xs ys):=YQ rfl rfl
@[simp] theorem xs6{xs ys}:xa9 [.lst xs,.tup ys] k↔k (Kb xs ys):=YQ rfl rfl
@[simp] theorem xs7{xs ys}:xa9 [.lst xs,.lst ys] k↔k (Kb xs ys):=YQ rfl rfl
def zz4{K:W.Frag}{mg:QqM}{x:Str}{a:Addr}{L:QqE}{n:Nat}{i j:Int}{t u:Tok}{J}(O:mg x=some (.ref a))(hk:K.lookup a=some ⟨.type "tuple",L,.seq #[.int i t,.int j u] n,J⟩):xe4 K mg x (.tup [.int i,.int j]):=
 zN3 (xs:=[.int i,.int j]) O hk rfl rfl (by simp[sizeLine]) (.cons ⟨_,rfl⟩ (.cons ⟨_,rfl⟩ .nil)) λG Z H=>by
  exact .cons (.ofS (d:=.int i) rfl) (.cons (.ofS (d:=.int j) rfl) .nil)
theorem WB(f:Nat->Int)(bt:Nat->Nat->Bool)(h:∀i j,bt i j=true↔f j<f i):∀k,argBest bt k<=k/\∀i,i<=k->f i<=f (argBest bt k)
 |0=>⟨zo _,λi hi=>by cases Nat.le_zero.mp hi;exact yS _⟩
 | k + 1 => by
  obtain⟨h1,L⟩:=WB f bt h k;rw[argBest.eq_2]
  by_cases J:bt (k+1) (argBest bt k)=true
  ·rw [if_pos J];have hb':=(h _ _).mp J;refine⟨zo _,λi hi=>?_⟩
   by_cases e:i=k+1
   ·subst e;exact yS _
   ·have:=L i q5;lia
  ·rw [if_neg J];have hb':¬ f (argBest bt k)<f (k+1):=λz=>J ((h _ _).mpr z)
   refine⟨q5,λi hi=>?_⟩
   by_cases e:i=k+1
   ·subst e;lia
   ·exact L i q5
def Vals.ints_at{ns:List Int}{us:QqW}(h:Vals (ns.map V.int) us){i:Nat}{v:Value}(e:us[i]?=some v):i<ns.length/\∃t,v=.int (ns[i]?.getD 0) t:=by
 have J:us.length=ns.length:=by have:=h.length;simpa using this.symm
 have hi:i<ns.length:=by rw[<- J];exact(zm.mp e).1
 refine⟨hi,?_⟩
 have L:(ns.map V.int)[i]?=some (.int ns[i]):=by rw[zw,ze hi];rfl
 obtain⟨u,hu,r⟩:=h.get L;rw[e] at hu;cases hu;obtain⟨t,rfl⟩:=r
 exact⟨t,by rw[ze hi];rfl⟩
section
variable {X:Cx}
def JD(hc:X.calm=true):kG X (.builtin "max") (λxs H Q=>∃(p:Addr) (ns:List Int),xs=[.ref p]/\SqL X.K H p (ns.map V.int)/\0<ns.length/\∀M,M∈ns->(∀a∈ns,a<=M)->Q (.int M) H):=by
 intro pins s σ H xs us Q I r h;obtain⟨p,ns,rfl,hq,hn,q⟩:=h
 cases r with
 | cons r rr =>
  cases rr;cases r;obtain⟨its,rv,pl,_⟩:=I.list hq;have O:=pl.isList
  have L:p<s.heap.objs.size:=by obtain⟨_,e,_⟩:=O;exact zt e
  have hsz:its.length=ns.length:=by have:=rv.length;simpa using this.symm
  refine call_max_walk (yz O ⟨s.heap.objs.size,[s.heap.objs.size,p],[s.heap.objs.size],its.toArray.size,_,_,λi j=>decide (ns[j]?.getD 0<ns[i]?.getD 0),rfl,
   Walks.list (A:=X.A.in1) (I.ok.hd hc) _ p (zA L) _,⟨⟨_,zr _ rfl,rfl,rfl⟩,O.push _⟩,λb hb=>?_,?_,λi j vi vj s' Q' E' hi hj hQ=>?_,λv h' tk hP hk=>?_⟩)
  ·simp only [zj, zI, or_false] at hb
   rcases hb with rfl |rfl
   ·simp[Heap.push]
   ·exact Nat.lt_trans L (by simp[Heap.push])
  ·rw[zp,hsz];exact hn
  ·have hi' : its[i]? = some vi := by simpa using hi
   have hj':its[j]?=some vj:=by simpa using hj
   obtain⟨_,ti,rfl⟩:=rv.ints_at hi';obtain⟨_,tj,rfl⟩:=rv.ints_at hj';exact(PyProof.Rows.gt_int hQ:wpAny (model X.prog X.w) X.A.in1 (compareOp .Gt _ _) Q' E' s')
  ·have hP' : its[argBest (λi j => decide (ns[j]?.getD 0 < ns[i]?.getD 0)) (its.toArray.size - 1)]? = some v := by simpa using hP
   obtain⟨J,t,rfl⟩:=rv.ints_at hP'
   obtain⟨aa,Y⟩:=WB (λi=>ns[i]?.getD 0) (λi j=>decide (ns[j]?.getD 0<ns[i]?.getD 0)) (λi j=>by simp) (its.toArray.size-1)
   generalize argBest (λi j=>decide (ns[j]?.getD 0<ns[i]?.getD 0)) (its.toArray.size-1)=m at *;refine⟨.int (ns[m]?.getD 0),H,I.kept (zd7 hk),⟨_,rfl⟩,q _ ?_ λa ha=>?_⟩
   ·rw[ze J];exact wm J
   ·obtain ⟨i, hi, rfl⟩ := List.mem_iff_getElem.mp ha
    have:=Y i (by rw[zp,hsz];lia)
    rw[ze hi] at this;exact this
def JA(hc:X.calm=true):kG X (.builtin "min") (λxs H Q=>∃(p:Addr) (ns:List Int),xs=[.ref p]/\SqL X.K H p (ns.map V.int)/\0<ns.length/\∀M,M∈ns->(∀a∈ns,M<=a)->Q (.int M) H):=by
 intro pins s σ H xs us Q I r h;obtain⟨p,ns,rfl,hq,hn,q⟩:=h
 cases r with
 | cons r rr =>
  cases rr;cases r;obtain⟨its,rv,pl,_⟩:=I.list hq;have O:=pl.isList
  have L:p<s.heap.objs.size:=by obtain⟨_,e,_⟩:=O;exact zt e
  have hsz:its.length=ns.length:=by have:=rv.length;simpa using this.symm
  refine call_min_walk (yz O ⟨s.heap.objs.size,[s.heap.objs.size,p],[s.heap.objs.size],its.toArray.size,_,_,λi j=>decide (ns[i]?.getD 0<ns[j]?.getD 0),rfl,
   Walks.list (A:=X.A.in1) (I.ok.hd hc) _ p (zA L) _,⟨⟨_,zr _ rfl,rfl,rfl⟩,O.push _⟩,λb hb=>?_,?_,λi j vi vj s' Q' E' hi hj hQ=>?_,λv h' tk hP hk=>?_⟩)
  ·simp only [zj, zI, or_false] at hb
   rcases hb with rfl |rfl
   ·simp[Heap.push]
   ·exact Nat.lt_trans L (by simp[Heap.push])
  ·rw[zp,hsz];exact hn
  ·have hi' : its[i]? = some vi := by simpa using hi
   have hj':its[j]?=some vj:=by simpa using hj
   obtain⟨_,ti,rfl⟩:=rv.ints_at hi';obtain⟨_,tj,rfl⟩:=rv.ints_at hj';exact(PyProof.Rows.lt_int hQ:wpAny (model X.prog X.w) X.A.in1 (compareOp .Lt _ _) Q' E' s')
  ·have hP' : its[argBest (λi j => decide (ns[i]?.getD 0 < ns[j]?.getD 0)) (its.toArray.size - 1)]? = some v := by simpa using hP
   obtain⟨J,t,rfl⟩:=rv.ints_at hP'
   obtain⟨aa,Y⟩:=WB (λi=>- ns[i]?.getD 0) (λi j=>decide (ns[i]?.getD 0<ns[j]?.getD 0)) (λi j=>by simp) (its.toArray.size-1)
   generalize argBest (λi j=>decide (ns[i]?.getD 0<ns[j]?.getD 0)) (its.toArray.size-1)=m at *;refine⟨.int (ns[m]?.getD 0),H,I.kept (zd7 hk),⟨_,rfl⟩,q _ ?_ λa ha=>?_⟩
   ·rw[ze J];exact wm J
   ·obtain ⟨i, hi, rfl⟩ := List.mem_iff_getElem.mp ha
    have:=Y i (by rw[zp,hsz];lia)
    rw[ze hi] at this;have e:(some ns[i]).getD 0=ns[i]:=rfl;rw[e] at this;lia
end
section
variable {A:AC}
theorem kc{K:W.Frag}{G:QqE}{Z:QqA}{H:Hp}:∀{bs:List Int}{ws:List V},Reps K G Z H (bs.map D.int) ws->ws=bs.map V.int
 |[],ws,h=>h.nil_inv
 |b::bs,ws,h=>by
  obtain⟨v,r,rfl,q,t⟩:=h.split;rw[q.int_inv,kc t];rfl
def xn7:List D->(D->Prop)->Prop:=λes k=>∃i j,es=[.int i,.int j]/\k (.int (if j > i then j else i))
def xn4:List D->(D->Prop)->Prop:=λes k=>∃i j,es=[.int i,.int j]/\k (.int (if j<i then j else i))
def xn8:List D->(D->Prop)->Prop:=λes k=>∃ns:List Int,es=[.lst (ns.map D.int)]/\0<ns.length/\∀M,M∈ns->(∀a∈ns,a<=M)->k (.int M)
def xn5:List D->(D->Prop)->Prop:=λes k=>∃ns:List Int,es=[.lst (ns.map D.int)]/\0<ns.length/\∀M,M∈ns->(∀a∈ns,M<=a)->k (.int M)
@[simp] theorem xA1{i j k}:xn7 [.int i,.int j] k↔k (.int (if j > i then j else i)):=⟨fun⟨_,_,e,h⟩=>by cases e;exact h,λh=>⟨_,_,rfl,h⟩⟩
@[simp] theorem xz9{i j k}:xn4 [.int i,.int j] k↔k (.int (if j<i then j else i)):=⟨fun⟨_,_,e,h⟩=>by cases e;exact h,λh=>⟨_,_,rfl,h⟩⟩
def zC1:ve A (λxs H Q=>∃i j,xs=[.int i,.int j]/\Q (.int (if j > i then j else i)) H) xn7:=by
 rintro os n rho sg H ds vs es ws k Q I rs ⟨i,j,rfl,q⟩ J;obtain⟨v,v',rfl,r,r'⟩:=Ku rs
 exact⟨i,j,by rw[r.int_inv,r'.int_inv],J _ H _ ⟨os,I.push (Rep.ofS rfl)⟩ q⟩
def zB8:ve A (λxs H Q=>∃i j,xs=[.int i,.int j]/\Q (.int (if j<i then j else i)) H) xn4:=by
 rintro os n rho sg H ds vs es ws k Q I rs ⟨i,j,rfl,q⟩ J;obtain⟨v,v',rfl,r,r'⟩:=Ku rs
 exact⟨i,j,by rw[r.int_inv,r'.int_inv],J _ H _ ⟨os,I.push (Rep.ofS rfl)⟩ q⟩
def zC2:ve A (λxs H Q=>∃(p:Addr) (ns:List Int),xs=[.ref p]/\SqL A.K H p (ns.map V.int)/\0<ns.length/\∀M,M∈ns->(∀a∈ns,a<=M)->Q (.int M) H) xn8:=by
 rintro os n rho sg H ds vs es ws k Q I rs ⟨ns,rfl,L,q⟩ O;obtain⟨v,rfl,r⟩:=kO rs;obtain⟨a,xs,rfl,sq,J⟩:=r.lst_inv;have e:=kc J;subst e;exact⟨a,ns,rfl,sq.sq,L,λM h1 Y=>O _ H _ ⟨os,I.push (Rep.ofS rfl)⟩ (q M h1 Y)⟩
def zB9:ve A (λxs H Q=>∃(p:Addr) (ns:List Int),xs=[.ref p]/\SqL A.K H p (ns.map V.int)/\0<ns.length/\∀M,M∈ns->(∀a∈ns,M<=a)->Q (.int M) H) xn5:=by
 rintro os n rho sg H ds vs es ws k Q I rs ⟨ns,rfl,L,q⟩ O;obtain⟨v,rfl,r⟩:=kO rs;obtain⟨a,xs,rfl,sq,J⟩:=r.lst_inv;have e:=kc J;subst e;exact⟨a,ns,rfl,sq.sq,L,λM h1 Y=>O _ H _ ⟨os,I.push (Rep.ofS rfl)⟩ (q M h1 Y)⟩
def Vz:bootBuiltins "max" = some (.builtin "max"):=w5
def JF:bootBuiltins "min" = some (.builtin "min"):=w5
end
def Wy{own:Nat}{g:TGD}{tt:TBD}{te:TD}{rho:Rho}{n:Nat}{P:D->Nat->Prop}{α:Type}(enc:α->D)(keep:α->Bool)(f:α->D)(xs:List α)(hz:xs.length<=sizeLine)
  (he:∀x∈xs,∀(R:D->Nat->Prop) (S:Nat->Prop),(keep x=true->R (f x) n)->(keep x=false->S n)->g (enc x) (replicate own none++rho) λrho'=>rho'.drop own=rho/\tt rho' n λc L=>if c=true then te rho' L R else S L)
  (hP:P (.lst ((xs.filter keep).map f)) n):Jx own g tt te rho P (xs.map enc) n:=by
 refine⟨by simpa using hz,λi acc n'=>n'=n/\acc=((xs.take i).filter keep).map f,⟨rfl,rfl⟩,?_,?_⟩
 ·rintro i d acc n' e ⟨rfl, rfl⟩;rw[zw] at e
  cases q:xs[i]? with
  |none=>rw[q] at e;cases e
  |some x=>
   rw[q] at e;cases e;have Y:x∈xs:=zM q
   have O:xs.take (i+1)=xs.take i++[x]:=by rw[xm,q];rfl
   refine he x Y (λe J=>J=n'/\((xs.take i).filter keep).map f++[e]=((xs.take (i+1)).filter keep).map f) (λJ=>J=n'/\((xs.take i).filter keep).map f=((xs.take (i+1)).filter keep).map f) (λhk=>⟨rfl,?_⟩) (λhk=>⟨rfl,?_⟩)
   ·rw[O,filter_append];simp[hk]
   ·rw[O,filter_append];simp[hk]
 ·rintro acc n' ⟨rfl,rfl⟩;rw[zg,xY];exact hP
def zZ3{k:Nat}:okE (.lst ds) (k+1)=true↔∀d∈ds,okE d k=true:=by
 have e:okE (.lst ds) (k+1)=Vi ds k:=by rw[okE]
 rw[e,Us]
def jw{i:Int}{k:Nat}:okE (.int i) k=true:=by simp[okE]
def zQ7(K:W.Frag):R2:=λx y H Q=>∃a b xs ys,x=.ref a/\y=.ref b/\SqT K H a xs/\SqT K H b ys/\xs.length+ys.length<=sizeLine /\
 (xs=[]->Q (.ref b) H)/\(xs≠[]->ys=[]->Q (.ref a) H)/\(xs≠[]->ys≠[]->∀p,H p=none->Q (.ref p) (upd H p (.tup (xs++ys))))
section
variable {X:Cx}
def qL:OpR X (binaryOp .Add) (zQ7 X.K):=by
 intro pins s σ H x y v u Q I rx ry h;obtain⟨a,b,xs,ys,rfl,rfl,ha,hb,hz,q0,q1,q2⟩:=h
 by_cases hx:xs=[]
 ·cases rx;cases ry;obtain⟨its,r1,p1,_⟩:=I.tuple ha;obtain⟨J,r2,p2,_⟩:=I.tuple hb;have hi:its=[]:=r1.nil_iff.mpr hx;obtain⟨⟨cls,dd,data,sl⟩,ho,hc,n,hd⟩:=id p1;obtain⟨⟨ae,aa,ad,Y⟩,L,hc2,n2,O⟩:=id p2;simp only at hc hd hc2 O;subst hc hd hc2 O
  exact PySem.concat_meets ⟨_,ho,rfl⟩ ⟨_,L,rfl⟩ PySem.noFill_tuple_add PySem.seq_tuple_add PySem.F.slot_tuple_add PySem.F.entry_tuple_add (PySem.F.args_tuple_add_2 _ _)
   (tuple_addW0 a b its.toArray J.toArray n n2 dd aa sl Y (by simp[hi])) ⟨ho,L,⟨.ref b,H,I,rfl,q0 hx⟩⟩
 ·exact zY3 pins s σ H _ _ v u Q I rx ry ⟨a,b,xs,ys,rfl,rfl,ha,hb,hx,hz,q1 hx,q2 hx⟩
end
section
variable {A:AC}
def zQ5:RD2:=λd1 d2 k=>∃es fs,d1=.tup es/\d2=.tup fs/\es.length+fs.length<=sizeLine/\k (.tup (es++fs))
@[simp] theorem xr9{es fs k}:zQ5 (.tup es) (.tup fs) k↔(es.length+fs.length<=sizeLine/\k (.tup (es++fs))):=⟨fun⟨_,_,e,e',h⟩=>by cases e;cases e';exact h,λh=>⟨_,_,rfl,rfl,h⟩⟩
def Zs:kr A (zQ7 A.K) zQ5:=by
 rintro os n rho sg H ds vs d1 d2 v1 v2 k Q I ⟨es,fs,rfl,rfl,hz,q⟩ J;obtain⟨I1,O⟩:=I.pop;obtain⟨L,Y⟩:=I1.pop;have r1':=Y;have r2':=O;obtain⟨a,xs,e,sq,rs⟩:=Y.tup_inv;obtain⟨b,ys,e',sq',rs'⟩:=O.tup_inv;subst e e'
 refine⟨a,b,xs,ys,rfl,rfl,sq.sq,sq'.sq,by rw[rs.length,rs'.length];exact hz,λhx=>?_,λhx hy=>?_,λhx hy p hp=>?_⟩
 ·have he : es = [] := by have := rs.length; rw [hx] at this; exact List.eq_nil_of_length_eq_zero this.symm
  subst he;exact J _ H _ ⟨os,L.push r2'⟩ q
 ·have he : fs = [] := by have := rs'.length; rw [hy] at this; exact List.eq_nil_of_length_eq_zero this.symm
  subst he;rw[yh] at q;exact J _ H _ ⟨os,L.push r1'⟩ q
 ·exact J _ _ _ ⟨os,L.newTup (rs.append rs') hp⟩ q
end
section
variable {A:AC}{X:Cx}{a b c e:Expr}{es:List Expr}{te ta tb tc:TD}{t1:TAD}{pos p:Pos}
def xb4(d:D)(k:Int->Prop):Prop:=∃i,d=.int i/\k i
@[simp] theorem xA5{i:Int}{k}:xb4 (.int i) k↔k i:=⟨fun⟨_,e,h⟩=>by cases e;exact h,λh=>⟨_,rfl,h⟩⟩
end
theorem YJ:∀{us:QqW}{ns:List Int},IntsAre us ns->Vals (ns.map V.int) us
 |_,_,.nil=>.nil
 |_,_,.cons n t h=>.cons ⟨t,rfl⟩ (YJ h)
section
variable {X:Cx}{A:AC}
def QW:kG X (.builtin "sorted") (λxs H Q=>∃(p:Addr) (ns:List Int),xs=[.ref p]/\SqL X.K H p (ns.map V.int)/\ns.length<64/\∀ms:List Int,ms.Perm ns->ms.Pairwise (·<=·)->∀l,H l=none->Q (.ref l) (upd H l (.lst (ms.map V.int)))):=by
  intro pins s σ H xs us Q I r h;obtain⟨p,ns,rfl,Y,hn,q⟩:=h
  cases r with
  | cons r O =>
    cases O;cases r;obtain⟨its,rv,pl,_⟩:=I.list Y;have hl:=pl.isList
    have hsz:its.length=ns.length:=by have:=rv.length;simpa using this.symm
    refine sorted_ints hl (kJ rv) q5 λJ ms hi L hs=>?_
    obtain⟨e,he⟩:=sortedAll_at s.heap its J;have aa:ms.length=ns.length:=L.length_eq;have hf:H (s.heap.objs.size+1)=none:=I.hok.fresh (wl _);refine⟨.ref (s.heap.objs.size+1),_,I.laid (t':=s.toks) (o:=.lst (ms.map V.int)) (λb u e=>sortedAll_old e) (wl _) ?_,rfl,q ms L hs _ hf⟩
    exact⟨by rw[zg];exact zK q5 (wS (k:=64) q5),J.toList,e,YJ hi,he⟩
def xb0:List D->(D->Prop)->Prop:=λes k=>∃ns:List Int,es=[.lst (ns.map D.int)]/\ns.length<64/\∀ms:List Int,ms.Perm ns->ms.Pairwise (·<=·)->k (.lst (ms.map D.int))
def zB7:ve A (λxs H Q=>∃(p:Addr) (ns:List Int),xs=[.ref p]/\SqL A.K H p (ns.map V.int)/\ns.length<64/\∀ms:List Int,ms.Perm ns->ms.Pairwise (·<=·)->∀l,H l=none->Q (.ref l) (upd H l (.lst (ms.map V.int)))) xb0:=by
  rintro os n rho sg H ds vs es ws k Q I rs ⟨ns,rfl,L,q⟩ Y;obtain⟨v,rfl,r⟩:=kO rs;obtain⟨a,xs,rfl,sq,J⟩:=r.lst_inv;have e:=kc J;subst e;exact⟨a,ns,rfl,sq.sq,L,λms h1 h2 l O=>Y _ _ _ ⟨os,I.newLst ZS O⟩ (q ms h1 h2)⟩
def WA:bootBuiltins "sorted" = some (.builtin "sorted"):=w5
end
def zb8{kt k2 J}(hk:env.blockKind=.function)(hx:env.kindOf x=some .local)(hy:env.kindOf y=some .local)(hl:py.line=px.line)(L:x≠y)
  (Y:vG a=false) (O:vG b=false) (hf:[a,b].all (foldedForSure 8)=false) (hc:[a,b].all (constantsAlone 8)=false) :
  swappedStores [.Tuple [.Name x px,.Name y py] kt pt] (.Tuple [a,b] k2 J) env=pure (some [x,y]):=by
 have e2:(y == x)=false:=beq_false_of_ne (Ne.symm L);have e:(Expr.Name x px).pos.line=px.line:=rfl;unfold swappedStores;simp[hk,hx,hy,hl,hf,hc,e,List.eraseDups,List.eraseDupsBy,List.eraseDupsBy.loop,e2];intro h
 exfalso
 rcases h with h |h
 ·cases a<;>first |(simp at h;done) |(simp[vG] at Y;done)
 ·cases b<;>first |(simp at h;done) |(simp[vG] at O;done)
section
variable {A:AC}{X:Cx}{a b:Expr}{pos:Pos}
def Xl{i j:Nat}{kt k2 J}(hc:X.calm=true)(hN:X.N.Nodup)(hi:X.N[i]?=some x)(hj:X.N[j]?=some y)(aa:i≠j)
  (hx:X.env.scope.names.lookup x=some .local) (hy:X.env.scope.names.lookup y=some .local) (ha:PAD A X [a,b] ta)
  (hk:X.env.blockKind=.function:=by rfl) (hl:py.line=px.line:=by rfl) (L:x≠y:=by decide) (Y:vG a=false:=by rfl) (O:vG b=false:=by rfl) (hf:[a,b].all (foldedForSure 8)=false:=by decide +kernel) (ad:[a,b].all (constantsAlone 8)=false:=by decide +kernel) :
  PSD A X (.Assign [.Tuple [.Name x px,.Name y py] kt pt] (.Tuple [a,b] k2 J) pos) (xg0 i j ta):=by
 exists 
   zW5 hc hN hi hj aa hx hy ha (zb8 hk hx hy hl L Y O hf ad) rfl
end
def Xk(h:PTD A X e t):PTs X [e] (VF A t):=by exists zW1 h
end L2
namespace L2
open PySem PySem.Spec PyProof.Rows HT
section
variable {prog:Program}{w:World}{A:Around}{E:QqV}{s:Shared}
def ZA{t L:Addr}{items:Array Value}{vl vu:Value}{lo hi:Option Int}{Q:QqV}(ht:IsTup s.heap t items)(hs:s.heap.IsSliceOf L vl vu .none)(pl:IsPart vl lo)(pu:IsPart vu hi)
  (h1:sIx items.size 0 lo=0) (h2:sIx items.size items.size hi=items.size) (h:Q (.ref t) s):wpAny (model prog w) A (getItem (.ref t) (.ref L)) Q E s:=by
 obtain⟨os,O,Y,ad⟩:=id hs;have aa:s.TypeIs (.ref L) "slice" := ⟨os,O,Y⟩;unfold getItem
 try with_reducible refine xr ?_
 first |refine zb (zd ?_) |skip
 refine zb (wpAny_sequenceKey ht.typeIs q9 ?_)
 refine zb (xy (name:=Str.ofString "__getitem__") ht.typeIs PyProof.Rows.slot_tuple_getitem
  (wj PyProof.Rows.slot_tuple_getitem ht.typeIs entry_tuple_getitem ?_ (args_tuple_getitem _ _)))
 show wpAny _ _ (Builtin.Tuple.tupleItemsOf (.ref t) >>= _) _ _ s;refine zb (tupleItemsOf_ ht ?_);refine zb (wpAny_typeOf aa ?_)
 rw[if_pos q9]
 refine zb (qV hs pl pu ?_)
 have J:((((sIx items.size 0 lo:Nat):Int) == 0&&(1:Int) == 1&&(sIx items.size items.size hi-sIx items.size 0 lo) == items.size)=true):=by
  rw[h1,h2];simp
 show wpAny _ _ (if (((sIx items.size 0 lo:Nat):Int) == 0&&(1:Int) == 1&&(sIx items.size items.size hi-sIx items.size 0 lo) == items.size)=true then _ else _) _ _ s
 rw[if_pos J];obtain⟨⟨cls,dd,data,sl'⟩,ho,hc,n,hd⟩:=id ht;simp only at hc hd;subst hc hd;unfold Builtin.Tuple.tupleIsExact;obtain⟨hp,g,d,tk,os'⟩:=s
 wp_walk
 exact⟨_,rfl,zd h⟩
end
section
variable {X:Cx}
def xw6(K:W.Frag):V->Option Int->Option Int->Hp->VK->Prop:=λx lo hi H Q=>∃a xs,x=.ref a/\SqT K H a xs /\
 ((HT.sIx xs.length 0 lo=0/\HT.sIx xs.length xs.length hi=xs.length)->Q (.ref a) H)/\(¬ (HT.sIx xs.length 0 lo=0/\HT.sIx xs.length xs.length hi=xs.length)->∀p,H p=none->Q (.ref p) (upd H p (.tup (zO5 xs lo hi))))
def zU4:SlR X (xw6 X.K):=by
 intro pins s σ H x v vl vu lo hi sl Q I O hs pl Y h;obtain⟨a,xs,rfl,hx,q1,q2⟩:=h
 by_cases L:HT.sIx xs.length 0 lo=0/\HT.sIx xs.length xs.length hi=xs.length
 ·cases O;obtain⟨its,r,ht,hz⟩:=I.tuple hx
  have J:its.toArray.size=xs.length:=by rw[zp];exact r.length.symm
  refine⟨"tuple",_,PyProof.Rows.slot_tuple_getitem.lookup,ht.typeIs,?_⟩
  exact ZA ht hs pl Y (by rw[J];exact L.1) (by rw[J];exact L.2) ⟨.ref a,H,I,rfl,q1 L⟩
 ·exact xf6 pins s σ H (.ref a) v vl vu lo hi sl Q I O hs pl Y ⟨a,xs,rfl,hx,L,q2 L⟩
end
abbrev TOD:=Rho->Nat->(Option Int->Nat->Prop)->Prop
def oOf(A:AC)(t:TOD):TO:=λsg H Q=>∃rho n P ds vs,Am A n rho sg H ds vs/\t rho n P/\∀o H' n',Am A n' rho sg H' ds vs->P o n'->Q o H'
@[irreducible] def POD(A:AC)(X:Cx)(e:Option Expr)(t:TOD):Prop:=PO X e (oOf A t)
def PO.imp(h:PO X e t)(hi:∀sg H Q,t' sg H Q->t sg H Q):PO X e t':=λpins s sg H Q I q=>h pins s sg H Q I (hi _ _ _ q)
section
variable {A:AC}{X:Cx}{a b c e:Expr}{es:List Expr}{te ta tb tc:TD}{t1:TAD}{pos p:Pos}
def xl9:TOD:=λ_ n P=>P none n
def xl8(t:TD):TOD:=λrho n P=>t rho n λd J=>xb4 d λi=>P (some i) J
@[simp] theorem xz7{rho n P}:xl9 rho n P=P none n:=rfl
@[simp] theorem xz6{t rho n P}:xl8 t rho n P=t rho n λd J=>xb4 d λi=>P (some i) J:=rfl
def Xn:POD A X none xl9:=by
 exists zW7.imp λsg H Q h=>by
   obtain⟨rho,n,P,ds,vs,I,h,J⟩:=h;exact J none H n I h
def Xm(h:PD A X e te):POD A X (some e) (xl8 te):=by
 exists (zs0 h).imp λsg H Q h=>by
   obtain⟨rho,n,P,ds,vs,I,h,L⟩:=h;refine⟨rho,n,_,ds,vs,I,h,λv H' n' d ⟨os,J⟩ k=>?_⟩;obtain⟨i,rfl,k⟩:=k;obtain⟨O,r⟩:=J.pop;exact⟨i,r.int_inv,L _ H' n' ⟨os,O⟩ k⟩
def zo2(d:D)(k:List D->Prop):Prop:=∃fs,d=.tup fs/\k fs
@[simp] theorem xx0{k}:zo2 (.tup fs) k↔k fs:=⟨fun⟨_,e,h⟩=>by cases e;exact h,λh=>⟨_,rfl,h⟩⟩
def xL2(ta:TD)(tl th:TOD):TD:=λrho n P=>ta rho n λd O=>tl rho O λlo L=>th rho L λhi J=>zo2 d λfs=>P (.tup (Ju fs lo hi)) J
@[simp] theorem xI8{ta tl th rho n P}:xL2 ta tl th rho n P=ta rho n λd O=>tl rho O λlo L=>th rho L λhi J=>zo2 d λfs=>P (.tup (Ju fs lo hi)) J:=rfl
def zB6{fs:List D}{lo hi:Option Int}(h:HT.sIx fs.length 0 lo=0/\HT.sIx fs.length fs.length hi=fs.length):Ju fs lo hi=fs:=by
 unfold Ju;rw[h.1,h.2,List.drop_zero,Nat.sub_zero,xY]
def xk2(hK:X.K=A.K)(ha:PD A X a ta)(hl:POD A X le tl)(hh:POD A X he th):PD A X (.Subscript a (.Slice le he none p2) pos) (xL2 ta tl th):=by
 exists (zd3 zU4 ha hl hh).imp λsg H Q h=>by
   obtain⟨rho,n,P,ds,vs,I,ht,Y⟩:=h;refine⟨rho,n,_,ds,vs,I,ht,λv H1 n1 d J1 h1=>⟨rho,n1,_,_,_,J1,h1,λlo H2 n2 J2 h2=>⟨rho,n2,_,_,_,J2,h2,λhi H3 O ⟨os,J3⟩ h3=>?_⟩⟩⟩;obtain⟨fs,rfl,k⟩:=h3;obtain⟨J4,r⟩:=J3.pop;have r':=r;obtain⟨l,xs,rfl,sq,rs⟩:=r.tup_inv;rw[hK];have J:xs.length=fs.length:=rs.length;refine⟨l,xs,rfl,sq.sq,λL=>?_,λL p hp=>Y _ _ O _ ⟨os,J4.newTup (Uf rs lo hi) hp⟩ k⟩;rw[J] at L;rw[zB6 L] at k;exact Y _ H3 O _ ⟨os,J4.push r'⟩ k
def Wq:D->Bool
 |.non=>true |.bl _=>true |.int _=>true |.str _=>true |_=>false
def inD(x:D)(es:List D):Bool:=es.any λy=>eqD y x
def zz7{K:W.Frag}{G:QqE}{Z:QqA}{H:Hp}{d:D}{v:V}(h:Wq d=true)(r:Rep K G Z H d v):v=ofS d/\WU v=true:=by
 cases d<;>first |(have e:=r.toS rfl;subst e;exact⟨rfl,rfl⟩) |(simp[Wq] at h;done)
def xE6(hx:Wq x=true)(J:Wq y=true):eqV (ofS y) (ofS x)=eqD y x:=by
 cases x<;>cases y<;>first |(simp[Wq] at hx;done) |(simp[Wq] at J;done) |(simp[eqV,eqD,ofS];done) |(simp[eqV,eqD,ofS];rfl)
theorem xb5{K:W.Frag}{G:QqE}{Z:QqA}{H:Hp}{x:D}(hx:Wq x=true):∀{es:List D}{vs:List V},es.all Wq=true->Reps K G Z H es vs->inV (ofS x) vs=inD x es/\vs.all WU=true
 |[],vs,_,r=>by rw[r.nil_inv];exact⟨rfl,rfl⟩
 |d::es,vs,h,r=>by
  rw[all_cons,zG] at h;obtain⟨v,w,rfl,q,t⟩:=r.split;obtain⟨e,f⟩:=zz7 h.1 q;obtain⟨J,L⟩:=xb5 hx h.2 t;subst e
  constructor
  ·unfold inV inD at J ⊢;rw[yE,yE,J,xE6 hx h.1]
  ·rw[all_cons,f,L];rfl
def xN9(neg:Bool):RD2:=λd1 d2 k=>Wq d1=true/\∃es,(d2=.tup es\/d2=.lst es)/\es.all Wq=true/\k (.bl (if neg then !inD d1 es else inD d1 es))
def xw2{neg:Bool}:kr A (rIn A.K neg) (xN9 neg):=by
 rintro os n rho sg H ds vs d1 d2 v1 v2 k Q I ⟨h1,es,hd,L,q⟩ O;obtain⟨I1,J⟩:=I.pop;obtain⟨I2,r1⟩:=I1.pop;obtain⟨e1,Y⟩:=zz7 h1 r1;subst e1
 rcases hd with rfl |rfl
 ·obtain ⟨a, xs, e, sq, rs⟩ := J.tup_inv;obtain⟨z1,z2⟩:=xb5 h1 L rs
  exact⟨a,xs,e,.inr sq.sq,Y,z2,by rw[z1];exact O _ H _ ⟨os,I2.push (Rep.ofS rfl)⟩ q⟩
 ·obtain ⟨a, xs, e, sq, rs⟩ := J.lst_inv;obtain⟨z1,z2⟩:=xb5 h1 L rs
  exact⟨a,xs,e,.inl sq.sq,Y,z2,by rw[z1];exact O _ H _ ⟨os,I2.push (Rep.ofS rfl)⟩ q⟩
end
end L2
namespace L2
section
variable {A:AC}{X:Cx}{a b c e:Expr}{es:List Expr}{te ta tb tc:TD}{t1:TAD}{pos p:Pos}
def xq4(I:Inv X pins σ H s):sysModules<s.heap.objs.size:=Nat.lt_trans q9 (I.mod.glob.keeps I.bk).lt
def xp6(h:Heap)(J:sysModules<h.objs.size):ObjOk P w H (h.push { cls:=.type "dict",data:=.dict #[] }) h.objs.size (.dK []):=
 ⟨xq _,beq_eq_false_iff_ne.mpr (Ne.symm (zA J)),[],.nil,Heap.DictOf.new h⟩
end
section
variable {A:AC}{X:Cx}
end
section
variable {A:AC}{X:Cx}{pos p:Pos}
end
section
variable {A:AC}{X:Cx}{a b e:Expr}{ta tb:TD}{pos p:Pos}
end
end L2
namespace L2
open PySem PySem.Spec PyProof.Rows HT
section
variable {prog:Program}{w:World}{A:Around}{E:QqV}{s:Shared}
end
section
variable {X:Cx}{e:Expr}{te:TE}{pos p2:Pos}
end
section
variable {A:AC}{X:Cx}{a:Expr}{ta:TD}{pos p2 p3 p4:Pos}
end
end L2
namespace L2
open PySem PySem.Spec PyProof.Rows PySem.W PySem.Calls PySem.NumText
section
variable {A:AC}{X:Cx}{e:Expr}{te:TD}{pos:Pos}
def zq1(tc:TBD)(tb:TSD):TSD:=λF rho n=>∃J:Nat->Rho->Nat->Prop,(∃m,J m rho n)/\∀m rho n,J m rho n->tc rho n λb L=>if b=true then tb { F with nx:=λrho' n'=>∃m',m'<m/\J m' rho' n',ct:=λrho' n'=>∃m',m'<m/\J m' rho' n',bk:=F.nx } rho L else F.nx rho L
def XJ(hp:PassesOwn (model X.prog X.w) X.A X.env X.xe)(hc:PTD A X c tc)(hb:zm2 A X body tb):PSD A X (.While c body [] pos) (zq1 tc tb):=by
 exists (zI6 hp hc hb).imp λE sg H h=>by
   obtain⟨rho,n,F,ds,vs,I,⟨J,⟨m0,j0⟩,turn⟩,ok⟩:=h;refine⟨λm sg H=>∃rho n,Am A n rho sg H ds vs/\J m rho n,⟨m0,rho,n,I,j0⟩,?_⟩;rintro m aa H1 ⟨O,n1,I1,j1⟩;refine⟨O,n1,_,ds,vs,I1,turn m O n1 j1,λb H2 n2 I2 k=>?_⟩
   cases b with
   |true=>
    rw[if_pos rfl] at k ⊢;refine⟨λsg' H'=>∃m',m'<m/\∃rho n,Am A n rho sg' H' ds vs/\J m' rho n,λsg' H' ⟨m',hm,q⟩=>⟨m',hm,q⟩,O,n2,_,ds,vs,I2,k,?_⟩;exact⟨λL n6 Y H6 I6 ⟨m',hm,k6⟩=>⟨m',hm,L,n6,I6,k6⟩,λd n6 v L Y H6 I6 k6=>ok.rt _ _ _ _ _ _ I6 k6,λL n6 Y H6 I6 k6=>ok.nx _ _ _ _ I6 k6,λL n6 Y H6 I6 ⟨m',hm,k6⟩=>⟨m',hm,L,n6,I6,k6⟩⟩
   |false=>
    rw[if_neg zR] at k ⊢;exact ok.nx _ _ _ _ I2 k
@[simp] theorem xr3{tc tb F rho n}:zq1 tc tb F rho n=∃J:Nat->Rho->Nat->Prop,(∃m,J m rho n)/\∀m rho n,J m rho n->tc rho n λb L=>if b=true then tb { F with nx:=λrho' n'=>∃m',m'<m/\J m' rho' n',ct:=λrho' n'=>∃m',m'<m/\J m' rho' n',bk:=F.nx } rho L else F.nx rho L:=rfl
def xg4(f:Int->Int->Int)(i:Nat)(te:TD):TSD:=λF rho n=>i<rho.length/\∃a:Int,rho[i]?=some (some (.int a))/\te rho n λd J=>∃b:Int,d=.int b/\F.nx (rho.set i (some (.int (f a b)))) J
def zI5{i:Nat}(ho:PIp X op (ipI f))(Y:X.N.Nodup)(hi:X.N[i]?=some x)(hx:Loc X.env.scope x)(he:PD A X e te)(O:X.fn x=true\/X.env.scope.names.lookup x=some .local:=by first |exact .inl rfl |exact .inr rfl |assumption) :
  PSD A X (.AugAssign (.Name x pos') op e pos) (xg4 f i te):=by
 exists (xi9 Y hi hx he ho O).imp λE sg H h=>by
   obtain⟨rho,n,F,ds,vs,⟨os,I⟩,⟨L,a,ha,ht⟩,ok⟩:=h;obtain⟨v,e1,e2⟩:=I.slot i _ ha;have e3:=SlotR.rep (d:=.int a) rfl e2;refine⟨v,e1,rho,n,_,ds,vs,⟨os,I⟩,ht,λw H' n' d ⟨os',J⟩ k=>?_⟩;obtain⟨b,rfl,k⟩:=k;obtain⟨J1,r⟩:=J.pop;refine⟨a,b,e3.int_inv,r.int_inv,ok.nx _ _ _ _ ⟨_,AmO.set (d:=.int (f a b)) (J1.push (Rep.ofS rfl)) L⟩ k⟩
@[simp] theorem xy4{f i te F rho n}:xg4 f i te F rho n=(i<rho.length/\∃a:Int,rho[i]?=some (some (.int a))/\te rho n λd J=>∃b:Int,d=.int b/\F.nx (rho.set i (some (.int (f a b)))) J):=rfl
end
section
variable {A:AC}{X:Cx}
end
end L2
namespace L2
end L2
namespace L2
open PySem PySem.Spec PyProof.Rows PySem.W PySem.Calls
def zG5{kt k2 J}(hk:env.blockKind=.function)(hx:env.kindOf x=some .local)(hy:env.kindOf y=some .local)(hz:env.kindOf z=some .local)(hl:py.line=px.line)(af:pz.line=px.line)(Y:x≠y)(O:x≠z)(L:y≠z)
  (ae:vG a=false) (ad:vG b=false) (aa:vG c=false) (hf:[a,b,c].all (foldedForSure 8)=false) (hc:[a,b,c].all (constantsAlone 8)=false) :
  swappedStores [.Tuple [.Name x px,.Name y py,.Name z pz] kt pt] (.Tuple [a,b,c] k2 J) env=pure (some [x,y,z]):=by
 have e2:(y == x)=false:=beq_false_of_ne (Ne.symm Y);have e3:(z == x)=false:=beq_false_of_ne (Ne.symm O);have e4:(z == y)=false:=beq_false_of_ne (Ne.symm L);have e:(Expr.Name x px).pos.line=px.line:=rfl;unfold swappedStores;simp[hk,hx,hy,hz,hl,af,hf,hc,e,List.eraseDups,List.eraseDupsBy,List.eraseDupsBy.loop,e2,e3,e4];intro h
 exfalso
 rcases h with h |h |h
 ·cases a<;>first |(simp at h;done) |(simp[vG] at ae;done)
 ·cases b<;>first |(simp at h;done) |(simp[vG] at ad;done)
 ·cases c<;>first |(simp at h;done) |(simp[vG] at aa;done)
section
variable {X:Cx}{pos:Pos}
def xv0(i j k:Nat)(ta:TA):TS:=λD σ H=>ta σ H λvs H1=>∃u v w,vs=[u,v,w]/\D.nx (((σ.set k (some w)).set j (some v)).set i (some u)) H1
def zW6{i j k:Nat}{O Y J}(hc:X.calm=true)(hN:X.N.Nodup)(hi:X.N[i]?=some x)(hj:X.N[j]?=some y)(hk:X.N[k]?=some z)
  (hx:X.env.scope.names.lookup x=some .local) (hy:X.env.scope.names.lookup y=some .local) (hz:X.env.scope.names.lookup z=some .local) (ha:PA X [a,b,c] ta)
  (hw:swappedStores [.Tuple [.Name x px,.Name y py,.Name z pz] O pt] (.Tuple [a,b,c] Y J) X.env=pure (some [x,y,z]))
  (hs:swapsWithSole [.Tuple [.Name x px,.Name y py,.Name z pz] O pt] (.Tuple [a,b,c] Y J) pos.line X.env=pure false:=by rfl) :
  PS X (.Assign [.Tuple [.Name x px,.Name y py,.Name z pz] O pt] (.Tuple [a,b,c] Y J) pos) (xv0 i j k ta):=by
 intro pins s σ H D I h;rw[exec_Assign_arm];refine zb (wx ?_);rw[hs];refine zb (zd ?_)
 rw[if_neg q9]
 refine zb (Tuple_ (thn (ha _ pins s σ H _ I h) λus s1 ⟨vs,H1,I1,r1,q1⟩=>?_));obtain⟨t,v,w,e1,q1⟩:=q1;subst e1
 obtain⟨L,u1,u2,rfl,rt,rv,rw'⟩:∃L u1 u2,us=[L,u1,u2]/\RelV t L/\RelV v u1/\RelV w u2:=by
  cases r1 with
  | cons p q =>
   cases q with
   | cons p' q' =>
    cases q' with
    |cons p2 q2=>
     cases q2;exact⟨_,_,_,rfl,p,p',p2⟩
 refine xl ?_ (by show 3<=sizeLine;decide)
 have I2:Inv X pins σ H1 { s1 with heap:=s1.heap.push { cls:=.type "tuple",data:=.seq [L,u1,u2].toArray } }:=I1.kept (t':=s1.toks) λb o e=>zh _ e;rw[hw];refine zb (zd ?_)
 show wpAny (model X.prog X.w) X.A (do rule "assign.swapped-stores";let items <- unpackItems (.ref s1.heap.objs.size) 3 none;assignInOrder [λv=>bindName X.env z v,λv=>bindName X.env y v,λv=>bindName X.env x v] items.reverse;pure Flow.next) _ _ _
 refine zb (ye (zb (unpackItems_tuple (items:=#[L,u1,u2]) (I.ok.hd hc) (IsTup.new s1.heap _) λh' hx'=>?_)));have I3:=I2.kept (h':=h') (t':=s1.toks) λb o e=>hx' b o (zA (zt e)) e;show wpAny _ _ (assignInOrder [λv=>bindName X.env z v,λv=>bindName X.env y v,λv=>bindName X.env x v] [u2,u1,L] >>= λ_=>pure Flow.next) _ _ _;refine zb (assignInOrder_cons (wpAny_bindName (qd I3 hN hk (.inl hz) rw' (λs2 I4=>?_) (.inr hz))));refine assignInOrder_cons (wpAny_bindName (qd I4 hN hj (.inl hy) rv (λs3 I5=>?_) (.inr hy)));refine assignInOrder_cons (wpAny_bindName (qd I5 hN hi (.inl hx) rt (λs4 I6=>assignInOrder_nil (zd ?_)) (.inr hx)));exact⟨_,H1,I6,q1⟩
end
section
variable {A:AC}{X:Cx}{a b c:Expr}{pos:Pos}
end
end L2
namespace L2.Srt
open PySem PyProof.Rows
def lab(ls:Array Nat)(i:Nat):Nat:=ls.getD i 0
structure Rule(prog:Program)(w:World)(A:Around)(s:Shared)(n:Nat)(item:Nat->Keyed)(kd:SortKind)(r:Nat->Nat->Bool):Prop where
 tot:∀a b,a<n->b<n->a≠b->r a b=!r b a
 tr:∀a b c,a<n->b<n->c<n->r a b=true->r b c=true->r a c=true
 cmp:∀a b,a<n->b<n->a≠b->∀(E:QqV) (Q:Bool->Shared->Prop),Q (r a b) s->wpAny (model prog w) A (keyLt' kd (item a).1 (item b).1) Q E s
structure Now(n:Nat)(item:Nat->Keyed)(kd:SortKind)(ls:Array Nat)(t:SortSt):Prop where
 arr:arrOf t=ls.map item
 kd:kindOf t=kd
 ok:failedOf t=none
 pend:pendingOf t=#[]
 perm:ls.Perm (Array.range n)
def Up(r:Nat->Nat->Bool)(ls:Array Nat)(k:Nat):Prop:=∀i j,i<j->j<k->r (lab ls i) (lab ls j)=true
def xu8(r:Nat->Nat->Bool)(ls:Array Nat)(k:Nat):Prop:=∀i j,i<j->j<k->r (lab ls j) (lab ls i)=true
section
variable {n:Nat}{item:Nat->Keyed}{kd:SortKind}{r:Nat->Nat->Bool}{ls:Array Nat}{t:SortSt}
def Now.size(N:Now n item kd ls t):ls.size=n:=by rw[N.perm.size_eq,yO]
def Now.nodup(N:Now n item kd ls t):ls.toList.Nodup:=(Array.perm_iff_toList_perm.mp N.perm).nodup_iff.mpr (by rw[Array.toList_range];exact List.nodup_range)
def qj{i:Nat}(h:i<ls.size):ls[i]?=some (lab ls i):=by
 unfold lab;rw[Array.getD_eq_getD_getElem?,xS h];rfl
def Now.lt(N:Now n item kd ls t){i:Nat}(h:i<n):lab ls i<n:=by
 have e:=qj (ls:=ls) (i:=i) (by rw[N.size];exact h)
 have m:lab ls i∈ls:=Array.mem_of_getElem? e;have J:lab ls i∈Array.range n:=(N.perm.mem_iff).mp m
 rwa [Array.mem_range] at J
def Now.ne(N:Now n item kd ls t){i j:Nat}(hi:i<n)(O:j<n)(h:i≠j):lab ls i≠lab ls j:=λe=>by
 have hi':i<ls.toList.length:=by rw[xJ,N.size];exact hi
 have hj':j<ls.toList.length:=by rw[xJ,N.size];exact O
 have L:=qj (ls:=ls) (i:=i) (by rw[N.size];exact hi)
 have J:=qj (ls:=ls) (i:=j) (by rw[N.size];exact O)
 rw[<- wT,ze hi'] at L;rw[<- wT,ze hj'] at J;have f:=wQ.mp N.nodup
 rcases Nat.lt_or_gt_of_ne h with g |g
 ·exact f i j hi' hj' g (by rw[zP L,zP J,e])
 ·exact f j i hj' hi' g (by rw[zP L,zP J,e])
def jP{k v:Nat}(h:as[k]?=some v):lab as k=v:=by
 unfold lab;rw[Array.getD_eq_getD_getElem?,h];rfl
def zD1{J d:Nat}(hs:J<ls.size)(hd:d<=J){k:Nat}(hk:k<ls.size):lab (bubble ls J d) k=if k=J-d then lab ls J else if J-d<k/\k<=J then lab ls (k-1) else lab ls k:=by
 refine jP ?_;rw[getElem?_bubble hs d hd k]
 split
 ·exact qj hs
 ·split
  ·exact qj q5
  ·exact qj hk
def xd6{J d:Nat}(hs:J<ls.size)(hd:d<=J):bubble (ls.map item) J d=(bubble ls J d).map item:=by
 refine Array.ext_getElem? λk=>?_
 rw[getElem?_bubble (by simpa using hs) d hd k]
 simp only[ym];rw[getElem?_bubble hs d hd k]
 split
 ·rfl
 ·split<;>rfl
def zv9{i j:Nat}(J:j<=ls.size){k:Nat}(hk:k<ls.size):lab (mirror ls i j ((j-i)/2)) k=if i<=k/\k<j then lab ls (i+j-1-k) else lab ls k:=by
 refine jP ?_;rw[getElem?_mirror_all J k]
 split
 ·exact qj q5
 ·exact qj hk
def zZ8{i j:Nat}(J:j<=ls.size):mirror (ls.map item) i j ((j-i)/2)=(mirror ls i j ((j-i)/2)).map item:=by
 refine Array.ext_getElem? λk=>?_
 rw[getElem?_mirror_all (by simpa using J) k]
 simp only[ym];rw[getElem?_mirror_all J k]
 split<;>rfl
def Now.bub(N:Now n item kd ls t){J d:Nat}(hs:J<n)(hd:d<=J):Now n item kd (bubble ls J d) (setArr t (bubble (arrOf t) J d)):=
 ⟨by show bubble (arrOf t) J d=_;rw[N.arr];exact xd6 (by rw[N.size];exact hs) hd,N.kd,N.ok,N.pend,(bubble_perm _ _ _).trans N.perm⟩
def Now.mir(N:Now n item kd ls t){i j:Nat}(J:j<=n):Now n item kd (mirror ls i j ((j-i)/2)) (setArr t (mirror (arrOf t) i j ((j-i)/2))):=
 ⟨by show mirror (arrOf t) i j _=_;rw[N.arr];exact zZ8 (by rw[N.size];exact J),N.kd,N.ok,N.pend,(mirror_perm _ _ _ _).trans N.perm⟩
end
section
variable {prog:Program}{w:World}{A:Around}{E:QqV}{s:Shared}{n:Nat}{item:Nat->Keyed}{kd:SortKind}{r:Nat->Nat->Bool}{ls:Array Nat}{t:SortSt}
def zD7(R:Rule prog w A s n item kd r)(N:Now n item kd ls t){i j:Nat}(hi:i<n)(J:j<n)(L:i≠j)(q:Q (some (r (lab ls i) (lab ls j))) t):wpS (model prog w) A E s (ltAt' i j) Q t:=by
 have Y:(arrOf t)[i]?=some (item (lab ls i)):=by rw[N.arr,ym,qj (by rw[N.size];exact hi)];rfl
 have O:(arrOf t)[j]?=some (item (lab ls j)):=by rw[N.arr,ym,qj (by rw[N.size];exact J)];rfl
 rw[ltAt'_eq];refine xu (wpS_get ?_);show wpS (model prog w) A E s (elem' (arrOf t) i >>= λx=>elem' (arrOf t) j >>= λy=>lt' x y) Q t;rw[elem'_eq,elem'_eq,Y,O];refine xu (wy (xu (wy ?_)));rw[lt'_eq];refine xu (wpS_get (xu (wpS_lift (wpAny_attempt ?_))));rw[N.kd];exact R.cmp _ _ (N.lt hi) (N.lt J) (N.ne hi J L) _ _ ⟨rfl,wy q⟩
def asc(R:Rule prog w A s n item kd r)(N:Now n item kd ls t){a:Nat}(h1:1<=a)(ha:a<=n)(U:Up r ls a)(q:∀m,a<=m->m<=n->Up r ls m->(m<n->r (lab ls m) (lab ls (m-1))=true)->Q (none,m) t):wpS (model prog w) A E s (ascLoop a n) Q t:=by
 unfold ascLoop;refine wpS_forRange (λx c t'=>t'=t/\c=(none,x)/\Up r ls x) ?_ ?_ ⟨rfl,rfl,U⟩
 ·rintro x c t' hx J ⟨e, e', V⟩;subst e e'
  refine xu (zD7 R N J (by show x-1<n;lia) (by show x≠x-1;lia) ?_)
  cases z:r (lab ls x) (lab ls (x-1))
  ·refine wy ⟨rfl, rfl, λi j O Y => ?_⟩
   by_cases L:j<x
   ·exact V i j O L
   ·obtain rfl : j = x := by lia
    have up:r (lab ls (j-1)) (lab ls j)=true:=by rw[R.tot _ _ (N.lt q5) (N.lt J) (N.ne q5 J q5),z];rfl
    by_cases hi:i=j-1
    ·rw[hi];exact up
    ·exact R.tr _ _ _ (N.lt q5) (N.lt q5) (N.lt J) (V i (j-1) q5 q5) up
  ·exact wy (q x hx q5 V λ_=>z)
 ·rintro c t' ⟨e, e', V⟩;subst e e'
  have:max a n=n:=q5
  rw[this] at V ⊢;exact q n ha (zo n) V λh=>absurd h (xx n)
def turned(R:Rule prog w A s n item kd r)(N:Now n item kd ls t){a:Nat}(h1:1<=a)(ha:a<=n)(V:xu8 r ls a)(q:∀m ls' t',1<=m->m<=n->Now n item kd ls' t'->Up r ls' m->Q (some m) t'):wpS (model prog w) A E s (tail3 a n) Q t:=by
 unfold tail3;refine xu (wpS_reverse ?_);have N':=N.mir (i:=0) ha;have hsz:=N.size
 refine xu (asc R N' h1 ha (λi j J O=>?_) λm Y L U _=>wy (q m _ _ q5 L N' U))
 rw[zv9 q5 q5,zv9 q5 q5,if_pos q5,if_pos q5]
 exact V _ _ q5 q5
def xc3(R:Rule prog w A s n item kd r)(N:Now n item kd ls t){a:Nat}(h1:1<=a)(ha:a<=n)(V:xu8 r ls a)(q:∀m,a<=m->m<=n->xu8 r ls m->Q (none,m,0) t):wpS (model prog w) A E s (descLoop a n) Q t:=by
 unfold descLoop;refine wpS_forRange (λx c t'=>t'=t/\c=(none,x,0)/\xu8 r ls x) ?_ ?_ ⟨rfl,rfl,V⟩
 ·rintro x c t' hx J ⟨e, e', W⟩;subst e e'
  refine xu (zD7 R N J (by show x-1<n;lia) (by show x≠x-1;lia) ?_)
  cases z:r (lab ls x) (lab ls (x-1))
  ·have up : r (lab ls (x - 1)) (lab ls x) = true := by rw [R.tot _ _ (N.lt q5) (N.lt J) (N.ne q5 J q5), z]; rfl
   refine xu (zD7 R N (by show x-1<n;lia) J (by show x-1≠x;lia) ?_)
   rw[up]
   exact wy (q x hx q5 W)
  ·refine wy ⟨rfl, rfl, λi j O Y => ?_⟩
   by_cases L:j<x
   ·exact W i j O L
   ·obtain rfl : j = x := by lia
    by_cases hi:i=j-1
    ·rw[hi];exact z
    ·exact R.tr _ _ _ (N.lt J) (N.lt q5) (N.lt q5) z (W i (j-1) q5 q5)
 ·rintro c t' ⟨e, e', W⟩;subst e e'
  have:max a n=n:=q5
  rw[this] at W ⊢;exact q n ha (zo n) W
def run(R:Rule prog w A s n item kd r)(N:Now n item kd ls t)(h1:1<=n)(q:∀m ls' t',1<=m->m<=n->Now n item kd ls' t'->Up r ls' m->Q (some m) t'):wpS (model prog w) A E s (countRun' 0 n) Q t:=by
 rw[countRun0_eq]
 refine xu (asc R N (zo 1) h1 (λi j J hj=>by lia) λm O L U Y=>?_)
 show wpS (model prog w) A E s (if (m == n)=true then _ else if m > 1 then _ else _) Q t
 by_cases e:m=n
 ·rw [if_pos (by simpa using e)]
  exact wy (q m _ _ O L N U)
 ·rw [if_neg (by simpa using e)]
  by_cases g:m > 1
  ·rw [if_pos g]
   refine xu (zD7 R N q5 q5 q5 ?_)
   rw[U 0 (m-1) q5 q5]
   exact wy (q m _ _ O L N U)
  ·rw [if_neg g]
   obtain rfl:m=1:=q5
   unfold descPart;refine xu (wpS_lift (ye ⟨rfl,?_⟩))
   refine xu (xc3 R N q5 q5 (λi j J hj=>?_) λk h4 h5 W=>?_)
   ·obtain ⟨rfl, rfl⟩ : i = 0 /\ j = 1 := by lia
    exact Y q5
   ·show wpS (model prog w) A E s (if 0 > 0 then _ else tail3 k n) Q t
    rw[if_neg (xx 0)]
    exact turned R N q5 h5 W q
def xC8(R:Rule prog w A s n item kd r)(N:Now n item kd ls t){m:Nat}(hm:m<=n)(U:Up r ls m)(q:∀ls' t',Now n item kd ls' t'->Up r ls' n->Q true t'):wpS (model prog w) A E s (binarySort' 0 n m) Q t:=by
 rw[binarySort'_eq];simp only[Nat.zero_add]
 refine xu (wpS_mono (wpS_forRange (λk c t'=>c=(none,())/\∃ls',Now n item kd ls' t'/\Up r ls' (min k n)) (Q:=λc t'=>c=(none,())/\∃ls',Now n item kd ls' t'/\Up r ls' n) ?_ ?_ ⟨rfl,ls,N,λi j L hj=>U i j L q5⟩) ?_)
 ·rintro k c t' hk J ⟨rfl, ls', N', U'⟩
  have ek:min k n=k:=q5
  rw[ek] at U';have hsz:=N'.size
  refine xu (wpS_mono (wpS_forRange (λx c t2=>t2=t'/\∃l h,c=(none,l,h)/\l<=h/\h<=k/\h-l<=k-x/\(∀i,i<l->r (lab ls' i) (lab ls' k)=true)/\∀i,h<=i->i<k->r (lab ls' k) (lab ls' i)=true)
   (Q:=λc t2=>t2=t'/\∃l h,c=(none,l,h)/\l<=k/\(∀i,i<l->r (lab ls' i) (lab ls' k)=true)/\∀i,l<=i->i<k->r (lab ls' k) (lab ls' i)=true) ?_ ?_ ⟨rfl,0,k,rfl,q5,q5,q5,λi hi=>by lia,λi h1 h2=>by lia⟩) ?_)
  ·rintro x c t2 _ hx ⟨rfl, l, h, rfl, g1, g2, g3, Y, O⟩;dsimp only
   by_cases hd:l>=h
   ·rw [if_pos hd]
    exact wy ⟨rfl,l,h,rfl,q5,Y,λi i1 i2=>O i q5 i2⟩
   ·rw [if_neg hd]
    refine xu (zD7 R N' J q5 q5 ?_)
    cases z:r (lab ls' k) (lab ls' ((l+h)/2))
    ·have up : r (lab ls' ((l + h) / 2)) (lab ls' k) = true := by rw [R.tot _ _ (N'.lt q5) (N'.lt J) (N'.ne q5 J q5), z]; rfl
     refine wy ⟨rfl,(l+h)/2+1,h,rfl,q5,q5,q5,λi hi=>?_,O⟩
     by_cases e:i=(l+h)/2
     ·rw[e];exact up
     ·exact R.tr _ _ _ (N'.lt q5) (N'.lt q5) (N'.lt J) (U' i _ q5 q5) up
    ·refine wy ⟨rfl, l, (l + h) / 2, rfl, by lia, by lia, by lia, Y, λi i1 i2 => ?_⟩
     by_cases e:i=(l+h)/2
     ·rw[e];exact z
     ·exact R.tr _ _ _ (N'.lt J) (N'.lt q5) (N'.lt q5) z (U' _ i q5 q5)
  ·rintro c t2 ⟨rfl, l, h, rfl, g1, g2, g3, Y, O⟩
   exact⟨rfl,l,h,rfl,q5,Y,λi i1 i2=>O i q5 i2⟩
  ·rintro c t2 ⟨rfl, l, h, rfl, g1, g2, g3⟩;show wpS (model prog w) A E s (moveDown' k l >>= λ_=>pure (ForInStep.yield (none,()))) _ t2;rw[moveDown'_eq]
   refine xu (wpS_modify (wy ⟨rfl,_,N'.bub J (d:=k-l) q5,?_⟩))
   have e2:min (k+1) n=k+1:=q5
   rw[e2];intro i j L hj
   have el:k-(k-l)=l:=q5
   rw[zD1 q5 q5 q5,zD1 q5 q5 q5,el]
   by_cases c1:i=l
   ·rw [if_pos c1, if_neg q5, if_pos q5]
    exact g3 _ q5 q5
   ·rw [if_neg c1]
    by_cases c2:j=l
    ·rw [if_pos c2, if_neg q5]
     exact g2 _ q5
    ·rw [if_neg c2]
     split
     ·split
      ·exact U' _ _ q5 q5
      ·exfalso;lia
     ·split
      ·exact U' _ _ q5 q5
      ·exact U' _ _ q5 q5
 ·rintro c t' ⟨rfl, ls', N', U'⟩
  have:min (max (max m 1) n) n=n:=q5
  rw[this] at U';exact⟨rfl,ls',N',U'⟩
 ·rintro c t' ⟨rfl,ls',N',U'⟩;exact wy (q ls' t' N' U')
def all(R:Rule prog w A s n item kd r)(N:Now n item kd ls t)(h2:2<=n)(aa:n<64)(q:∀ls' t',arrOf t'=ls'.map item->failedOf t'=none->ls'.Perm (Array.range n)->Up r ls' n->Q () t'):wpS (model prog w) A E s sortRuns' Q t:=by
 rw[sortRuns'_eq];refine xu (wpS_get ?_)
 have ad:(arrOf t).size=n:=by rw[N.arr,Array.size_map,N.size]
 have O:minRun' n n 0=n:=by
  cases n with
  |zero=>lia
  |succ f=>rw[minRun'_succ,if_pos aa]
 dsimp only;simp only[ad,O]
 let Fin:SortSt->Prop:=λt'=>∃ls',arrOf t'=ls'.map item/\failedOf t'=none/\pendingOf t'=#[(0,n,0)]/\ls'.Perm (Array.range n)/\Up r ls' n
 have J:∀{ls':Array Nat}{t':SortSt},Now n item kd ls' t'->Up r ls' n->Fin (setPending t' ((pendingOf t').push (0,n,0))):=λ{ls' t'} N' U'=>⟨ls',N'.arr,N'.ok,by show(pendingOf t').push _=_;rw[N'.pend];rfl,N'.perm,U'⟩
 refine xu (wpS_mono (wpS_forRange (λx c t'=>(x=0/\c=(none,0)/\t'=t)\/(0<x/\c=(none,n)/\Fin t')) (Q:=λc t'=>c=(none,n)/\Fin t') ?_ ?_ (.inl ⟨rfl,rfl,rfl⟩)) ?_)
 ·rintro x c t' _ hx (⟨rfl, rfl, rfl⟩ | ⟨h0, rfl, F⟩)
  ·dsimp only
   rw[if_neg q5]
   simp only[Nat.sub_zero,Nat.min_self,Nat.zero_add]
   refine xu (run R N q5 λm ae t2 h1 hm N2 U2=>?_)
   dsimp only
   have rest:∀{L:Array Nat}{t3:SortSt},Now n item kd L t3->Up r L n->(pendingOf t3).back?=none:=λY _=>by rw[Y.pend];rfl
   by_cases c:m<n
   ·rw [if_pos c];refine xu (wpS_lift (ye ⟨rfl,?_⟩));refine xu (xC8 R N2 hm U2 λL t3 Y U3=>?_);simp only[Bool.not_true,zY,if_false];refine xu (wpS_get ?_);rw[rest Y U3]
    exact xu (wpS_modify (wy (.inr ⟨q5,rfl,J Y U3⟩)))
   ·rw [if_neg c]
    obtain rfl:m=n:=q5
    refine xu (wpS_get ?_);rw[rest N2 U2]
    exact xu (wpS_modify (wy (.inr ⟨q5,rfl,J N2 U2⟩)))
  ·dsimp only;rw[if_pos (zo _)];exact wy ⟨rfl,F⟩
 ·rintro c t' (⟨h, _⟩ | ⟨_, h1, F⟩)
  ·lia
  ·exact⟨h1,F⟩
 ·rintro c t' ⟨rfl, ls', e1, e2, e3, e4, e5⟩;refine xu (wpS_mono (wpS_forRange (λ_ c t2=>t2=t'/\c=(none,())) (Q:=λc t2=>t2=t'/\c=(none,())) ?_ (λ_ _ h=>h) ⟨rfl,rfl⟩) ?_)
  ·rintro x c t2 _ _ ⟨rfl, rfl⟩;refine xu (wpS_get ?_)
   rw[if_pos (by rw[e3];exact zo 1)]
   exact wy ⟨rfl,rfl⟩
  ·rintro c t2 ⟨rfl,rfl⟩;exact wy (q ls' _ e1 e2 e4 e5)
end
abbrev XO(vs:QqW):Nat->Keyed:=λi=>(vs.getD i .none,vs.getD i .none)
def XI(vs:QqW):vs.toArray.zip vs.toArray=(Array.range vs.length).map (XO vs):=by
 refine Array.ext_getElem? λk=>?_;rw[ym]
 by_cases h:k<vs.length
 ·have L : (Array.range vs.length)[k]? = some k := by rw [Array.getElem?_range, if_pos h]
  rw[L]
  have J:(vs.toArray.zip vs.toArray)[k]?=some (vs[k],vs[k]):=by
   rw[xS (by simpa using h)]
   simp
  rw[J];simp[XO,zS,h]
 ·rw [wJ (by simp; lia), wJ (by simp; lia)]
  rfl
section
variable {prog:Program}{w:World}{A:Around}{E:QqV}{s:Shared}{r:Nat->Nat->Bool}{kd:SortKind}
abbrev Wu(h:Heap)(a:Addr)(vs:QqW):Heap:=((h.update a (Obj.mapSeq λ_=>#[])).push (seqObj "tuple" vs.toArray 0)).push (seqObj "list" #[] 0)
def xb6{k:Nat}(J:s.heap.get? a=some (seqObj "list" vs.toArray k))(aa:vs.length<64)
  (hk:2<=vs.length->∀(E:QqV) (Q:SortKind->Shared->Prop),Q kd { s with heap:=Wu s.heap a vs }->wpAny (model prog w) A (keyKind' vs.toArray) Q E { s with heap:=Wu s.heap a vs })
  (hR:2<=vs.length->Rule prog w A { s with heap:=Wu s.heap a vs } vs.length (XO vs) kd r)
  (q:∀ls:Array Nat,ls.Perm (Array.range vs.length)->Up r ls vs.length->Q (.done (.ret .none)) { s with heap:=sortedHeap s.heap a vs (ls.map λi=>vs.getD i .none) }) :
  wpAny (model prog w) A (Builtin.«list.sort» ⟨[.ref a],[]⟩) Q E s:=by
 have la:=zt J;obtain⟨Y,at1⟩:∃Y,(s.heap.update a (Obj.mapSeq λ_=>#[])).get? a=some (seqObj "list" #[] Y):=⟨_,get?_update_seq J _⟩
 have O:(Wu s.heap a vs).get? a=some (seqObj "list" #[] Y):=by
  have n1:a≠((s.heap.update a (Obj.mapSeq λ_=>#[])).push (seqObj "tuple" vs.toArray 0)).objs.size:=by rw[size_push',Heap.size_update];exact zA (wL la)
  have n2:a≠(s.heap.update a (Obj.mapSeq λ_=>#[])).objs.size:=by rw[Heap.size_update];exact zA la
  exact(Heap.get?_push_ne _ _ _ n1).trans ((Heap.get?_push_ne _ _ _ n2).trans at1)
 rw[list_sort_plain];refine zb (listItems_at J rfl ?_);refine zb (listUpdate_at J rfl (zb (seqEpoch_at at1 rfl ?_)));refine zb (wpAny_newTuple (zb (wpAny_newList (xr ?_))));show wpAny (model prog w) A _ Q E { s with heap:=Wu s.heap a vs };dsimp only
 have fin:∀(t:SortSt) (ls:Array Nat),arrOf t=ls.map (XO vs)->failedOf t=none->ls.Perm (Array.range vs.length)->Up r ls vs.length ->
   wpAny (model prog w) A (do
    let touched:=(<- seqEpoch a) != Y
    Builtin.List.listUpdate (.ref a) λ_=>(arrOf t).map (·.2)
    if let some e:=failedOf t then rule "list.sort.comparison-raised";throw e
    if touched then rule "list.sort.modified";raiseError "ValueError" "list modified during sort"
    ret .none) Q E { s with heap:=Wu s.heap a vs }:=λt ls h1 L h3 h4=>by
  have ea:(arrOf t).map (·.2)=ls.map λi=>vs.getD i .none:=by rw[h1,Array.map_map];rfl
  have es:((arrOf t).map (·.2)).size<=64:=by rw[ea,Array.size_map,h3.size_eq,yO];lia
  refine zb (seqEpoch_at O rfl ?_)
  refine zb (listUpdate_at O rfl ?_ (hsz2:=by rw[sizeLine_eq];exact zK es q9))
  rw[L,ea];simp only[bne_self_eq_false,zY,if_false];exact zd (q ls h3 h4)
 by_cases c:vs.toArray.size<2
 ·rw [if_pos c, if_pos c];refine zb (zd ?_);rw[StateT.run_pure];refine zb (zd (fin _ (Array.range vs.length) (XI vs) rfl (Array.Perm.refl _) λi j ad hj=>?_))
  have:vs.length<2:=by simpa using c
  lia
 ·rw [if_neg c, if_neg c]
  have L:2<=vs.length:=by simpa using c
  refine zb (hk L _ _ ?_);have N0:Now vs.length (XO vs) kd (Array.range vs.length) (SortSt.mk' kd (vs.toArray.zip vs.toArray) #[] 7 none):=⟨XI vs,rfl,rfl,rfl,Array.Perm.refl _⟩;refine zb (wv (all (hR L) N0 L aa (Q:=λ_ t=>∃ls:Array Nat,arrOf t=ls.map (XO vs)/\failedOf t=none/\ls.Perm (Array.range vs.length)/\Up r ls vs.length) λls t a1 a2 a3 a4=>⟨ls,a1,a2,a3,a4⟩) ?_ λ_ _ e=>e);rintro⟨_,t⟩ s' ⟨rfl,ls,a1,a2,a3,a4⟩;exact fin t ls a1 a2 a3 a4
def zp6(hl:s.heap.IsList l vs.toArray)(aa:vs.length<64)
    (hk:2<=vs.length->∀(h':Heap),(∀b o,s.heap.get? b=some o->h'.get? b=some o)->∀(B:Around),B.units<=A.units+3->∀(E:QqV) (Q:SortKind->Shared->Prop),Q kd { s with heap:=h' }->wpAny (model prog w) B (keyKind' vs.toArray) Q E { s with heap:=h' })
    (hR:2<=vs.length->∀(h':Heap),(∀b o,s.heap.get? b=some o->h'.get? b=some o)->∀(B:Around),B.units<=A.units+3->Rule prog w B { s with heap:=h' } vs.length (XO vs) kd r)
    (q:∀ls:Array Nat,ls.Perm (Array.range vs.length)->Up r ls vs.length->Q (.ref (s.heap.objs.size+1)) { s with heap:=sortedAll s.heap vs (ls.map λi=>vs.getD i .none) }) :
    wpAny (model prog w) A (call (.builtin "sorted") [.ref l]) Q E s:=by
  refine Calls.call_function_entry kind_sorted plain_sorted entry_sorted (args_sorted1 _) ?_;unfold Builtin.«sorted»;refine zb (m:=checkCount "sorted" 1 1 _) (zd (zb (collect_list hl (zb (wpAny_newList ?_)))))
  have z1:((s.heap.push (seqObj "list" #[] 0)).update s.heap.objs.size (Obj.mapSeq (·++vs.toArray))).objs.size=s.heap.objs.size+1:=by rw[Heap.size_update,size_push']
  let h1:Heap:=((s.heap.push (seqObj "list" #[] 0)).update s.heap.objs.size (Obj.mapSeq (·++vs.toArray))).push (seqObj "list" vs.toArray 0)
  have at1:h1.get? (s.heap.objs.size+1)=some (seqObj "list" vs.toArray 0):=by rw[<- z1];exact zr _ rfl
  have O:∀b o,s.heap.get? b=some o->h1.get? b=some o:=λb o e=>by
    have Y:=zt e;refine zh _ ?_;rw[Heap.get?_update_ne _ _ _ _ (zA Y)];exact zh _ e
  have J:∀b o,s.heap.get? b=some o->(Wu h1 (s.heap.objs.size+1) vs).get? b=some o:=λb o e=>by
    have Y:=zt e;refine zh _ (zh _ ?_);rw[Heap.get?_update_ne _ _ _ _ (zA (wL Y))];exact O b o e
  have eH:∀L:Array Value,sortedHeap h1 (s.heap.objs.size+1) vs L=sortedAll s.heap vs L:=λ_=>rfl
  have body:∀B:Around,B.units<=A.units+3->∀(E:QqV) (P:Fin->Shared->Prop),(∀ls:Array Nat,ls.Perm (Array.range vs.length)->Up r ls vs.length->P (.done (.ret .none)) { s with heap:=sortedAll s.heap vs (ls.map λi=>vs.getD i .none) }) ->
      wpAny (model prog w) B (Builtin.«list.sort» ⟨[.ref (s.heap.objs.size+1)],[]⟩) P E { s with heap:=h1 }:=λB hB E P p=>
    xb6 (s:={ s with heap:=h1 }) at1 aa (λh2 E Q q=>hk h2 _ J B hB E Q q) (λh2=>hR h2 _ J B hB) λls a1 a2=>by
      show P _ { s with heap:=sortedHeap h1 (s.heap.objs.size+1) vs _ };rw[eH];exact p ls a1 a2
  show wpAny _ _ _ _ _ { s with heap:=h1 };rw[z1]
  clear_value h1
  refine zb (xr (wj slot_list_sort ⟨_,at1,rfl⟩ entry_list_sort (body _ ?_ _ _ λls a1 a2=>⟨_,rfl,zd ⟨_,rfl,q ls a1 a2⟩⟩) (args_list_sort _)));show A.units+1+1<=A.units+3;lia
end
end L2.Srt
namespace L2.Srt
open PySem PyProof.Rows PySem.SeqAt
section
variable {prog:Program}{w:World}{M:Model}{A:Around}{E:QqV}{s:Shared}
theorem zn2{α β:Type}{f:α->Sem β}{g:α->β}:∀{l:List α}{Q:List β->Shared->Prop},(∀a∈l,∀Q:β->Shared->Prop,Q (g a) s->wpAny M A (f a) Q E s)->Q (l.map g) s->wpAny M A (l.mapM f) Q E s
 |[],Q,_,q=>by rw[List.mapM_nil];exact zd q
 |a::l,Q,h,q=>by
  rw[List.mapM_cons];refine zb (h a (xf ..) _ (zb (zn2 (λb J=>h b (zn _ J)) (zd q))))
def zn3{α β:Type}{f:α->Sem β}{g:α->β}{l:List α}{Q:Array β->Shared->Prop}(h:∀a∈l,∀Q:β->Shared->Prop,Q (g a) s->wpAny M A (f a) Q E s)(q:Q (l.map g).toArray s):wpAny M A (l.toArray.mapM f) Q E s:=by
 rw[List.mapM_toArray];show wpAny M A (List.toArray <$> l.mapM f) Q E s;rw[map_eq_pure_bind];exact zb (zn2 h (zd q))
def Xe(v:Value):firstOfTuple' v=(do
  if (<- typeOf v) != .type "tuple" then return none
  return (<- Builtin.List.listItems v)[0]?):=rfl
def Tup(h:Heap)(v:Value)(p:Value)(rest:QqW):Prop:=∃a,v=.ref a/\IsTup h a (p::rest).toArray
def Tup.type{v p:Value}{rest:QqW}(t:Tup s.heap v p rest):s.TypeIs v "tuple" := by
 obtain⟨a,rfl,o,ho,J,_⟩:=t;exact⟨o,ho,J⟩
def Tup.items{v p:Value}{rest:QqW}(t:Tup s.heap v p rest){Q:Array Value->Shared->Prop}(q:Q (p::rest).toArray s):wpAny M A (Builtin.List.listItems v) Q E s:=by
 obtain⟨a,rfl,o,ho,J,n,hd⟩:=t;exact listItems_at ho hd q
def Wh{vs:QqW}{fst:Value->Value}{T:String}(O:2<=vs.length)(ht:∀v∈vs,∃rest,Tup s.heap v (fst v) rest)(L:∀v∈vs,s.TypeIs (fst v) T){Q:SortKind->Shared->Prop}(q:Q (tuples' (Value.type T != Value.type "tuple")) s):wpAny M A (keyKind' vs.toArray) Q E s:=by
  rw[keyKind'_eq];refine zb (zn3 (g:=λv=>some (fst v)) (λv J Q q=>?_) ?_)
  · obtain ⟨rest, t⟩ := ht v J
    rw[Xe];refine zb (wpAny_typeOf t.type ?_)
    have e:(Value.type "tuple" != Value.type "tuple")=false:=by rfl
    rw[e];exact zb (t.items (zd q))
  · have e : (vs.map λv => some (fst v)).toArray.all (·.isSome) = true := by simp
    rw[if_pos e];refine zb (ye ?_)
    have e2:((vs.map λv=>some (fst v)).toArray.filterMap id)=(vs.map fst).toArray:=by
      simp[yl]
    rw[e2,oneTypeOnly'_eq];refine zb (zb (zn3 (g:=λ_=>Value.type T) (λv J Q q=>?_) ?_))
    · obtain ⟨u, hu, rfl⟩ := zk.mp J
      exact wpAny_typeOf (L u hu) q
    · have e3 : ((vs.map fst).map λ_ => Value.type T).toArray[0]? = some (Value.type T) := by
        cases vs with
        |nil=>simp at O
        |cons v vs=>simp
      have Y:(((vs.map fst).map λ_=>Value.type T).toArray.all (· == Value.type T))=true:=by
        simp only[List.all_toArray,List.all_map,wY];intro _ _;show(Value.type T == Value.type T)=true;simp
      rw[e3];dsimp only;rw[Y];exact zd (zd q)
def UC(f:Bool)(x y:Value):keyLt' (tuples' f) x y=(do
  let xs <- Builtin.List.listItems x
  let ys <- Builtin.List.listItems y
  for ((p,q),i) in (xs.toList.zip ys.toList).zipIdx do
   if !(<- eqBool p q) then return <- oneLt' (f&&i == 0) p q
  return xs.size<ys.size):=rfl
inductive Lex(A:Around)(s:Shared)(f:Bool)(b:Bool):Nat->List Value->List Value->Prop
 |alike {i:Nat}{p q:Value}{ps qs:QqW}:EqAt A s p q true->Lex A s f b (i+1) ps qs->Lex A s f b i (p::ps) (q::qs)
 |here {i:Nat}{p q:Value}{ps qs:QqW}:EqAt A s p q false->(∀(prog:Program) (w:World) (E:QqV) (Q:Bool->Shared->Prop),Q b s->wpAny (model prog w) A (oneLt' (f&&i == 0) p q) Q E s)->Lex A s f b i (p::ps) (q::qs)
def Ji{f b:Bool}(tx:Tup s.heap x p ps)(ty:Tup s.heap y q qs)(L:Lex A s f b 0 (p::ps) (q::qs))(h:Q b s):wpAny (model prog w) A (keyLt' (tuples' f) x y) Q E s:=by
 rw[UC];refine zb (tx.items (zb (ty.items ?_)))
 refine zb (wpAny_forIn_list _ (λrest c s'=>s'=s/\c.1=none/\∃i xs ys,rest=(xs.zip ys).zipIdx i/\Lex A s f b i xs ys) (λc s'=>s'=s/\c.1=some b) ?turn ?fin _ _ ⟨rfl,rfl,0,p::ps,q::qs,by simp,L⟩ |> λz=>wv z ?post λ_ _ e=>e)
 case turn=>
  rintro⟨⟨u,v⟩,k⟩ rest c s' ⟨rfl,O,i,xs,ys,e,L⟩
  cases L with
  |alike he L=>
   rw[wX,zipIdx_cons] at e;injection e with J e2;injection J with J e3;injection J with e4 Y;subst e3 e4 Y;refine zb (he prog w _ _ ?_);simp only[Bool.not_true,zY,if_false];exact zd ⟨rfl,rfl,_,_,_,e2,L⟩
  |here he ho=>
   rw[wX,zipIdx_cons] at e;injection e with J e2;injection J with J e3;injection J with e4 Y;subst e3 e4 Y;refine zb (he prog w _ _ ?_);simp only[Bool.not_false,if_true];exact zb (ho prog w _ _ (zd ⟨rfl,rfl⟩))
 case fin=>
  rintro c s' ⟨_,_,i,xs,ys,e,L⟩
  cases L<;>(rw[wX,zipIdx_cons] at e;cases e)
 case post=>
  rintro c s' ⟨rfl,O⟩;obtain⟨c1,c2⟩:=c;simp only at O;subst O;exact zd h
def XR{i j:Int}(h:Q (decide (i<j)) s):wpAny (model prog w) A (oneLt' false (.int i t) (.int j u)) Q E s:=by
 rw[oneLt'_eq];simp only[zY,if_false];exact zb (show wpAny (model prog w) A (compareOp .Lt (.int i t) (.int j u)) _ _ _ from PyProof.Rows.lt_int (wK h))
def XQ(ha:IsTup s.heap a xs)(L:IsTup s.heap b ys)(hi:IntsAre xs.toList ns)(J:IntsAre ys.toList ms)(hu:A.units<cLine)(h:Q (HT.kD ns ms) s):wpAny (model prog w) A (oneLt' false (.ref a) (.ref b)) Q E s:=by
 rw[oneLt'_eq];simp only[zY,if_false];exact zb (show wpAny (model prog w) A (compareOp .Lt (.ref a) (.ref b)) _ _ _ from HT.Vm ha L hi J hu (wK h))
def ZW(f:Bool){i j:Int}(h:Q (decide (i<j)) s):wpAny (model prog w) A (oneLt' f (.int i t) (.int j u)) Q E s:=by
 cases f with
 |true=>exact oneLt_int h
 |false=>exact XR h
end
end L2.Srt
namespace L2
open PySem PySem.Spec PyProof.Rows PySem.SeqAt
def xL6(X:Cx)(H:Hp)(f:Bool)(y:V):Prop:=∀pins s σ v,Inv X pins σ H s->RelV y v->∃p rest,Srt.Tup s.heap v p rest/\s.TypeIs p (if f then "int" else "tuple")
def xL9(X:Cx)(H:Hp)(f:Bool)(y z:V)(b:Bool):Prop:=∀pins s σ u v,Inv X pins σ H s->RelV y u->RelV z v->∀A:Around,A.units+60<cLine->∃p ps q qs,Srt.Tup s.heap u p ps/\Srt.Tup s.heap v q qs/\Srt.Lex A s f b 0 (p::ps) (q::qs)
def zQ6(X:Cx):List V->Hp->VK->Prop:=λxs H Q=>∃(p:Addr) (ys:List V) (f:Bool) (r:Nat->Nat->Bool),xs=[.ref p]/\SqL X.K H p ys/\ys.length<64 /\
 (∀a b,a<ys.length->b<ys.length->a≠b->r a b=!r b a)/\(∀a b c,a<ys.length->b<ys.length->c<ys.length->r a b=true->r b c=true->r a c=true) /\
 (∀a,a<ys.length->xL6 X H f (ys.getD a .non))/\(∀a b,a<ys.length->b<ys.length->a≠b->xL9 X H f (ys.getD a .non) (ys.getD b .non) (r a b)) /\
 ∀ls:Array Nat,ls.Perm (Array.range ys.length)->Srt.Up r ls ys.length->∀l,H l=none->Q (.ref l) (upd H l (.lst (ls.toList.map λi=>ys.getD i .non)))
def Vals.getD(h:Vals xs us){i:Nat}(hi:i<xs.length):RelV (xs.getD i .non) (us.getD i .none):=by
 obtain⟨u,e,r⟩:=h.get (ze hi);rw[zS,zS,e,ze hi];exact r
theorem Xy(h:Vals xs us):∀{ls:List Nat},(∀i∈ls,i<xs.length)->Vals (ls.map λi=>xs.getD i .non) (ls.map λi=>us.getD i .none)
 |[],_=>.nil
 |i::ls,J=>.cons (h.getD (J i (xf ..))) (Xy h λj L=>J j (zn _ L))
section
variable {X:Cx}
def zl7{n:Nat}(hr:Room n X.A):kG X (.builtin "sorted") (zQ6 X):=by
 classical
 intro pins s σ H xs us Q I r h;obtain⟨p,ys,f,rr,rfl,hq,hn,tot,tr,Y,cmp,q⟩:=h;obtain⟨u,rfl,hu⟩:=ZH r;have hu':u=.ref p:=hu;subst hu';obtain⟨its,rv,pl,_⟩:=I.list hq;have len:=rv.length;have un:=hr.un
 have aa:∀v∈its,∃i,i<ys.length/\v=its.getD i .none:=λv J=>by
  obtain⟨i,hi,e⟩:=List.getElem_of_mem J
  exact⟨i,q5,by rw[zS,ze hi,e];rfl⟩
 refine Srt.zp6 (r:=rr) (kd:=tuples' f) pl.isList q5 (λh2 h' keep B hB E Q q=>?_) (λh2 h' keep B hB=>?_) (λls O hU=>?_)
 ·have I' : Inv X pins σ H { s with heap := h' } := I.kept (t' := s.toks) keep
  have each:∀v∈its,∃p rest,Srt.Tup h' v p rest/\Shared.TypeIs { s with heap:=h' } p (if f then "int" else "tuple"):=λv J=>by
   obtain⟨i,hi,rfl⟩:=aa v J;exact Y i hi pins _ σ _ I' (rv.getD hi)
  refine Srt.Wh (s:={ s with heap:=h' }) (T:=if f then "int" else "tuple") (fst:=λv=>if h:∃p rest,Srt.Tup h' v p rest/\Shared.TypeIs { s with heap:=h' } p (if f then "int" else "tuple") then h.choose else v) q5 (λv J=>?_) (λv J=>?_) ?_
  ·have e := each v J;obtain⟨rest,t,_⟩:=e.choose_spec
   exact⟨rest,by rw[dif_pos e];exact t⟩
  ·have e := each v J;obtain⟨rest,_,t⟩:=e.choose_spec
   show Shared.TypeIs _ (if h:_ then _ else _) _
   rw[dif_pos e];exact t
  ·cases f
   ·exact q
   ·exact q
 ·have I' : Inv X pins σ H { s with heap := h' } := I.kept (t' := s.toks) keep
  refine⟨λa b ha hb=>tot a b q5 q5,λa b c ha hb hc=>tr a b c q5 q5 q5,λa b ha hb ae E Q q=>?_⟩
  obtain⟨p1,ps,p2,qs,t1,t2,L⟩:=cmp a b q5 q5 ae pins _ σ _ _ I' (rv.getD q5) (rv.getD q5) B q5
  exact Srt.Ji t1 t2 L q
 ·obtain ⟨e, he⟩ := sortedAll_at s.heap its (ls.map λi => its.getD i .none);have hf:H (s.heap.objs.size+1)=none:=I.hok.fresh (wl _)
  have ad:∀i∈ls.toList,i<ys.length:=λi hi=>by
   have:=(O.mem_iff).mp (Array.mem_toList_iff.mp hi);rw[Array.mem_range] at this;lia
  rw[<- len] at O hU;refine⟨.ref (s.heap.objs.size+1),_,I.laid (t':=s.toks) (o:=.lst (ls.toList.map λi=>ys.getD i .non)) (λb u e=>sortedAll_old e) (wl _) ?_,rfl,q ls O hU _ hf⟩;refine⟨?_,(ls.toList.map λi=>its.getD i .none),e,Xy rv ad,?_⟩
  ·rw [zg, xJ, O.size_eq, yO]
   exact zK (yv hn) q9
  ·have ea : (ls.toList.map λi => its.getD i .none).toArray = ls.map λi => its.getD i .none := by rw [<- Array.toList_map, yx]
   rw[ea];exact he
end
inductive SKey where
 |n (i:Int) |t (ns:List Int)
 deriving DecidableEq
def SKey.d:SKey->D
 |.n i=>.int i
 |.t ns=>.tup (ns.map D.int)
def SKey.num:SKey->Bool
 |.n _=>true
 |.t _=>false
def SKey.lt:SKey->SKey->Bool
 |.n i,.n j=>decide (i<j)
 |.t ns,.t ms=>HT.kD ns ms
 |_,_=>false
structure SRow where
 key:SKey
 name:Int
 rest:List D
def SRow.d(x:SRow):D:=.tup (x.key.d::.int x.name::x.rest)
def SRow.lt(x y:SRow):Bool:=if x.key=y.key then decide (x.name<y.name) else x.key.lt y.key
theorem ze3:∀(xs ys:List Int),xs≠ys->HT.kD xs ys=!HT.kD ys xs
 |[],[],h=>absurd rfl h
 |[],y::ys,_=>rfl
 |x::xs,[],_=>rfl
 | x :: xs, y :: ys, h => by
  rw[HT.qq,HT.qq]
  by_cases e:x=y
  ·subst e;rw[if_pos rfl,if_pos rfl]
   exact ze3 xs ys λz=>h (by rw[z])
  ·rw [if_neg e, if_neg (Ne.symm e)]
   by_cases l:x<y
   ·rw[xh l,zN q5];rfl
   ·rw[zN l,xh q5];rfl
theorem zw7:∀(xs:List Int),HT.kD xs xs=false
 |[]=>rfl
 |x::xs=>by rw[HT.qq,if_pos rfl];exact zw7 xs
theorem Je:∀(xs ys O:List Int),HT.kD xs ys=true->HT.kD ys O=true->HT.kD xs O=true
 |[],[],_,h,_=>by cases h
 |[],_::_,[],_,h=>by cases h
 |[],_::_,_::_,_,_=>rfl
 |_::_,[],_,h,_=>by cases h
 |_::_,_::_,[],_,h=>by cases h
 | x :: xs, y :: ys, z :: O, h1, J => by
  rw[HT.qq] at h1 J ⊢
  by_cases Y:x=y
  ·subst Y;rw[if_pos rfl] at h1
   by_cases L:x=z
   ·subst L;rw[if_pos rfl] at J ⊢;exact Je xs ys O h1 J
   ·rw[if_neg L] at J ⊢;exact J
  ·rw [if_neg Y] at h1;have l1:=of_decide_eq_true h1
   by_cases L:y=z
   ·subst L;rw[if_neg Y];exact h1
   ·rw [if_neg L] at J;have l2:=of_decide_eq_true J
    rw[if_neg q5]
    exact xh q5
def SKey.lt_anti{x y:SKey}(J:x.num=y.num)(h:x≠y):x.lt y=!y.lt x:=by
 cases x with
 | n i =>
  cases y with
  |n j=>
   have:i≠j:=λz=>h (by rw[z])
   simp only[SKey.lt]
   by_cases l:i<j
   ·rw[xh l,zN q5];rfl
   ·rw[zN l,xh q5];rfl
  |t ms=>cases J
 |t ns=>
  cases y with
  |n j=>cases J
  |t ms=>exact ze3 ns ms λz=>h (by rw[z])
def SKey.lt_irr(x:SKey):x.lt x=false:=by
 cases x with
 |n i=>simp[SKey.lt]
 |t ns=>exact zw7 ns
def SKey.lt_trans{x y z:SKey}(h1:x.lt y=true)(J:y.lt z=true):x.lt z=true:=by
 cases x<;>cases y<;>cases z<;>first
  |(cases h1;done) |(cases J;done)
  |(simp only[SKey.lt,ww] at h1 J ⊢;lia)
  |exact Je _ _ _ h1 J
def SRow.lt_anti{x y:SRow}(J:x.key.num=y.key.num)(h:x.name≠y.name):x.lt y=!y.lt x:=by
 unfold SRow.lt
 by_cases e:x.key=y.key
 ·rw [if_pos e, if_pos e.symm]
  by_cases l:x.name<y.name
  ·rw[xh l,zN q5];rfl
  ·rw[zN l,xh q5];rfl
 ·rw[if_neg e,if_neg (Ne.symm e)];exact SKey.lt_anti J e
def SRow.lt_trans{x y z:SRow}(h1:x.lt y=true)(O:y.lt z=true):x.lt z=true:=by
 unfold SRow.lt at *
 by_cases L:x.key=y.key
 ·rw [if_pos L] at h1
  by_cases J:y.key=z.key
  ·rw[if_pos J] at O;rw[if_pos (L.trans J)];simp only[ww] at *;lia
  ·rw [if_neg J] at O
   rw[if_neg (by rw[L];exact J),L]
   exact O
 ·rw [if_neg L] at h1
  by_cases J:y.key=z.key
  ·rw [if_neg (by rw [<- J]; exact L), <- J]
   exact h1
  ·rw [if_neg J] at O;have Y:=SKey.lt_trans h1 O
   by_cases e3:x.key=z.key
   ·rw[e3,SKey.lt_irr] at Y;cases Y
   ·rw[if_neg e3];exact Y
def YN:SRow:=⟨.n 0,0,[]⟩
def xn3:List D->(D->Prop)->Prop:=λes k=>∃(rows:List SRow) (f:Bool),es=[.lst (rows.map SRow.d)]/\rows.length<64/\(∀x∈rows,x.key.num=f)/\(rows.map SRow.name).Nodup/\∀rows':List SRow,rows'.Perm rows->rows'.Pairwise (λx y=>x.lt y=true)->k (.lst (rows'.map SRow.d))
theorem Jn:∀(xs ys:List Int),ZB (xs.map D.int) (ys.map D.int)=decide (xs=ys)
 |[],[]=>by unfold ZB;rfl
 |[],y::ys=>by unfold ZB;simp
 |x::xs,[]=>by unfold ZB;simp
 |x::xs,y::ys=>by
  rw[zD,zD];unfold ZB;rw[Jn xs ys];unfold eqD
  by_cases e:x=y
  ·subst e;simp
  ·simp[e]
def xc4{x y:SKey}(h:x.num=y.num):eqD x.d y.d=decide (x=y):=by
 cases x with
 | n i =>
  cases y with
  |n j=>
   show eqD (.int i) (.int j)=_;unfold eqD
   by_cases e:i=j
   ·subst e;simp
   ·simp[e]
  |t ms=>cases h
 | t ns =>
  cases y with
  |n j=>cases h
  |t ms=>
   show eqD (.tup _) (.tup _)=_;unfold eqD;rw[Jn]
   by_cases e:ns=ms
   ·subst e;simp
   ·simp[e]
def zu8(x:SKey):okE x.d 20=true:=by
 cases x with
 |n i=>exact jw
 |t ns=>
  refine(qi (k:=19)).mpr λd hd=>?_;obtain⟨x,_,rfl⟩:=zk.mp hd;exact jw
section
variable {X:Cx}{pins:QqL}{σ:St}{H:Hp}{s:Shared}{G:QqE}{Z:QqA}
def zF7(h:Vals (a::b::xs) its):∃p q r,its=p::q::r/\RelV a p/\RelV b q:=by
 cases h with
 |cons h0 t=>
  cases t with
  |cons h1 t1=>exact⟨_,_,_,rfl,h0,h1⟩
structure RowAt(X:Cx)(G:QqE)(Z:QqA)(H:Hp)(s:Shared)(x:SRow)(u p:Value)(rest:QqW):Prop where
 tup:∃q,Srt.Tup s.heap u p (q::rest)/\∃t,q=.int x.name t
 key:∃z,Rep X.K G Z H x.key.d z/\RelV z p
def Vd(I:Inv X pins σ H s)(r:Rep X.K G Z H x.d v)(q:RelV v u):∃p rest,RowAt X G Z H s x u p rest:=by
 unfold SRow.d at r;obtain⟨a,xs,rfl,sq,rs⟩:=r.tup_inv;have e:u=.ref a:=q;subst e;obtain⟨its,rv,pl,_⟩:=I.tuple sq.sq;obtain⟨z0,O,rfl,r0,L⟩:=rs.split;obtain⟨z1,xs2,rfl,r1,Y⟩:=L.split;have e1:=r1.int_inv;subst e1;obtain⟨p0,p1,J,rfl,h0,t,rfl⟩:=zF7 rv;exact⟨p0,J,⟨_,⟨a,rfl,pl⟩,t,rfl⟩,z0,r0,h0⟩
def zc4(I:Inv X pins σ H s){x:SRow}{u p:Value}{rest:QqW}(R:RowAt X G Z H s x u p rest):s.TypeIs p (if x.key.num then "int" else "tuple"):=by
 obtain⟨z,r,q⟩:=R.key
 cases h:x.key with
 |n i=>
  rw[h] at r;have e:z=.int i:=r.int_inv;subst e;obtain⟨t,rfl⟩:=q;exact typeIs_int s i t
 |t ns=>
  rw[h] at r;obtain⟨a,xs,rfl,sq,rs⟩:=Rep.tup_inv (show Rep X.K G Z H (.tup (ns.map D.int)) z from r);have e:p=.ref a:=q;subst e;obtain⟨its,rv,⟨o,ho,J,_⟩,_⟩:=I.tuple sq.sq;exact⟨o,ho,J⟩
def zq4(I:Inv X pins σ H s)(Y:x.key.num=y.key.num)(hd:x.name≠y.name)(R:RowAt X G Z H s x u p ps)(R':RowAt X G Z H s y v q qs)(hu:A.units+60<cLine) :
  ∃p ps q qs,Srt.Tup s.heap u p ps/\Srt.Tup s.heap v q qs/\Srt.Lex A s x.key.num (x.lt y) 0 (p::ps) (q::qs):=by
 obtain⟨n1,t1,ad,rfl⟩:=R.tup;obtain⟨n2,t2,aa,rfl⟩:=R'.tup;obtain⟨z1,L,q1⟩:=R.key;obtain⟨z2,J,q2⟩:=R'.key
 have E:=(Jm I 20 x.key.d y.key.d z1 z2 p q A (zu8 _) (zu8 _) L J q1 q2 q5).1
 rw[xc4 Y] at E;refine⟨p,_,q,_,t1,t2,?_⟩
 by_cases e:x.key=y.key
 ·rw [xh e] at E;refine .alike E (.here ?_ ?_)
  ·have := EqAt.int_int (A := A) (s := s) x.name ad y.name aa
   have e2:(x.name == y.name)=false:=by simpa using hd
   rw[e2] at this;exact this
  ·intro prog w E Q h;unfold SRow.lt at h;rw[if_pos e] at h;exact Srt.ZW _ h
 ·rw [zN e] at E;refine .here E ?_;intro prog w E Q h;unfold SRow.lt at h;rw[if_neg e] at h
  cases hx:x.key with
  | n i =>
   cases O:y.key with
   |n j=>
    rw[hx] at L h;rw[O] at J h;have e1:z1=.int i:=L.int_inv;have e2:z2=.int j:=J.int_inv;subst e1 e2;obtain⟨a1,rfl⟩:=q1;obtain⟨a2,rfl⟩:=q2;exact Srt.ZW _ h
   |t ms=>rw[hx,O] at Y;cases Y
  | t ns =>
   cases O:y.key with
   |n j=>rw[hx,O] at Y;cases Y
   |t ms=>
    rw[hx] at L h;rw[O] at J h;obtain⟨a,xs,rfl,sq,rs⟩:=Rep.tup_inv (show Rep X.K G Z H (.tup (ns.map D.int)) z1 from L);obtain⟨b,ys,rfl,sq',rs'⟩:=Rep.tup_inv (show Rep X.K G Z H (.tup (ms.map D.int)) z2 from J);have e1:p=.ref a:=q1;have e2:q=.ref b:=q2;subst e1 e2;obtain⟨its,rv,pl,_⟩:=I.tuple sq.sq;obtain⟨its',rv',pl',_⟩:=I.tuple sq'.sq;rw[kc rs] at rv;rw[kc rs'] at rv';show wpAny _ _ (oneLt' (false&&_) _ _) _ _ _
    exact Srt.XQ pl pl' (kJ rv) (kJ rv') q5 h
end
def Reps.getD{K:W.Frag}{G:QqE}{Z:QqA}{H:Hp}{α:Type}{enc:α->D}{rows:List α}{a0:α}{xs:List V}(rs:Reps K G Z H (rows.map enc) xs){i:Nat}(hi:i<rows.length):Rep K G Z H (enc (rows.getD i a0)) (xs.getD i .non):=by
 obtain⟨v,e,r⟩:=rs.get (i:=i) (d:=enc rows[i]) (by rw[zw,ze hi];rfl)
 rw[zS,zS,e,ze hi];exact r
theorem XH{K:W.Frag}{G:QqE}{Z:QqA}{H:Hp}{α:Type}{enc:α->D}{rows:List α}{a0:α}{xs:List V}(rs:Reps K G Z H (rows.map enc) xs):∀{ls:List Nat},(∀i∈ls,i<rows.length)->Reps K G Z H ((ls.map λi=>rows.getD i a0).map enc) (ls.map λi=>xs.getD i .non)
 |[],_=>.nil
 |i::ls,J=>.cons (rs.getD (J i (xf ..))) (XH rs λj L=>J j (zn _ L))
def Ja{α:Type}(a0:α)(rows:List α):(List.range rows.length).map (λi=>rows.getD i a0)=rows:=by
 apply List.ext_getElem
 ·simp
 ·intro i h1 J;simp[zS,J]
def zO6(hK:X.K=A.K):ve A (zQ6 X) xn3:=by
 rintro os n rho sg H ds vs es ws k Q I rs ⟨rows,f,rfl,hl,hf,aa,q⟩ hQ;obtain⟨v,rfl,r⟩:=kO rs;obtain⟨a,xs,rfl,sq,rr⟩:=r.lst_inv
 have len:xs.length=rows.length:=by rw[rr.length,zg]
 have mem:∀i,i<rows.length->rows.getD i YN∈rows:=λi hi=>by
  rw[zS,ze hi];exact wm hi
 have Y:∀i j,i<rows.length->j<rows.length->i≠j->(rows.getD i YN).name≠(rows.getD j YN).name:=λi j hi O L e=>by
  have g:∀i (hi:i<rows.length),(rows.map SRow.name)[i]'(by simpa using hi)=(rows.getD i YN).name:=λi hi=>by
   rw[List.getElem_map,zS,ze hi];rfl
  have f:=wQ.mp aa
  rcases Nat.lt_or_gt_of_ne L with l |l
  ·exact f i j (by simpa using hi) (by simpa using O) l (by rw[g i hi,g j O,e])
  ·exact f j i (by simpa using O) (by simpa using hi) l (by rw[g i hi,g j O,e])
 have num:∀i,i<rows.length->(rows.getD i YN).key.num=f:=λi hi=>hf _ (mem i hi);rw[<- hK] at rr
 refine⟨a,xs,f,λi j=>(rows.getD i YN).lt (rows.getD j YN),rfl,by rw[hK];exact sq.sq,q5,λi j hi O L=>SRow.lt_anti (by rw[num i q5,num j q5]) (Y i j q5 q5 L),λi j l _ _ _ h1 h2=>SRow.lt_trans h1 h2,λi hi=>?_,λi j hi O L=>?_,λls hp hU l hl'=>?_⟩
 ·intro pins s σ u J ru
  obtain⟨p,rest,R⟩:=Vd J (rr.getD (enc:=SRow.d) (a0:=YN) q5) ru
  obtain⟨z,t,_⟩:=R.tup;have ty:=zc4 J R
  rw[num i q5] at ty
  exact⟨p,_,t,ty⟩
 ·intro pins s σ u v J ru rv B hB
  obtain⟨p,ps,R⟩:=Vd J (rr.getD (enc:=SRow.d) (a0:=YN) q5) ru
  obtain⟨p',ps',R'⟩:=Vd J (rr.getD (enc:=SRow.d) (a0:=YN) q5) rv
  have c:=zq4 J (by rw[num i q5,num j q5]) (Y i j q5 q5 L) R R' hB
  rw[num i q5] at c
  exact c
 ·rw [len] at hp hU
  have ad:∀i∈ls.toList,i<rows.length:=λi hi=>by
   have:=(hp.mem_iff).mp (Array.mem_toList_iff.mp hi)
   rwa [Array.mem_range] at this
  have hsz:ls.size=rows.length:=by rw[hp.size_eq,yO]
  rw[hK] at rr;refine hQ _ _ _ ⟨os,I.newLst (XH (a0:=YN) rr ad) hl'⟩ (q _ ?_ ?_)
  ·have p1 : ls.toList.Perm (List.range rows.length) := by
    have:=Array.perm_iff_toList_perm.mp hp
    rwa [Array.toList_range] at this
   have p2:=p1.map λi=>rows.getD i YN
   rwa [Ja] at p2
  ·rw [xE, wQ];intro i j hi O L
   have hi':i<ls.size:=by simpa using hi
   have hj':j<ls.size:=by simpa using O
   have u:=hU i j L q5
   have g:∀i (hi:i<ls.size),Srt.lab ls i=ls.toList[i]'(by simpa using hi):=λi hi=>by
    refine Srt.jP ?_
    rw[<- wT,ze (by simpa using hi)]
   rw[g i hi',g j hj'] at u;exact u
def zg0(hc:X.calm=true):kG X (.builtin "sum") (λxs H Q=>∃(p:Addr) (ns:List Int),xs=[.ref p]/\SqL X.K H p (ns.map V.int)/\Q (.int ns.sum) H):=by
 intro pins s σ H xs us Q I r h;obtain⟨p,ns,rfl,Y,q⟩:=h;obtain⟨u,rfl,hu⟩:=ZH r;have e:u=.ref p:=hu;subst e;obtain⟨its,rv,pl,_⟩:=I.list Y;have hi:=kJ rv;obtain⟨ys,J⟩:=hi.allInts.items;have L:=pl.isList;rw[J] at L;refine sum_intListG (I.ok.hd hc) L λh' tk t' hk=>?_;refine⟨.int ns.sum,H,I.kept hk,⟨t',?_⟩,q⟩
 rw[preSum_eq,List.take_of_length_le (by simp)]
 have O:=nums_intItems ys;rw[<- J] at O;rw[<- O];show Value.int (numsOf its.toArray.toList).sum t'=_;rw[show its.toArray.toList=its from rfl,hi.numsOf]
def xR7:List D->(D->Prop)->Prop:=λes k=>∃ns:List Int,es=[.lst (ns.map D.int)]/\k (.int ns.sum)
def zS8{A:AC}:ve A (λxs H Q=>∃(p:Addr) (ns:List Int),xs=[.ref p]/\SqL A.K H p (ns.map V.int)/\Q (.int ns.sum) H) xR7:=by
 rintro os n rho sg H ds vs es ws k Q I rs ⟨ns,rfl,q⟩ L;obtain⟨v,rfl,r⟩:=kO rs;obtain⟨a,xs,rfl,sq,J⟩:=r.lst_inv;have e:=kc J;subst e;exact⟨a,ns,rfl,sq.sq,L _ _ _ ⟨os,I.push (Rep.ofS (d:=.int ns.sum) rfl)⟩ q⟩
structure Blt2(mg:QqM):Prop where
 sum:mg "sum" = none
def zT1:bootBuiltins "sum" = some (.builtin "sum"):=w5
section
variable {A:AC}{X:Cx}{a:Expr}{ta:TD}{pos:Pos}
def zw4(d:D)(k:List D->Prop):Prop:=∃fs,(d=.lst fs\/d=.fz fs)/\k fs
@[simp] theorem xz8{k}:zw4 (.lst fs) k↔k fs:=⟨fun⟨_,e,h⟩=>by rcases e with e |e<;>cases e;exact h,λh=>⟨_,.inl rfl,h⟩⟩
def xL1(ta:TD)(tl th:TOD):TD:=λrho n P=>ta rho n λd O=>tl rho O λlo L=>th rho L λhi J=>zw4 d λfs=>P (.lst (Ju fs lo hi)) J
@[simp] theorem xI7{ta tl th rho n P}:xL1 ta tl th rho n P=ta rho n λd O=>tl rho O λlo L=>th rho L λhi J=>zw4 d λfs=>P (.lst (Ju fs lo hi)) J:=rfl
def zs6(hK:X.K=A.K)(ha:PD A X a ta)(hl:POD A X le tl)(hh:POD A X he th):PD A X (.Subscript a (.Slice le he none p2) pos) (xL1 ta tl th):=by
 exists (zd3 zU5 ha hl hh).imp λsg H Q h=>by
   obtain⟨rho,n,P,ds,vs,I,ht,O⟩:=h;refine⟨rho,n,_,ds,vs,I,ht,λv H1 n1 d J1 h1=>⟨rho,n1,_,_,_,J1,h1,λlo H2 n2 J2 h2=>⟨rho,n2,_,_,_,J2,h2,λhi H3 L ⟨os,J3⟩ h3=>?_⟩⟩⟩;obtain⟨fs,hd,k⟩:=h3;obtain⟨Y,r⟩:=J3.pop;rw[hK]
   rcases hd with rfl |rfl
   ·obtain⟨l,xs,rfl,sq,rs⟩:=r.lst_inv;exact⟨l,xs,rfl,sq.sq,λp J=>O _ _ L _ ⟨os,Y.newLst (Uf rs lo hi) J⟩ k⟩
   ·obtain⟨l,xs,rfl,sq,rs⟩:=r.fz_inv;exact⟨l,xs,rfl,sq,λp J=>O _ _ L _ ⟨os,Y.newLst (Uf rs lo hi) J⟩ k⟩
def zB1(i:Nat):TD:=λrho n P=>∃es,rho[i]?=some (some (.own es))/\okE (.lst es) 20=true/\P (.bl (!ZB es [])) n
@[simp] theorem xt5{i rho n P}:zB1 i rho n P=∃es,rho[i]?=some (some (.own es))/\okE (.lst es) 20=true/\P (.bl (!ZB es [])) n:=rfl
def zo8{i:Nat}(hK:X.K=A.K)(h:tOf A (zB1 i) sg H Q):tOp (xw8 X) (xF6 i) (tOf A (xE8 xq8)) sg H Q:=by
 obtain⟨rho,n,P,ds,vs,⟨os,I⟩,⟨es,hi,ok,q⟩,hQ⟩:=h;obtain⟨a,xs,e1,hH,rs,_⟩:=I.own (es':=es) (xs':=[]) hi;refine⟨.ref a,e1,rho,n,λd n1=>d=.lst []/\n1=n,ds,vs,⟨os,I⟩,⟨xq _,rfl,rfl⟩,λv2 H2 n2 d2 ⟨L,J⟩ k=>?_⟩;obtain⟨rfl,rfl⟩:=k;obtain⟨J1,r2⟩:=J.pop;obtain⟨a',xs',e2,hH',rs',_⟩:=J1.own (es':=es) (xs':=[]) hi;rw[e1] at e2;cases e2;have no:∀b,H2 b≠none->False->Zof A L b:=λ_ _ z=>z.elim
 have rA:Rep X.K A.G (λ_=>False) H2 (.lst es) (.ref a):=by
  rw[hK];exact .lst_mk ⟨λz=>z,hH'⟩ (Reps.mono no (λ_ _ _ e=>e) _ _ rs')
 have rB:Rep X.K A.G (λ_=>False) H2 (.lst []) v2:=by
  rw[hK];exact Rep.mono no (λ_ _ _ e=>e) _ _ r2
 have O:okE (.lst []) 20=true:=by unfold okE;rfl
 refine⟨eqD (.lst es) (.lst []),λpins s σ v u J rx ry B hu=>Jm J 20 _ _ _ _ v u B ok O rA rB rx ry q5,?_⟩
 have Y:eqD (.lst es) (.lst [])=ZB es []:=by unfold eqD;rfl
 rw[Y];exact hQ _ H2 _ _ ⟨L,J1.push (Rep.ofS (d:=.bl (!ZB es [])) rfl)⟩ q
def zr4{i:Nat}{n:Nat}(O:Room n X.A)(hK:X.K=A.K)(Y:X.N[i]?=some x:=by rfl)(L:Vis X.env.scope x:=by first |exact Or.inl rfl |exact Or.inr (Or.inl rfl) |exact Or.inr (Or.inr rfl))(hd:(x == ("__debug__" : Str))=false:=by decide)
  (J:(x == ("__classdict__" : Str))=false:=by decide):PTD A X (.Compare (.Name x px) [.NotEq] [.List [] p2] pos) (Jt (zB1 i)):=by exists (zr5 (zR4 O) (qp Y L hd J) (vg (A:=A) zi) (wg _)).imp λ_ _ _=>VT λ_ _ _=>zo8 hK
end
section
variable {X:Cx}{pins:QqL}{σ:St}{H:Hp}{s:Shared}{G:QqE}{Z:QqA}
end
def zE3(X:Cx)(H:Hp)(y:V)(p:PyData):Prop:=∀pins s σ v,Inv X pins σ H s->RelV y v->∃a as,v=.ref a/\Reads s.heap (.ref a) p as
end L2
namespace L2
section
variable {X:Cx}{A:AC}
end
end L2
namespace L2.Srt
open PySem PyProof.Rows
section
variable {prog:Program}{w:World}{A:Around}{E:QqV}{s:Shared}
end
end L2.Srt
namespace L2
section
variable {X:Cx}{A:AC}{pos:Pos}{e:Expr}{t1:TAD}
end
section
variable {K:W.Frag}{G G':QqE}{Z:QqA}{H:Hp}
end
section
variable {A:AC}{X:Cx}{e:Expr}{es:List Expr}{t1:TAD}{t2:TSD}{pos p:Pos}
end
def zN2(ks:List Key)(k:Key):Bool:=ks.any λj=>decide (j=k)
def Uh(ks:List Key)(k:Key):List Key:=if zN2 ks k=true then ks else ks++[k]
def zr3{α:Type}(ks:List Key)(xs:List α)(k:Key)(x:α):List α:=if zN2 ks k=true then List.zipWith (λj y=>if j=k then x else y) ks xs else xs++[x]
theorem zx4:∀(ks:List Key) (xs:List V) (k:Key),ks.length=xs.length->((Xd ks xs).any λJ=>decide (J.1=k))=zN2 ks k
 |[],xs,k,_=>rfl
 |j::ks,[],k,h=>by simp at h
 |j::ks,x::xs,k,h=>by
  have L:=zx4 ks xs k (by simpa using h)
  show(decide (j=k)||(Xd ks xs).any _)=(decide (j=k)||zN2 ks k);rw[L]
theorem zx3:∀(ks:List Key) (xs:List V) (k:Key) (v:V),(Xd ks xs).map (λJ=>if J.1=k then(J.1,v) else J)=Xd ks (List.zipWith (λj y=>if j=k then v else y) ks xs)
 |[],xs,k,v=>by simp[Xd]
 |j::ks,[],k,v=>by simp[Xd]
 |j::ks,x::xs,k,v=>by
  have L:=zx3 ks xs k v
  show(if j=k then(j,v) else(j,x))::(Xd ks xs).map _=(j,if j=k then v else x)::Xd ks _
  rw[L]
  by_cases e:j=k<;>simp[e]
def zM1(k:Key)(v:V)(h:ks.length=xs.length):Xd ks xs++[(k,v)]=Xd (ks++[k]) (xs++[v]):=by
 unfold Xd;rw[List.zipWith_append h];rfl
def xa5(k:Key)(v:V)(h:ks.length=xs.length):zm8 (Xd ks xs) k v=Xd (Uh ks k) (zr3 ks xs k v):=by
 unfold zm8 Uh zr3;rw[zx4 ks xs k h]
 by_cases e:zN2 ks k=true
 ·rw[if_pos e,if_pos e,if_pos e,zx3]
 ·rw[if_neg e,if_neg e,if_neg e,zM1 k v h]
def Qt{α:Type}{ks:List Key}{xs:List α}(k:Key)(x:α)(h:ks.length=xs.length):(Uh ks k).length=(zr3 ks xs k x).length:=by
 unfold Uh zr3
 split
 ·rw[wu,<- h];lia
 ·simp[h]
def xi5{α:Type}{ks:List Key}{xs:List α}(k:Key)(x:α)(h:ks.length=xs.length):(Uh ks k).length<=ks.length+1:=by
 unfold Uh
 split<;>simp
section
variable {K:W.Frag}{G:QqE}{Z:QqA}{H:Hp}
theorem Reps.zipPut(r:Rep K G Z H d v)(k:Key):∀{ks:List Key}{es:List D}{xs:List V},Reps K G Z H es xs->Reps K G Z H (List.zipWith (λj y=>if j=k then d else y) ks es) (List.zipWith (λj y=>if j=k then v else y) ks xs)
 |[],es,xs,h=>.nil
 |j::ks,[],xs,h=>by rw[h.nil_inv];exact .nil
 |j::ks,e::es,xs,h=>by
  obtain⟨x,L,rfl,q,t⟩:=h.split;have J:=Reps.zipPut r k (ks:=ks) t
  show Reps K G Z H ((if j=k then d else e)::_) ((if j=k then v else x)::_)
  by_cases z:j=k
  ·rw[if_pos z,if_pos z];exact .cons r J
  ·rw[if_neg z,if_neg z];exact .cons q J
def Reps.put(h:Reps K G Z H es xs)(r:Rep K G Z H d v)(k:Key):Reps K G Z H (zr3 ks es k d) (zr3 ks xs k v):=by
 unfold zr3
 split
 ·exact Reps.zipPut r k h
 ·exact h.append (.cons r .nil)
end
def keyOf:D->Option Key
 |.int i=>some (Sum.inl i)
 |.str x=>some (Sum.inr x)
 |_=>none
@[simp] theorem xn2{i:Int}:keyOf (.int i)=some (Sum.inl i):=rfl
@[simp] theorem xn1:keyOf (.str i)=some (Sum.inr i):=rfl
def Wi{K:W.Frag}{G:QqE}{Z:QqA}{H:Hp}{d:D}{v:V}{k:Key}(h:Rep K G Z H d v)(e:keyOf d=some k):v=kV k:=by
 cases d with
 |int i=>cases e;exact h.int_inv
 |str i=>cases e;exact h.toS rfl
 |_=>simp[keyOf] at e
section
variable {A:AC}{X:Cx}{tg iter kx vx:Expr}{ifs:List Expr}{scope:Scope}{own M:List Str}{pos:Pos}{it:TID}{g:TGD}{tt:TBD}{tk tv:TD}
def zA8(own:Nat)(g:TGD)(tt:TBD)(tk tv:TD)(rho:Rho)(P:D->Nat->Prop)(items:List D)(n1:Nat):Prop:=items.length<=sizeLine/\∃J:Nat->List Key->List D->Nat->Prop,J 0 [] [] n1 /\
 (∀i d ks es n,items[i]?=some d->J i ks es n->g d (replicate own none++rho) λrho'=>rho'.drop own=rho/\tt rho' n λc L=>if c=true then tk rho' L λdk Y=>tv rho' Y λdv O=>∃k,keyOf dk=some k/\J (i+1) (Uh ks k) (zr3 ks es k dv) O else J (i+1) ks es L) /\
 ∀ks es n,J items.length ks es n->P (.dct ks es) n
def zB4(it:TID)(own:Nat)(g:TGD)(tt:TBD)(tk tv:TD):TD:=λrho n P=>it rho n (zA8 own g tt tk tv rho P)
@[simp] theorem xt8{it own g tt tk tv rho n P}:zB4 it own g tt tk tv rho n P=it rho n (zA8 own g tt tk tv rho P):=rfl
def AmO.newDct{os n rho sg H ds vs}(I:AmO A os n rho sg H ds vs)(r:Reps A.K A.G (Zof A os) H es xs)(L:H p=none):AmO A os n rho sg (upd H p (.dK (Xd ks xs))) (.dct ks es::ds) (.ref p::vs):=by
 have J:∀a u,H a=some u->upd H p (.dK (Xd ks xs)) a=some u:=λa u e=>by
  rw[xX λz=>by rw[z,L] at e;cases e];exact e
 refine⟨I.len,λi d e=>?_,?_,I.nd,λq O=>?_,λa e=>?_,I.gz,λa u h e=>J a u (I.fr a u h e),I.z0⟩
 ·obtain⟨v,e1,e2⟩:=I.slot i d e;exact⟨v,e1,SlotR.mono (λ_ _ z=>z) (λa u _ e=>J a u e) (λa xs m q=>⟨m,J a _ q⟩) _ _ e2⟩
 ·refine .cons ?_ (Reps.mono (λ_ _ z=>z) (λa u _ e=>J a u e) _ _ I.pend);unfold Rep;refine⟨p,xs,rfl,⟨λz=>?_,yb⟩,Reps.mono (λ_ _ z=>z) (λa u _ e=>J a u e) _ _ r⟩;exact absurd L (I.zH p z)
 ·obtain⟨f1,f2,Y⟩:=I.fresh q O;exact⟨f1,f2,Y.of λu e=>J _ _ e⟩
 ·obtain⟨x,y,z,q,r⟩:=I.st a e;exact⟨x,y,z,J _ _ q,r⟩
def zo9{m:Nat}(h:tOf A (zB4 it m g tt tk tv) sg H Q):zP9 (iOf A it) m (gOf A m g) (VF A tt) (tOf A tk) (tOf A tv) sg H Q:=by
 obtain⟨rho,n,P,ds,vs,I,ht,hQ⟩:=h;refine⟨rho,n,_,ds,vs,I,ht,λJ H' n' items es ws I1 hl hJ k=>?_⟩;obtain⟨hsz,W,w0,turn,fin⟩:=k
 refine⟨λi mm acc H=>mm=items.length-i/\i<=items.length/\∃ks L xs n,acc=Xd ks xs/\ks.length=xs.length/\ks.length<=i/\xs.length=L.length/\Am A n rho sg H (es++(L++ds)) (ws++(xs++vs))/\W i ks L n,
  ⟨items.length,rfl,xq _,[],[],[],n',rfl,rfl,zo _,rfl,I1,w0⟩,?_⟩
 rintro i mm acc H3 ⟨rfl,hi,ks,L,xs,n3,rfl,Y,aq,aa,⟨os,I3⟩,w3⟩
 have ap:(Xd ks xs).length=ks.length:=by unfold Xd;rw[wu];lia
 obtain⟨j1,j2⟩:=hJ n3 rho sg H3 (L++ds) (xs++vs) i ⟨os,I3⟩
 by_cases O:i<items.length
 ·refine .inr ⟨(j1 items[i] (by simp [O])).1, by lia, λx H4 y => ?_⟩
  obtain⟨ao,I4⟩:=(j1 items[i] (by simp[O])).2 x H4 y
  refine⟨replicate m none++rho,n3,_,items[i],es++(L++ds),ws++(xs++vs),⟨_,I4.front m⟩,turn i items[i] ks L n3 (by simp[O]) w3,λrho' sg' ⟨ag,I5⟩ e5 k5=>?_⟩
  obtain⟨k5,k6⟩:=k5
  have e6:sg'.drop m=sg:=by rw[e5,wR (by simp)]
  refine⟨e6,rho',n3,_,es++(L++ds),ws++(xs++vs),⟨ag,I5⟩,k6,λc H6 n6 ⟨af,I6⟩ k7=>?_⟩
  cases c with
  |false=>
   obtain⟨ae,I7⟩:=I6.back k5 e6
   exact⟨items.length-(i+1),q5,rfl,O,ks,L,xs,n6,rfl,Y,q5,aa,⟨ae,I7⟩,k7⟩
  |true=>
   rw[if_pos rfl] at k7 ⊢;refine⟨rho',n6,_,es++(L++ds),ws++(xs++vs),⟨af,I6⟩,k7,λvk H8 n8 dk I8 k8=>?_⟩;refine⟨rho',n8,_,dk::(es++(L++ds)),vk::(ws++(xs++vs)),I8,k8,λv H9 n9 d ⟨am,I9⟩ k9=>?_⟩;obtain⟨kk,ek,w9⟩:=k9;obtain⟨ad,al⟩:=I9.back k5 e6;obtain⟨ak,rv⟩:=al.pop;obtain⟨aj,rk⟩:=ak.pop;obtain⟨ai,r1⟩:=aj.split hl;obtain⟨ah,r2⟩:=ai.split aa
   refine⟨kk,items.length-(i+1),Wi rk ek,q5,rfl,O,Uh ks kk,zr3 ks L kk d,zr3 ks xs kk v,n9,xa5 kk v Y,Qt kk v Y,?_,?_,⟨ad,(ah.join (r2.put rv kk)).join r1⟩,w9⟩
   ·have:=xi5 kk v Y;lia
   ·rw[<- Qt kk v Y,<- Qt kk d q5]
 ·have e : i = items.length := by lia
  subst e
  refine .inl ⟨j2 (zo _),q5,λD hD=>?_⟩
  obtain⟨I4,r1⟩:=I3.split hl;obtain⟨I5,r2⟩:=I4.split aa;exact hQ _ _ n3 _ ⟨os,I5.newDct r2 hD⟩ (fin ks L n3 w3)
def zJ7(ok:CompOk X scope M)(L:X.calm=true)(hi:PID A X tg iter it)(hg:∀C J H2 fp,PGD A (wa X scope own M C J H2 fp) own.length tg g)(ht:∀C J H2 fp,PTs (wa X scope own M C J H2 fp) ifs (VF A tt))
  (hk:∀C J H2 fp,PD A (wa X scope own M C J H2 fp) kx tk) (he:∀C J H2 fp,PD A (wa X scope own M C J H2 fp) vx tv) (hs:∀x,foldedSetIterable iter X.env x=pure x:=by intro _;rfl):PD A X (.DictComp kx vx [⟨tg,iter,ifs,0⟩] scope pos) (zB4 it own.length g tt tk tv):=by exists (zJ4 ok L hi hg ht hk he hs).imp λ_ _ _=>zo9
end
def atK:List Key->List D->Key->Option D
 |k::ks,d::ds,x=>if k=x then some d else atK ks ds x
 |_,_,_=>none
def za0{K:W.Frag}{G:QqE}{Z:QqA}{H:Hp}:∀{ks:List Key}{ds:List D}{xs:List V}{x:Key},Reps K G Z H ds xs ->
  (∀d,atK ks ds x=some d->∃v,YK (Xd ks xs) x=some v/\Rep K G Z H d v)/\(atK ks ds x=none->YK (Xd ks xs) x=none)
 |[],ds,xs,x,r=>⟨λd h=>by simp[atK] at h,λ_=>rfl⟩
 |k::ks,[],xs,x,r=>by rw[r.nil_inv];exact⟨λd h=>by simp[atK] at h,λ_=>rfl⟩
 | k :: ks, e :: ds, xs, x, r => by
  obtain⟨v,rs,rfl,q,t⟩:=r.split;obtain⟨i1,i2⟩:=za0 (ks:=ks) (x:=x) t;unfold atK
  by_cases c:k=x
  ·rw [if_pos c]
   exact⟨λd h=>by cases h;exact⟨v,Xh (p:=(k,v)) c,q⟩,λh=>by cases h⟩
  ·rw[if_neg c];have J:YK (Xd (k::ks) (v::rs)) x=YK (Xd ks rs) x:=Xi (p:=(k,v)) c;rw[J];exact⟨i1,i2⟩
section
variable {A:AC}{X:Cx}{a b:Expr}{ta tb:TD}{pos:Pos}
def rDx:R2:=λx y H Q=>∃a v,x=.ref a/\DGet H a y (some v)/\Q v H
def xr2:RD2:=λd1 d2 k=>∃ks ds x d,d1=.dct ks ds/\keyOf d2=some x/\atK ks ds x=some d/\k d
@[simp] theorem xz1{ks ds x k}:xr2 (.dct ks ds) (.int x) k↔∃d,atK ks ds (Sum.inl x)=some d/\k d:=⟨fun⟨_,_,_,d,e,e',h⟩=>by cases e;cases e';exact⟨d,h⟩,fun⟨d,h⟩=>⟨_,_,_,d,rfl,rfl,h⟩⟩
def xw4:kr A rDx xr2:=by
 rintro os n rho sg H ds vs d1 d2 v1 v2 k Q I ⟨ks,es,x,d,rfl,hk,hx,q⟩ Y;obtain⟨I1,L⟩:=I.pop;obtain⟨I2,J⟩:=I1.pop;have e2:=Wi L hk;subst e2;unfold Rep at J;obtain⟨a,xs,rfl,⟨hz,hH⟩,rs⟩:=J;obtain⟨v,O,rv⟩:=(za0 rs).1 d hx
 exact⟨a,v,rfl,by rw[<- O];exact DGet.k hH,Y _ _ _ ⟨os,I2.push rv⟩ q⟩
def xk5(hu:X.A.units+1<cLine)(ha:PD A X a ta)(J:PD A X b tb)(hs:xq9 b):PD A X (.Subscript a b pos) (dOp xr2 ta tb):=by exists (zX3 hu ha J hs).imp λ_ _ _=>Kf (r:=rDx) xw4
def xG8(neg:Bool):R2:=λy x H Q=>∃a o,x=.ref a/\DGet H a y o/\Q (.bl (o.isSome != neg)) H
def zt4(hu:X.A.units+1<cLine):OpR X (compareOp .NotIn) (xG8 true):=by
 intro pins s σ H x y v u Q I L J h;obtain⟨a,o,rfl,g,q⟩:=h;cases(show u=Value.ref a from J)
 exact xd1 hu I g L λs' I'=>⟨.bl (o.isSome != true),H,I',by simp;rfl,q⟩
def xh3(neg:Bool):RD2:=λd1 d2 k=>∃ks ds x,d2=.dct ks ds/\keyOf d1=some x/\k (.bl ((atK ks ds x).isSome != neg))
@[simp] theorem xr8{neg ks ds x k}:xh3 neg (.int x) (.dct ks ds) k↔k (.bl ((atK ks ds (Sum.inl x)).isSome != neg)):=⟨fun⟨_,_,_,e,e',h⟩=>by cases e;cases e';exact h,λh=>⟨_,_,_,rfl,rfl,h⟩⟩
def xg8{neg:Bool}:kr A (xG8 neg) (xh3 neg):=by
 rintro os n rho sg H ds vs d1 d2 v1 v2 k Q I ⟨ks,es,x,rfl,hk,q⟩ Y;obtain⟨I1,J⟩:=I.pop;obtain⟨I2,L⟩:=I1.pop;have e2:=Wi L hk;subst e2;unfold Rep at J;obtain⟨a,xs,rfl,⟨hz,hH⟩,rs⟩:=J;obtain⟨g1,g2⟩:=za0 (ks:=ks) (x:=x) rs;refine⟨a,YK (Xd ks xs) x,rfl,DGet.k hH,?_⟩
 have e3:(YK (Xd ks xs) x).isSome=(atK ks es x).isSome:=by
  cases e:atK ks es x with
  |none=>rw[g2 e];rfl
  |some d=>obtain⟨v,O,_⟩:=g1 d e;rw[O];rfl
 rw[e3];exact Y _ _ _ ⟨os,I2.push (Rep.ofS (d:=.bl _) rfl)⟩ q
def xw0(i:Nat)(g:TGD):TSD:=λF rho n=>∃es d,rho[i]?=some (some (.own (es++[d])))/\g d (rho.set i (some (.own es))) λrho'=>F.nx rho' n
@[simp] theorem xH5{i g F rho n}:xw0 i g F rho n=∃es d,rho[i]?=some (some (.own (es++[d])))/\g d (rho.set i (some (.own es))) λrho'=>F.nx rho' n:=rfl
def zW4{i m:Nat}(hK:X.K=A.K)(hg:PGD A X m tg g)(hN:X.N[i]?=some x:=by rfl)(Y:Vis X.env.scope x:=by first |exact Or.inl rfl |exact Or.inr (Or.inl rfl) |exact Or.inr (Or.inr rfl))(hd:(x == ("__debug__" : Str))=false:=by decide)
  (ad:(x == ("__classdict__" : Str))=false:=by decide) (L:attributeBase (.Name x px) "pop" X.env (eval (.Name x px) X.env)=eval (.Name x px) X.env:=by rfl) (J:(apos.endLine == cpos.line)=true:=by rfl)
  (hs:swapsWithSole [tg] (.Call (.Attribute (.Name x px) "pop" apos) [] [] cpos) pos.line X.env=pure false:=by rfl) (hw:swappedStores [tg] (.Call (.Attribute (.Name x px) "pop" apos) [] [] cpos) X.env=pure none:=by rfl)
  (h1:(assignEach [tg] X.env).map (·.2)=[assign tg X.env]:=by rfl):PSD A X (.Assign [tg] (.Call (.Attribute (.Name x px) "pop" apos) [] [] cpos) pos) (xw0 i g):=by
 exists (zd0 (xj8 PySem.F.plainAttrs_list PySem.F.slot_list_pop PySem.F.type_list_pop xm4 (qp hN Y hd ad) L J) hg hs hw h1).imp λE sg H h=>by
   obtain⟨rho,n,F,ds,vs,⟨os,I⟩,⟨es,d,hi,ht⟩,ok⟩:=h;obtain⟨a,xs,e1,hH,rs,_⟩:=I.own (es':=es) (xs':=[]) hi;have hl:=rs.length
   have O:xs.length=es.length+1:=by rw[hl];simp
   have aa:(es++[d])[es.length]?=some d:=by simp
   obtain⟨v,Y,rv⟩:=rs.get aa
   refine⟨.ref a,e1,.inl ⟨rfl,xs,SqL.of hH⟩,a,xs,v,rfl,rfl,hH,by rw[O];exact Y,?_⟩
   have I1:=I.push rv;obtain⟨a',xs',e1',hH',rs',up⟩:=I1.own (es':=es) (xs':=[]) hi;rw[e1] at e1';cases e1';rw[hH] at hH';cases hH'
   have e2:xs.dropLast=xs.take es.length:=by rw[List.dropLast_eq_take,O];rfl
   have e3:(es++[d]).take es.length=es:=by simp
   have rt:Reps A.K A.G (Zof A os) H es xs.dropLast:=by
    have:=rs'.take es.length;rw[e3] at this;rw[e2];exact this
   exact⟨_,n,_,d,ds,vs,⟨os,up _ _ rt⟩,ht,λrho' sg' J' _ k'=>ok.nx _ _ _ _ J' k'⟩
end
section
variable {X:Cx}{A:AC}
def xu3:D->Bool
 |.tup _=>true
 |.lst _=>true
 |_=>false
def zl8{n:Nat}(J:Room n X.A):kG X (.builtin "repr") (λxs H Q=>∃(y:V) (p:PyData),xs=[y]/\zE3 X H y p/\p.showable=true/\p.hasDict=false/\p.depth<=20/\p.shown.length<=sizeLine/\Q (.str p.shown) H):=by
 intro pins s σ H xs us Q I r h;obtain⟨y,p,rfl,L,h1,O,Y,h4,q⟩:=h;obtain⟨u,rfl,hu⟩:=ZH r;obtain⟨a,as,rfl,rd⟩:=L pins s σ u I hu;have:=J.un
 exact repr_of_reads' rd h1 (PyData.noDict_hsm O) J.gd q5 (λ_ _ e=>e) (λh' u tk k=>⟨.str p.shown,H,I.kept k,⟨_,rfl⟩,q⟩) h4
structure Blt3(mg:QqM):Prop where
 repr:mg "repr" = none
 dict:mg "dict" = none
def zD2:bootBuiltins "repr" = some (.builtin "repr"):=w5
end
section
variable {A:AC}{X:Cx}{a b c:Expr}{ta tb tc:TD}{pos:Pos}
end
def ze0(rho:Rho):Bool:=rho.all λo=>match o with
 |some d=>xG d
 |none=>true
def zv2{i:Nat}(h:ze0 rho=true)(e:rho[i]?=some (some d)):xG d=true:=by
 have:=wY.mp h _ (zM e);exact this
def xf9(i j:Nat)(tb:TD):TSD:=λF rho n=>i<rho.length/\j<rho.length/\ze0 rho=true/\tb rho n λd J=>F.nx ((rho.set i (some (.own []))).set j (some d)) J
@[simp] theorem xy2{i j tb F rho n}:xf9 i j tb F rho n=(i<rho.length/\j<rho.length/\ze0 rho=true/\tb rho n λd J=>F.nx ((rho.set i (some (.own []))).set j (some d)) J):=rfl
section
variable {A:AC}{X:Cx}{b:Expr}{tb:TD}{pos:Pos}
def AmO.still{os n rho sg H ds vs}(I:AmO A os n rho sg H ds vs)(ho:ze0 rho=true)(O:∀a o,H a=some o->H1 a=some o)(hz:∀a,H a≠none->Z a->Zof A os a)(J:∀a,Z a->Hot (H1 a))(hg:∀a,A.G=some a->Z a) :
  AmO ⟨A.K,A.G,Z,H1⟩ [] n rho sg H1 [] []:=by
 have hz':∀a,H a≠none->Zof ⟨A.K,A.G,Z,H1⟩ [] a->Zof A os a:=λa h z=>by
  rcases z with z |⟨p,L,_⟩
  ·exact hz a h z
  ·simp at L
 refine⟨I.len,λi d e=>?_,.nil,.nil,λp L=>by simp at L,λa e=>?_,hg,λa o _ e=>e,⟨J,λP q t=>⟨O P _ (I.zO.2 P q t).1,(I.zO.2 P q t).2⟩⟩⟩
 ·obtain ⟨v, e1, e2⟩ := I.slot i d e;have hd:=zv2 ho e;have r:=Rep.mono (K:=A.K) (G:=A.G) hz' (λa o _ e=>O a o e) _ _ (e2.rep hd);refine⟨v,e1,?_⟩
  cases d<;>first |exact r |(simp[xG] at hd;done)
 ·obtain⟨Y,u1,u2,q,r⟩:=I.st a e;exact⟨Y,u1,u2,O a _ q,r⟩
def AmO.setOwnX{os:List (Nat × Addr)}{n:Nat}{rho:Rho}{sg:St}{H:Hp}{ds es:List D}{vs xs:List V}{i:Nat}{p:Addr}(I:AmO A os n rho sg H ds vs)(hi:i<rho.length)(L:H p=none)(r:Reps A.K A.G (Zof A os) H es xs) :
  AmO A ((i,p)::os.filter λq=>decide (q.1≠i)) n (rho.set i (some (.own es))) (sg.set i (some (.ref p))) (upd H p (.lst xs)) ds vs:=by
 have O:∀a u,H a=some u->upd H p (.lst xs) a=some u:=λa u e=>by rw[xX (yd e L)];exact e
 have zz:∀a,H a≠none->Zof A ((i,p)::os.filter λq=>decide (q.1≠i)) a->Zof A os a:=λa ha z=>by
  rcases z with z |⟨q,J,e⟩
  ·exact .inl z
  ·rcases zj.mp J with rfl | J
   ·exact absurd (by rw[<- e];exact L) ha
   ·exact .inr ⟨q,(zy.mp J).1,e⟩
 have h0:A.H0 p=none:=by
  cases q:A.H0 p with
  |none=>rfl
  |some o=>
   by_cases e:A.G=some p
   ·obtain⟨x,y,z,w,_⟩:=I.st p e;rw[w] at L;cases L
   ·have:=I.fr p o e q;rw[this] at L;cases L
 refine⟨by simp[I.len],λj c e=>?_,Reps.mono zz (λa u _ e=>O a u e) _ _ I.pend,?_,λq J=>?_,λa e=>?_,I.gz,λa u h e=>O a u (I.fr a u h e),I.z0⟩
 ·by_cases Y : j = i
  ·subst Y;rw[zU hi] at e;cases e
   exact⟨.ref p,zU (by rw[<- I.len];exact hi),p,xs,rfl,xf,yb,Reps.mono zz (λa u _ e=>O a u e) _ _ r⟩
  ·rw [xg (Ne.symm Y)] at e;obtain⟨u,e1,e2⟩:=I.slot j c e
   exact⟨u,by rw[xg (Ne.symm Y)];exact e1,SlotR.mono zz (λa u _ e=>O a u e) (λa ys m q=>⟨zn _ (zy.mpr ⟨m,by simpa using Y⟩),O a _ q⟩) _ _ e2⟩
 ·refine wF.mpr ⟨λq J => ?_, I.nd.filter _⟩;obtain⟨m1,m2⟩:=zy.mp J
  refine⟨λz=>by simp[<- z] at m2,λz=>(I.fresh q m1).2.2.ne ?_⟩
  have z':p=q.2:=z;rw[<- z'];exact L
 ·rcases zj.mp J with rfl | J
  ·exact⟨h0,λz=>(I.z0.1 p z).ne h0,by show Hot (upd H p _ p);rw[yb];exact Hot.lst⟩
  ·obtain⟨f1,f2,f3⟩:=I.fresh q (zy.mp J).1;exact⟨f1,f2,f3.of λu w=>O _ _ w⟩
 ·obtain⟨x,y,z,q,rr⟩:=I.st a e;exact⟨x,y,z,O _ _ q,rr⟩
def zI4{i j:Nat}{kt k2 O}(hc:X.calm=true)(hN:X.N.Nodup)(hi:X.N[i]?=some x)(hj:X.N[j]?=some y)(ae:i≠j)
  (hx:X.env.scope.names.lookup x=some .local) (hy:X.env.scope.names.lookup y=some .local) (hb:∀(Z:QqA) (H0:Hp),PD ⟨A.K,A.G,Z,H0⟩ X b tb)
  (hk:X.env.blockKind=.function:=by rfl) (hl:py.line=px.line:=by rfl) (Y:x≠y:=by decide) (L:vG b=false:=by rfl) (hf:[Expr.List [] pl,b].all (foldedForSure 8)=false:=by decide +kernel) (af:[Expr.List [] pl,b].all (constantsAlone 8)=false:=by decide +kernel) :
  PSD A X (.Assign [.Tuple [.Name x px,.Name y py] kt pt] (.Tuple [.List [] pl,b] k2 O) pos) (xf9 i j tb):=by
 exists (by
   have hb':PE X b (λsg H Q=>∃Z H0,tOf ⟨A.K,A.G,Z,H0⟩ tb sg H Q):=λpins s sg H Q I q=>by
    obtain⟨Z,H0,q⟩:=q;exact hb Z H0 pins s sg H Q I q
   refine(zQ9 hc hN hi hj ae hx hy (qh (Kz jZ) (qh hb' jZ (sE L)) (sE rfl)) (zb8 hk hx hy hl Y rfl L hf af) rfl).imp λE sg H h=>?_;obtain⟨rho,n,F,ds,vs,⟨os,I⟩,⟨ad,aa,ho,ht⟩,ok⟩:=h;refine⟨xq _,λp hp=>?_⟩;have I1:=I.setOwnX (es:=[]) (xs:=[]) ad hp .nil
   have hH:∀a o,H a=some o->upd H p (.lst []) a=some o:=λa o e=>by rw[xX (yd e hp)];exact e
   refine⟨λa=>Zof A os a\/a=p,upd H p (.lst []),rho,n,_,[],[],⟨[],I.still ho hH (λa h z=>?_) (λa z=>?_) (λa e=>.inl (.inl (I.gz a e)))⟩,ht,λv H2 n2 d ⟨ag,J⟩ k=>?_⟩
   ·rcases z with z | rfl
    ·exact z
    ·exact absurd hp h
   ·rcases z with z | rfl
    ·exact(I.zHot a z).of λo e=>hH a o e
    ·rw[yb];exact Hot.lst
   ·obtain ⟨J1, r⟩ := J.pop;have C:=I1.called (n':=n2) (H':=H2) (λa o g e=>J1.fr a o g e) J1.st
    refine⟨_,_,rfl,ok.nx _ _ _ _ ⟨_,(C.push (d:=d) (v:=v) ?_).set (by simpa using aa)⟩ k⟩
    refine Rep.mono (K:=A.K) (G:=A.G) (λa h z=>?_) (λa o _ e=>e) _ _ r
    rcases z with z |⟨q,hq,e⟩
    ·exact .inl (.inl (.inl z))
    ·rcases zj.mp hq with rfl | hq
     ·exact .inl (.inr e.symm)
     ·exact .inl (.inl (.inr ⟨q,(zy.mp hq).1,e⟩)))
end
end L2
namespace L2
open PySem PySem.Spec PyProof.Rows PySem.SeqAt
section
variable {A:AC}{X:Cx}{a b c e:Expr}{ta tb tc te:TD}{pos:Pos}
def xG3(K:W.Frag):R2:=λx y H Q=>∃p q xs,x=.ref p/\y=.ref q/\SqT K H p xs/\SqT K H q []/\Q (.bl xs.isEmpty) H
def xk7{n:Nat}(Y:Room n X.A):OpR X (compareOp .Eq) (xG3 X.K):=by
 intro pins s σ H x y v u Q I O L h;obtain⟨p,q,xs,rfl,rfl,sq,sq',k⟩:=h;cases O;cases L;obtain⟨its,rv,pl,hz⟩:=I.tuple sq;obtain⟨its',rv',pl',hz'⟩:=I.tuple sq';cases rv';have hu:=Y.units
 have R:=RcAt.tuples (A:=X.A) (e:=λ_=>true) (show s.heap.IsTuple p its.toArray from pl) (show s.heap.IsTuple q #[] from pl') q5 (λj l1 l2=>absurd l2 (by simp))
 have ev:((List.range (min its.toArray.size (#[]:Array Value).size)).all (λ_=>true)&&its.toArray.size == (#[]:Array Value).size)=xs.isEmpty:=by
  have J:=rv.length
  cases xs with
  |nil=>cases its with
   |nil=>rfl
   |cons _ _=>simp at J
  |cons _ _=>cases its with
   |nil=>simp at J
   |cons _ _=>simp
 exact(rcC R ev) X.prog X.w X.xe _ ⟨.bl xs.isEmpty,H,I,rfl,k⟩
def xh0:RD2:=λd1 d2 k=>zo2 d1 λes=>d2=.tup []/\k (.bl es.isEmpty)
@[simp] theorem xy5{d1 d2 k}:xh0 d1 d2 k=zo2 d1 λes=>d2=.tup []/\k (.bl es.isEmpty):=rfl
def xg6:kr A (xG3 A.K) xh0:=by
 rintro os n rho sg H ds vs d1 d2 v1 v2 k Q I ⟨es,rfl,rfl,q⟩ Y;obtain⟨I1,J⟩:=I.pop;obtain⟨I2,L⟩:=I1.pop;obtain⟨a,xs,rfl,sq,rs⟩:=L.tup_inv;obtain⟨b,ys,rfl,sq',rs'⟩:=J.tup_inv;have e:=rs'.nil_inv;subst e;have O:=rs.length
 have ee:xs.isEmpty=es.isEmpty:=by cases xs<;>cases es<;>first |rfl |(simp at O;done)
 exact⟨a,b,xs,rfl,rfl,sq.sq,sq'.sq,by rw[ee];exact Y _ H _ ⟨os,I2.push (Rep.ofS rfl)⟩ q⟩
end
mutual
def vv:D->PyData
 |.bl b=>.bool b
 |.int i=>.int i
 |.str x=>.str x
 |.tup ds=>.tuple (vH ds)
 |.lst ds=>.list (vH ds)
 |_=>.none
def vH:List D->List PyData
 |[]=>[]
 |d::ds=>vv d::vH ds
end
mutual
def okR:D->Nat->Bool
 |.non,_=>true
 |.bl _,_=>true
 |.int i,_=>decide (i.natAbs.log2<1920)
 |.str x,_=>decide ((reprText x).length<=2000)
 |.tup ds,k=>match k with
  |0=>false
  |k+1=>zL0 ds k
 |.lst ds,k=>match k with
  |0=>false
  |k+1=>zL0 ds k
 |_,_=>false
def zL0:List D->Nat->Bool
 |[],_=>true
 |d::ds,k=>okR d k&&zL0 ds k
end
mutual
def zm9:D->Nat
 |.tup ds=>qZ ds+1
 |.lst ds=>qZ ds+1
 |_=>1
def qZ:List D->Nat
 |[]=>0
 |d::ds=>zm9 d+qZ ds
end
def zU7(d:D):Str:=(vv d).shown
theorem jO:∀{ds:List D}{k:Nat},zL0 ds k=true↔∀d∈ds,okR d k=true
 |[],k=>by unfold zL0;simp
 |d::ds,k=>by
  unfold zL0;rw[zG,jO];simp
def Zv{k:Nat}:okR (.tup ds) (k+1)=true↔∀d∈ds,okR d k=true:=by
 have e:okR (.tup ds) (k+1)=zL0 ds k:=by rw[okR]
 rw[e,jO]
theorem nodRs_le:∀{ds:List D}{b:Nat},(∀d∈ds,zm9 d<=b)->qZ ds<=ds.length*b
 |[],b,_=>by unfold qZ;simp
 |d::ds,b,h=>by
  unfold qZ;have h1:=h d (xf ..);have J:=nodRs_le (ds:=ds) λe he=>h e (zn _ he);rw[zJ,Nat.add_mul];lia
structure ShownA(d:D)(k:Nat):Prop where
 show1:(vv d).showable=true
 dict:(vv d).hasDict=false
 deep:(vv d).depth<=k
 len:(vv d).shown.length+3<=2005*zm9 d
structure ShownAs(ds:List D)(k:Nat):Prop where
 show1:PyData.showableAll (vH ds)=true
 dict:PyData.hasDictAll (vH ds)=false
 deep:PyData.depthAll (vH ds)<=k
 len:((PyData.shownAll (vH ds)).map (·.length)).sum+2*(PyData.shownAll (vH ds)).length<=2005*qZ ds
mutual
theorem Kl:∀(d:D) (k:Nat),okR d k=true->ShownA d k
 |.non,k,h=>⟨by unfold vv PyData.showable;rfl,by unfold vv PyData.hasDict;rfl,by unfold vv PyData.depth;lia,by unfold vv PyData.shown zm9;decide +kernel⟩
 |.bl b,k,h=>⟨by unfold vv PyData.showable;rfl,by unfold vv PyData.hasDict;rfl,by unfold vv PyData.depth;lia,by unfold vv PyData.shown zm9;cases b<;>decide +kernel⟩
 |.int i,k,h=>by
  have h':i.natAbs.log2<1920:=of_decide_eq_true (by unfold okR at h;exact h)
  refine⟨by unfold vv PyData.showable;exact xh h',by unfold vv PyData.hasDict;rfl,by unfold vv PyData.depth;lia,?_⟩
  have e:=int_text_length_le (k:=1920) q9 h'
  unfold vv PyData.shown zm9;rw[PySem.ofString_length];lia
 |.str x,k,h=>by
  have h':(reprText x).length<=2000:=of_decide_eq_true (by unfold okR at h;exact h)
  refine⟨by unfold vv PyData.showable;rfl,by unfold vv PyData.hasDict;rfl,by unfold vv PyData.depth;lia,?_⟩
  unfold vv PyData.shown zm9;lia
 |.tup ds,0,h=>by simp[okR] at h
 |.tup ds,k+1,h=>by
  have S:=Yj ds k (by simpa [okR] using h)
  have L:=tupleText_len_le (PyData.shownAll (vH ds))
  refine⟨by unfold vv PyData.showable;exact S.show1,by unfold vv PyData.hasDict;exact S.dict,by unfold vv PyData.depth;have:=S.deep;lia,?_⟩
  unfold vv PyData.shown zm9;have:=S.len;lia
 |.lst ds,0,h=>by simp[okR] at h
 |.lst ds,k+1,h=>by
  have S:=Yj ds k (by simpa [okR] using h)
  have L:=listText_len_le (PyData.shownAll (vH ds))
  refine⟨by unfold vv PyData.showable;exact S.show1,by unfold vv PyData.hasDict;exact S.dict,by unfold vv PyData.depth;have:=S.deep;lia,?_⟩
  unfold vv PyData.shown zm9;have:=S.len;lia
 |.ty _,k,h=>by simp[okR] at h
 |.fz _,k,h=>by simp[okR] at h
 |.st,k,h=>by simp[okR] at h
 |.own _,k,h=>by simp[okR] at h
 |.owT _ _,k,h=>by simp[okR] at h
 |.prT _,k,h=>by simp[okR] at h
 |.dic,k,h=>by simp[okR] at h
 |.dct _ _,k,h=>by simp[okR] at h
 |.dcL _ _,k,h=>by simp[okR] at h
theorem Yj:∀(ds:List D) (k:Nat),zL0 ds k=true->ShownAs ds k
 |[],k,_=>⟨by unfold vH PyData.showableAll;rfl,by unfold vH PyData.hasDictAll;rfl,by unfold vH PyData.depthAll;lia,by unfold vH PyData.shownAll qZ;simp⟩
 |d::ds,k,h=>by
  have h':=jO.mp h;have S:=Kl d k (h' d xf);have T:=Yj ds k (jO.mpr λe he=>h' e (zn _ he))
  refine⟨by unfold vH PyData.showableAll;rw[S.show1,T.show1];rfl,by unfold vH PyData.hasDictAll;rw[S.dict,T.dict];rfl,by unfold vH PyData.depthAll;have:=S.deep;have:=T.deep;lia,?_⟩
  unfold vH PyData.shownAll qZ;have:=S.len;have:=T.len;simp only[zD,sum_cons,zJ];lia
end
section
variable {X:Cx}{pins:QqL}{σ:St}{H:Hp}{s:Shared}{G:QqE}{Z:QqA}
mutual
theorem Kw(I:Inv X pins σ H s):∀(d:D) (k:Nat) (v:V) (u:Value),okR d k=true->Rep X.K G Z H d v->RelV v u->∃as,Reads s.heap u (vv d) as
 |.non,k,v,u,_,r,q=>by
  have e:v=.non:=r.toS rfl;subst e;cases q;unfold vv;exact⟨_,.none⟩
 |.bl b,k,v,u,_,r,q=>by
  have e:v=.bl b:=r.toS rfl;subst e;cases q;unfold vv;exact⟨_,.bool b⟩
 |.int i,k,v,u,_,r,q=>by
  have e:=r.int_inv;subst e;obtain⟨t,rfl⟩:=q;unfold vv;exact⟨_,.int i t⟩
 |.str x,k,v,u,_,r,q=>by
  have e:v=.str x:=r.toS rfl;subst e;obtain⟨t,rfl⟩:=q;unfold vv;exact⟨_,.str x t⟩
 |.tup ds,0,v,u,h,_,_=>by simp[okR] at h
 |.tup ds,k+1,v,u,h,r,q=>by
  obtain⟨a,xs,rfl,sq,rs⟩:=r.tup_inv;have e:u=.ref a:=q;subst e;obtain⟨its,rv,⟨o,ho,L,n,hd⟩,_⟩:=I.tuple sq.sq
  obtain⟨as,J⟩:=Yw I ds k xs its (by simpa [okR] using h) rs rv
  unfold vv
  exact⟨as,.tuple ho L hd (by simpa using J)⟩
 |.lst ds,0,v,u,h,_,_=>by simp[okR] at h
 |.lst ds,k+1,v,u,h,r,q=>by
  obtain⟨a,xs,rfl,sq,rs⟩:=r.lst_inv;have e:u=.ref a:=q;subst e;obtain⟨its,rv,pl,_⟩:=I.list sq.sq;obtain⟨o,ho,L,n,hd⟩:=pl.isList
  obtain⟨as,J⟩:=Yw I ds k xs its (by simpa [okR] using h) rs rv
  unfold vv
  exact⟨_,.list ho L hd (by simpa using J)⟩
 |.ty _,k,v,u,h,_,_=>by simp[okR] at h
 |.fz _,k,v,u,h,_,_=>by simp[okR] at h
 |.st,k,v,u,h,_,_=>by simp[okR] at h
 |.own _,k,v,u,h,_,_=>by simp[okR] at h
 |.owT _ _,k,v,u,h,_,_=>by simp[okR] at h
 |.prT _,k,v,u,h,_,_=>by simp[okR] at h
 |.dic,k,v,u,h,_,_=>by simp[okR] at h
 |.dct _ _,k,v,u,h,_,_=>by simp[okR] at h
 |.dcL _ _,k,v,u,h,_,_=>by simp[okR] at h
theorem Yw(I:Inv X pins σ H s):∀(ds:List D) (k:Nat) (vs:List V) (us:QqW),zL0 ds k=true->Reps X.K G Z H ds vs->Vals vs us->∃as,ReadsAll s.heap us (vH ds) as
 |[],k,vs,us,_,r,q=>by
  have e:=r.nil_inv;subst e;cases q;unfold vH;exact⟨_,.nil⟩
 | d :: ds, k, vs, us, h, r, q => by
  have h':=jO.mp h;obtain⟨v,xs,rfl,Y,O⟩:=r.split
  cases q with
  |cons q1 q2=>
   obtain⟨as,L⟩:=Kw I d k v _ (h' d xf) Y q1;obtain⟨bs,J⟩:=Yw I ds k xs _ (jO.mpr λe he=>h' e (zn _ he)) O q2;unfold vH;exact⟨_,.cons L J⟩
end
end
end L2
namespace L2
section
variable {A:AC}{X:Cx}{a1 a2 b1 b2:Expr}{ta:TAD}{tb1 tb2:TD}{pos:Pos}
end
end L2
namespace PySem
open PySem.Sem (wp)
namespace F
end F
section
variable {prog:Program}{w:World}{K:Type} [DecidableEq K] {knd:KeyKind prog w K}{A:Around}{R:Result->Shared->Prop}
end
section
variable {prog:Program}{w:World}{K:Type} [DecidableEq K] {knd:KeyKind prog w K}{A:Around}{E:QqV}{s:Shared}
end
end PySem
namespace L2
section
variable {X:Cx}{A:AC}
end
end L2
namespace L2
open PySem PySem.Spec PyProof.Rows PySem.SeqAt
section
variable {A:AC}{X:Cx}
def zX4:PE X (.Dict [] [] pos) (λ_ H Q=>∀p,H p=none->Q (.ref p) (upd H p (.dK []))):=λpins s σ H Q I h=>
 wpAny_Dict_empty ⟨.ref s.heap.objs.size,_,I.laid (a:=s.heap.objs.size) (o:=.dK []) (t':=s.toks) (λ_ _ q=>zh _ q) (zo _) (xp6 s.heap (xq4 I)),rfl,h _ (I.hok.fresh (zo _))⟩
def zX8:PD A X (.Dict [] [] pos) (dC (.dct [] [])):=by
 exists zX4.imp λsg H Q h=>by
   obtain⟨rho,n,P,ds,vs,⟨os,I⟩,q,L⟩:=h;exact λp J=>L _ _ n _ ⟨os,I.newDct (ks:=[]) (es:=[]) (xs:=[]) .nil J⟩ q
end
end L2
namespace L2
section
variable {A:AC}
end
section
variable {A:AC}{X:Cx}{pos:Pos}{m:Nat}
end
section
variable {A:AC}{X:Cx}
def zl9{n:Nat}(J:Room n X.A):kG X (.builtin "repr") (λxs H Q=>(xs=[.non]/\Q (.str "None") H)\/∃(y:V) (p:PyData),xs=[y]/\zE3 X H y p/\p.showable=true/\p.hasDict=false/\p.depth<=20/\p.shown.length<=sizeLine/\Q (.str p.shown) H):=by
 intro pins s σ H xs us Q I r h
 rcases h with ⟨rfl,q⟩ |h
 ·obtain⟨u,rfl,hu⟩:=ZH r;have e:u=.none:=hu;subst e;exact PySem.P.repr_of_none ⟨.str "None",H,I.tok _,⟨_,rfl⟩,q⟩
 ·exact zl8 J pins s σ H xs us Q I r h
def zp7:D->Str
 |.non => "None"
 |d=>zU7 d
def xD6(d:D):Prop:=d=.non\/(xu3 d=true/\okR d 20=true/\zm9 d<=8000)
def zR8:List D->(D->Prop)->Prop:=λes k=>∃d,es=[d]/\xD6 d/\k (.str (zp7 d))
@[simp] theorem xs8{d k}:zR8 [d] k↔(xD6 d/\k (.str (zp7 d))):=⟨fun⟨_,e,h⟩=>by cases e;exact h,λh=>⟨_,rfl,h⟩⟩
def zO7(hK:X.K=A.K):ve A (λxs H Q=>(xs=[.non]/\Q (.str "None") H)\/∃(y:V) (p:PyData),xs=[y]/\zE3 X H y p/\p.showable=true/\p.hasDict=false/\p.depth<=20/\p.shown.length<=sizeLine/\Q (.str p.shown) H) zR8:=by
 rintro os n rho sg H ds vs es ws k Q I rs ⟨d,rfl,h |⟨h1,Y,h3⟩,q⟩ O
 ·subst h;obtain⟨v,rfl,r⟩:=kO rs;have e:v=.non:=r.toS rfl;subst e;exact .inl ⟨rfl,O _ H _ ⟨os,I.push (Rep.ofS (d:=.str "None") rfl)⟩ q⟩
 ·obtain ⟨v, rfl, r⟩ := kO rs;have S:=Kl _ _ Y;have:=S.len;rw[<- hK] at r
  have e:zp7 d=zU7 d:=by cases d<;>first |rfl |(simp[xu3] at h1)
  rw[e] at q
  refine .inr ⟨v,_,rfl,λpins s σ u J L=>?_,S.show1,S.dict,S.deep,by rw[sizeLine_eq];lia,O _ H _ ⟨os,I.push (Rep.ofS (d:=.str (zU7 d)) rfl)⟩ q⟩
  obtain⟨as,rd⟩:=Kw J _ _ v u Y r L
  obtain⟨a,rfl⟩:∃a,v=.ref a:=by
   cases d with
   |tup ds=>obtain⟨a,xs,e,_⟩:=r.tup_inv;exact⟨a,e⟩
   |lst ds=>obtain⟨a,xs,e,_⟩:=r.lst_inv;exact⟨a,e⟩
   |_=>simp[xu3] at h1
  have e:u=.ref a:=L;subst e;exact⟨a,as,rfl,rd⟩
end
def lo(h:(match sc.names.lookup x with |some .local=>true |some .cell=>true |_=>false)=true):Loc sc x:=by
 unfold Loc
 split at h
 ·exact .inl (by assumption)
 ·exact .inr (by assumption)
 ·cases h
end L2
namespace L2
open PySem PySem.Spec PyProof.Rows PySem.SeqAt
section
variable {A:AC}{X:Cx}
end
end L2
namespace L2
structure LamScope(N:List Str)(p:Str)(scope:Scope)(cl:List (Str × Addr)):Prop where
 kind:scope.kind=.function
 co:scope.isCoroutine=false
 gen:scope.isGenerator=false
 nocell:∀x∈scope.names,x.2≠.cell
 head:N[0]?=some p
 par:scope.names.lookup p=some .local
 free:∀x,scope.names.lookup x=some .free->∃c,cl.lookup x=some c
 rest:∀i x,N[i+1]?=some x->scope.names.lookup x=some .free
def zj9(X:Cx)(A:Around)(N:List Str)(J:Str)(scope:Scope)(f c':Addr)(cl:List (Str × Addr))(s:Shared)(H:Hp):Cx where
 prog:=X.prog
 w:=X.w
 K:=X.K
 mg:=X.mg
 base:=X.base
 A:=A.deeper (W.envX J scope s.heap.objs.size f (.ref c') cl)
 N:=N
 s₀:=s
 H₀:=H
 env:=W.envX J scope s.heap.objs.size f (.ref c') cl
 outer:=X.stack
 stack:=W.envX J scope s.heap.objs.size f (.ref c') cl::X.stack
 ex:=[]
 fn:=λ_=>false
 calm:=true
 pn:=[]
 xe:=λ_ _=>False
section
variable {X:Cx}{pins:QqL}{σ:St}{H:Hp}{s:Shared}{A:Around}{f c':Addr}{qual p:Str}{params:Arguments}{body:Expr}{scope:Scope}{cl:List (Str × Addr)}{pm ctv:Value}{N:List Str}{v:V}{u:Value}{cv:List V}
def xa4{tk:Nat}(I:Inv X pins σ H s)(hA:A.frames=some X.stack)(hh:A.handled=none)(S:LamScope N p scope cl)(hN:N.length=cv.length+1)(r:RelV v u)
  (sub:∀x c,cl.lookup x=some c->X.env.cells.lookup x=some c)
  (aa:∀i x y,N[i+1]?=some x->cv[i]?=some y->∃c,cl.lookup x=some c/\∃u,RelV y u/\s.heap.IsCell c (some u))
  (O:h1.Ns s.heap.objs.size (λy=>[(p,u)].reverse.lookup y)) (hk:∀b o,s.heap.get? b=some o->h1.get? b=some o) :
  Inv (zj9 X A N qual scope f c' cl s H) [] (some v::cv.map some) H { s with heap:=h1,toks:=tk }:=by
 have J:∀b:Addr,b ∉ (zj9 X A N qual scope f c' cl s H).ex:=λb z=>absurd (show b∈([]:List Addr) from z) (by simp)
 refine⟨⟨I.mod,S.kind,rfl,rfl,zo _,λy z c h1 h2=>?_,λy L=>?_,λy c z _=>?_,λ_=>hh,Around.frames_deeper hA,.inr ⟨rfl,rfl⟩,λb z=>absurd z (J b),I.bs,zK I.ok.bsz I.sz,λb _ _=>J b,λb z=>absurd z (J b),I.stack,I.stkFree⟩,
  rfl,I.bare,Un.kept hk,⟨_,O,λi y z e1 e2 e3=>?_⟩,λy c h=>?_,I.hok.fresh (zo _),λy c h=>I.freeC y c (sub y c h),λp hp=>absurd (show p∈([]:QqL) from hp) (by simp),I.hok.kept hk,?_⟩
 ·exact I.ok.inj y z c (sub y c h1) (sub z c h2)
 ·have L : scope.names.lookup y = some .cell \/ scope.names.lookup y = some .free := L
  rcases L with L |L
  ·exact absurd rfl (S.nocell _ (PySem.mem_of_lookup L))
  ·exact S.free y L
 ·cases(show false=true from z)
 ·cases i with
  |zero=>
   have e4:y=p:=by have:=e1.symm.trans S.head;exact zP this
   subst e4
   have Y:v=z:=by simpa using e2
   subst Y;refine⟨u,r,.inl ⟨S.par,?_⟩⟩;simp
  | succ i =>
   have e4:cv[i]?=some z:=by
    have:(cv.map some)[i]?=some (some z):=by simpa using e2
    rw[zw] at this
    cases q:cv[i]? with
    |none=>rw[q] at this;cases this
    |some a=>rw[q] at this;cases this;rfl
   obtain⟨c,Y,u',r',o,ho,hd⟩:=aa i y z e1 e4;exact⟨u',r',.inr ⟨.inr (S.rest i y e1),c,Y,o,hk _ _ ho,hd⟩⟩
 ·obtain⟨w',o,ho,hd⟩:=I.cell y c (sub y c h);exact⟨w',o,hk _ _ ho,hd⟩
 ·show(some v::cv.map some).length=N.length;rw[zJ,zg,hN]
def xa3(I:Inv X pins σ H s)(hf:s.heap.get? f=some (W.kla_obj "<lambda>" qual params body scope cl pm c' ctv))(ae:s.heap.CodeRec (.ref c') qual)
  (hA:A.frames=some X.stack) (L:A.depth<recursionLimit) (hh:A.handled=none) (S:LamScope N p scope cl) (hN:N.length=cv.length+1)
  (hb:bindArgs (W.kla_fn "<lambda>" qual params body scope cl pm (.ref c') ctv) ⟨[u],[]⟩=pure [(p,u)]) (r:RelV v u)
  (sub:∀x c,cl.lookup x=some c->X.env.cells.lookup x=some c)
  (af:∀i x y,N[i+1]?=some x->cv[i]?=some y->∃c,cl.lookup x=some c/\∃u,RelV y u/\s.heap.IsCell c (some u))
  (O:PE (zj9 X A N qual scope f c' cl s H) body t) (ht:t (some v::cv.map some) H Q) :
  wpAny (model X.prog X.w) A (call (.ref f) [u]) (EP X pins σ λv H'=>Q v H'/\∀b o w,H b=some (.frz o w)->H' b=some (.frz o w)) E s:=by
 refine wpAny_call (codeAny_mono (R:=λr s'=>match r with |.ok (.ret u)=>CE X.stack X.prog X.w H s (λv H'=>Q v H'/\∀b o w,H b=some (.frz o w)->H' b=some (.frz o w)) u s' |_=>False) ?_ λr s' Y=>?_)
 ·refine W.kla_callFunE L hf rfl S.co S.gen rfl ae ?_;rw[hb];refine zd (wpAny_newFunctionEnv S.nocell (λy hy=>?_) (λh1 ad aa=>?_) S.kind)
  ·have : y = (p, u) := by simpa using hy
   rw[this];exact S.par
  ·have hk:∀b o,s.heap.get? b=some o->h1.get? b=some o:=λb o e=>aa.extBut b o (zA (zt e)) (zh _ e);refine⟨I.nolimit.keeps hk,?_⟩;show codeAny _ _ (.expr body (W.envX qual scope s.heap.objs.size f (.ref c') cl)) _ _;have I2:Inv (zj9 X A N qual scope f c' cl s H) [] (some v::cv.map some) H { s with heap:=h1,toks:=s.toks+[(p,u)].length }:=xa4 I hA hh S hN r sub af ad hk;refine W.kla_codeExpr (wv (O [] _ _ H Q I2 ht) (λu' s' h=>?_) λ_ _ z=>z.elim);obtain⟨v',H',J,rv,q⟩:=h;exact⟨v',H',J.os,J.bare,J.base,J.hok,rv,q,J.base.frzs⟩
 ·cases r with
  |error e=>exact False.elim Y
  |ok fl=>
   cases fl with
   |ret u=>exact I.after Y
   |next=>exact False.elim Y
   |brk=>exact False.elim Y
   |cont=>exact False.elim Y
end
def Kg(sp:V->Hp->VK->Prop):List V->Hp->(List V->Hp->Prop)->Prop
 |[],H,Q=>Q [] H
 |v::vs,H,Q=>sp v H λk H'=>Kg sp vs H' λks H''=>Q (k::ks) H''
section
variable {X:Cx}{pins:QqL}{σ:St}{H:Hp}{s:Shared}
def FpOk.reH(h:FpOk X pins H b)(J:H' b=none):FpOk X pins H' b:=⟨J,h.2⟩
def FpOk.more(h:FpOk X pins H b)(L:q.1≠b):FpOk X (q::pins) H b:=
 ⟨h.1,h.2.1,h.2.2.1,h.2.2.2.1,h.2.2.2.2.1,λp J=>by
  rcases xi.mp J with J |J
  ·exact h.2.2.2.2.2 p (xv _ J)
  ·rcases zj.mp J with rfl | J
   ·exact L
   ·exact h.2.2.2.2.2 p (zL _ J)⟩
def Ky(ks vs:QqW)(h:ks.length=vs.length):ks.toArray.zip vs.toArray=(Array.range vs.length).map λi=>(ks.getD i .none,vs.getD i .none):=by
 refine Array.ext_getElem? λk=>?_;rw[ym]
 by_cases hk:k<vs.length
 ·have L : (Array.range vs.length)[k]? = some k := by rw [Array.getElem?_range, if_pos hk]
  have hk':k<ks.length:=q5
  rw[L]
  have J:(ks.toArray.zip vs.toArray)[k]?=some (ks[k],vs[k]):=by
   rw[xS (by simp;lia)]
   simp
  rw[J];simp[zS,hk,hk']
 ·rw [wJ (by simp; lia), wJ (by simp; lia)]
  rfl
def vN(X:Cx)(ys:List V)(Q:VK)(ks:List V)(H:Hp):Prop:=∃(J:Bool) (r:Nat->Nat->Bool),ks.length=ys.length /\
 (∀a b,a<ys.length->b<ys.length->a≠b->r a b=!r b a)/\(∀a b c,a<ys.length->b<ys.length->c<ys.length->r a b=true->r b c=true->r a c=true) /\
 (∀a,a<ys.length->xL6 X H J (ks.getD a .non))/\(∀a b,a<ys.length->b<ys.length->a≠b->xL9 X H J (ks.getD a .non) (ks.getD b .non) (r a b)) /\
 ∀ls:Array Nat,ls.Perm (Array.range ys.length)->Srt.Up r ls ys.length->∀l,H l=none->Q (.ref l) (upd H l (.lst (ls.toList.map λi=>ys.getD i .non)))
variable {A:Around}{E:QqV}{a kS:Addr}{vs:QqW}{ys ks:List V}{kA:Array Value}{e e1:Nat}{Q:VK}
def zM3{st:SortSt}{ls:Array Nat}(I:Inv X pins σ H s)(hk:s.heap.get? kS=some (seqObj "list" kA e))(ha:s.heap.get? a=some (seqObj "list" #[] e1))(fk:FpOk X pins H kS)(Y:FpOk X pins H a)(ae:kS≠a)(aa:X.s₀.heap.objs.size<=a)(hz:kA.size<=64)
  (rv:Vals ys vs) (af:ys.length<64) (h1:arrOf st=ls.map λi=>(kA.toList.getD i .none,vs.getD i .none)) (h2:failedOf st=none) (h3:ls.Perm (Array.range ys.length)) (q:Q (.ref a) (upd H a (.lst (ls.toList.map λi=>ys.getD i .non)))) :
  wpAny (model X.prog X.w) A (ksk_tail a false e1 (.ref kS) st) (λr s'=>r=.done (.ret .none)/\∃H4,Inv X pins σ H4 s'/\Q (.ref a) H4) E s:=by
 have len:=rv.length
 have hsz:ls.size=ys.length:=by rw[h3.size_eq,yO]
 have ad:∀i∈ls.toList,i<ys.length:=λi hi=>by
  have:=(h3.mem_iff).mp (Array.mem_toList_iff.mp hi)
  rwa [Array.mem_range] at this
 have s1:=Heap.SameBut.update s.heap kS (Obj.mapSeq λ_=>(#[]:Array Value));have L:(s.heap.update kS (Obj.mapSeq λ_=>(#[]:Array Value))).get? a=some (seqObj "list" #[] e1):=(s1.2 a ae.symm).trans ha
 have ea:(arrOf st).map (·.2)=ls.map λi=>vs.getD i .none:=by rw[h1,Array.map_map];rfl
 have es:((arrOf st).map (·.2)).size<=64:=by rw[ea,Array.size_map,hsz];lia
 unfold ksk_tail;dsimp only
 refine zb (listUpdate_at hk rfl ?_ (by rw[sizeLine_eq];lia) (xq _))
 refine zb (yo ?_);refine zb (seqEpoch_at L rfl ?_);simp only[zY,if_false]
 refine zb (listUpdate_at L rfl ?_ (xq _) (zK es (by rw[sizeLine_eq];lia)))
 rw[h2];simp only[bne_self_eq_false,zY,if_false];rw[ea];have s2:=Heap.SameBut.update (s.heap.update kS (Obj.mapSeq λ_=>(#[]:Array Value))) a (Obj.mapSeq λ_=>ls.map λi=>vs.getD i .none)
 obtain⟨c2,hc2⟩:∃c2,((s.heap.update kS (Obj.mapSeq λ_=>(#[]:Array Value))).update a (Obj.mapSeq λ_=>ls.map λi=>vs.getD i .none)).get? a=some (seqObj "list" (ls.map λi=>vs.getD i .none) c2):=
  ⟨_,get?_update_seq L λ_=>ls.map λi=>vs.getD i .none⟩
 refine zd ⟨rfl,_,?_,q⟩
 have J:=I.turnedL (t':=s.toks) (h':=(s.heap.update kS (Obj.mapSeq λ_=>(#[]:Array Value))).update a (Obj.mapSeq λ_=>ls.map λi=>vs.getD i .none)) (ch:=[kS,a]) (λb o O z=>by
  have n1:b≠kS:=λz=>O (by simp[z])
  have n2:b≠a:=λz=>O (by simp[z])
  exact(s2.2 b n2).trans ((s1.2 b n1).trans z)) (λb O=>by
  rcases zj.mp O with rfl |O
  ·exact fk
  ·rw[zB.mp O];exact Y)
 refine J.track Y.1 aa Y.2.1 Y.2.2.2.2.1 Y.2.2.2.2.2 ⟨?_,(ls.toList.map λi=>vs.getD i .none),c2,Xy rv ad,?_⟩
 ·rw [zg, xJ, hsz]
  exact zK (yv af) q9
 ·have ee : (ls.toList.map λi => vs.getD i .none).toArray = ls.map λi => vs.getD i .none := by rw [<- Array.toList_map, yx]
  rw[ee];exact hc2
def xa7(I:Inv X pins σ H s)(hk:s.heap.get? kS=some (seqObj "list" kA e))(ha:s.heap.get? a=some (seqObj "list" #[] e1))(fk:FpOk X pins H kS)(fa:FpOk X pins H a)(af:kS≠a)(ae:X.s₀.heap.objs.size<=a)
  (rv:Vals ys vs) (ah:ys.length<64) (rk:Vals ks kA.toList) (un:A.units+60<cLine) (fin:vN X ys Q ks H) :
  wpAny (model X.prog X.w) A (ksk_end a false vs.toArray e1 (.ref kS) kA) (λr s'=>r=.done (.ret .none)/\∃H4,Inv X pins σ H4 s'/\Q (.ref a) H4) E s:=by
 classical
 obtain⟨f,rr,aj,tot,tr,aa,cmp,q⟩:=fin;have len:=rv.length;have ai:=rk.length
 have hz:kA.size<=64:=by rw[<- xJ];lia
 have O:kA.zip vs.toArray=(Array.range vs.length).map λi=>(kA.toList.getD i .none,vs.getD i .none):=by
  have:=Ky kA.toList vs q5
  rwa [yx] at this
 have J:∀(t:SortSt) (ls:Array Nat),arrOf t=ls.map (λi=>(kA.toList.getD i .none,vs.getD i .none))->failedOf t=none->ls.Perm (Array.range vs.length)->Srt.Up rr ls vs.length ->
   wpAny (model X.prog X.w) A (ksk_tail a false e1 (.ref kS) t) (λr s'=>r=.done (.ret .none)/\∃H4,Inv X pins σ H4 s'/\Q (.ref a) H4) E s:=λt ls a1 a2 a3 a4=>by
  rw[<- len] at a3 a4;exact zM3 I hk ha fk fa af ae hz rv ah a1 a2 a3 (q ls a3 a4 a fa.1)
 unfold ksk_end;dsimp only;simp only[zY,if_false]
 by_cases c:vs.toArray.size<2
 ·rw [if_pos c, if_pos c];refine zb (zd ?_);rw[StateT.run_pure];refine zb (zd (J _ (Array.range vs.length) O rfl (Array.Perm.refl _) λi j ak hj=>?_))
  have:vs.length<2:=by simpa using c
  lia
 ·rw [if_neg c, if_neg c]
  have c2:2<=vs.length:=by simpa using c
  have ad:∀v∈kA.toList,∃i,i<ys.length/\v=kA.toList.getD i .none:=λv Y=>by
   obtain⟨i,hi,e⟩:=List.getElem_of_mem Y
   exact⟨i,q5,by rw[zS,ze hi,e];rfl⟩
  have each:∀v∈kA.toList,∃p rest,Srt.Tup s.heap v p rest/\s.TypeIs p (if f then "int" else "tuple"):=λv Y=>by
   obtain⟨i,hi,rfl⟩:=ad v Y
   exact aa i hi pins _ σ _ I (rk.getD q5)
  have ek:kA=kA.toList.toArray:=by rw[yx]
  have kind:∀(E:QqV) (Q:SortKind->Shared->Prop),Q (tuples' f) s->wpAny (model X.prog X.w) A (keyKind' kA) Q E s:=λE Q q=>by
   rw[ek]
   refine Srt.Wh (s:=s) (T:=if f then "int" else "tuple") (fst:=λv=>if h:∃p rest,Srt.Tup s.heap v p rest/\s.TypeIs p (if f then "int" else "tuple") then h.choose else v) q5 (λv Y=>?_) (λv Y=>?_) ?_
   ·have e := each v Y;obtain⟨rest,t,_⟩:=e.choose_spec
    exact⟨rest,by rw[dif_pos e];exact t⟩
   ·have e := each v Y;obtain⟨rest,_,t⟩:=e.choose_spec
    show Shared.TypeIs _ (if h:_ then _ else _) _
    rw[dif_pos e];exact t
   ·cases f
    ·exact q
    ·exact q
  refine zb (kind _ _ ?_)
  have hR:Srt.Rule X.prog X.w A s vs.length (λi=>(kA.toList.getD i .none,vs.getD i .none)) (tuples' f) rr:=by
   refine⟨λa b ha hb=>tot a b q5 q5,λa b c ha hb hc=>tr a b c q5 q5 q5,λa b ha hb ag E Q q=>?_⟩
   obtain⟨p1,ps,p2,qs,t1,t2,L⟩:=cmp a b q5 q5 ag pins _ σ _ _ I (rk.getD q5) (rk.getD q5) A un
   exact Srt.Ji t1 t2 L q
  have N0:Srt.Now vs.length (λi=>(kA.toList.getD i .none,vs.getD i .none)) (tuples' f) (Array.range vs.length) (SortSt.mk' (tuples' f) (kA.zip vs.toArray) #[] 7 none):=⟨O,rfl,rfl,rfl,Array.Perm.refl _⟩
  refine zb (wv (Srt.all hR N0 c2 q5 (Q:=λ_ t=>∃ls:Array Nat,arrOf t=ls.map (λi=>(kA.toList.getD i .none,vs.getD i .none))/\failedOf t=none/\ls.Perm (Array.range vs.length)/\Srt.Up rr ls vs.length) λls t a1 a2 a3 a4=>⟨ls,a1,a2,a3,a4⟩) ?_ λ_ _ e=>e)
  rintro⟨_,t⟩ s' ⟨rfl,ls,a1,a2,a3,a4⟩;exact J t ls a1 a2 a3 a4
def zM4{f:Value}{sp:V->Hp->VK->Prop}{Ok:Hp->Prop}(I:Inv X pins σ H s)(hk:s.heap.get? kS=some (seqObj "list" #[] 0))(ha:s.heap.get? a=some (seqObj "list" #[] e1))(fk:FpOk X pins H kS)(fa:FpOk X pins H a)(O:kS≠a)(af:X.s₀.heap.objs.size<=a)
  (rv:Vals ys vs) (ag:ys.length<64) (un:A.units+60<cLine) (ok:Ok H)
  (turn:∀(pins':QqL) (s':Shared) (H':Hp) (y:V) (v:Value) (Q:VK),(∀p∈pins,p∈pins')->Inv X pins' σ H' s'->Ok H'->RelV y v->sp y H' Q->wpAny (model X.prog X.w) A (call f [v]) (EP X pins' σ λk H2=>Q k H2/\Ok H2) (λ_ _=>False) s')
  (fin:Kg sp ys H (vN X ys Q)) :
  wpAny (model X.prog X.w) A (ksk_rest a f false vs.toArray e1 (.ref kS)) (λr s'=>r=.done (.ret .none)/\∃H4,Inv X pins σ H4 s'/\Q (.ref a) H4) E s:=by
 have len:=rv.length;have fk':FpOk X ((a,seqObj "list" #[] e1)::pins) H kS:=fk.more (Ne.symm O)
 have nc:∀(xs:Array Value) (n:Nat) (v:Option Value),(seqObj "list" xs n).data≠.cell v:=λ_ _ _ z=>by cases z
 unfold ksk_rest;refine zb (ye ?_)
 first
  |rw[List.forIn_toArray]
  |(rw[<- Array.forIn_toList];simp only[List.toList_toArray])
  |rw[<- Array.forIn_toList]
 refine zb (ksk_fold (λi s'=>∃H' kA e ks,Inv X ((kS,seqObj "list" kA e)::(a,seqObj "list" #[] e1)::pins) σ H' s'/\Ok H'/\Vals ks kA.toList/\ks.length=i/\Kg sp (ys.drop i) H' λrest L=>vN X ys Q (ks++rest) L) vs 0 s
  ⟨H,#[],0,[],(I.pin1 fa ha (nc _ _)).pin1 fk' hk (nc _ _),ok,.nil,rfl,by simpa using fin⟩ ?step ?done)
 case step=>
  rintro j x s' hx ⟨H',kA,e,ks,I',ok',rk,lk,tk⟩;simp only[Nat.zero_add] at lk tk ⊢;have hj:j<vs.length:=(zm.mp hx).1
  have hj':j<ys.length:=q5
  have ey:ys[j]?=some ys[j]:=ze hj';obtain⟨u,eu,ry⟩:=rv.get ey;have ah:u=x:=zP (eu.symm.trans hx);subst ah;rw[List.drop_eq_getElem_cons hj'] at tk
  have ai:kA.size<=64:=by rw[<- xJ,<- rk.length];lia
  refine zb (wpAny_attempt (wv (turn _ s' H' ys[j] u _ (λp hp=>zn _ (zn _ hp)) I' ok' ry tk) (λv s'' he=>?_) λ_ _ hF=>hF.elim));obtain⟨k,H2,I2,ad,aa,ae⟩:=he
  try dsimp only
  have J:=I2.pinAt (q:=(kS,seqObj "list" kA e)) (.head _);have na:=I2.pinAt (q:=(a,seqObj "list" #[] e1)) (.tail _ (.head _));have s1:=Heap.SameBut.update s''.heap kS (Obj.mapSeq (·.push v));obtain⟨c2,hc2⟩:∃c2,(s''.heap.update kS (Obj.mapSeq (·.push v))).get? kS=some (seqObj "list" (kA.push v) c2):=⟨_,get?_update_seq J.1 (·.push v)⟩
  have ea:(kA.push v).toList=kA.toList++[v]:=by simp
  refine zb (listUpdate_at J.1 rfl ?_ (by rw[sizeLine_eq];lia) (zK (Nat.le_of_eq (Array.size_push ..)) (by rw[sizeLine_eq];lia)))
  have Y:FpOk X ((a,seqObj "list" #[] e1)::pins) H2 kS:=fk'.reH J.2;have I3:=I2.unpin.turned (t':=s''.toks) (h':=s''.heap.update kS (Obj.mapSeq (·.push v))) (it:=kS) (λb o hb z=>(s1.2 b hb).trans z) J.2 Y.2.1 Y.2.2.2.1 Y.2.2.2.2.1 Y.2.2.2.2.2
  refine zd ⟨rfl,H2,kA.push v,c2,ks++[k],I3.pin1 Y hc2 (nc _ _),ae,by rw[ea];exact rk.append (.cons ad .nil),by rw[zu,lk];rfl,?_⟩
  have e9:(λrest L=>vN X ys Q (ks++[k]++rest) L)=λrest L=>vN X ys Q (ks++k::rest) L:=by funext rest L;rw[yC];rfl
  rw[e9];exact aa
 case done=>
  rintro s' ⟨H',kA,e,ks,I',ok',rk,lk,tk⟩;rw[Nat.zero_add,<- len,List.drop_length] at tk;have tk:vN X ys Q (ks++[]) H':=tk;rw[yh] at tk;have J:=I'.pinAt (q:=(kS,seqObj "list" kA e)) (.head _);have na:=I'.pinAt (q:=(a,seqObj "list" #[] e1)) (.tail _ (.head _))
  try dsimp only
  refine zb (listItems_at J.1 rfl ?_);exact xa7 I'.unpin.unpin J.1 na.1 (fk.reH J.2) (fa.reH na.2) O af rv ag rk un tk
def zM2{f:Value}{sp:V->Hp->VK->Prop}{Ok:Hp->Prop}{n0:Nat}(I:Inv X pins σ H s)(ha:s.heap.get? a=some (seqObj "list" vs.toArray n0))(J:FpOk X pins H a)(O:X.s₀.heap.objs.size<=a)
  (rv:Vals ys vs) (aa:ys.length<64) (un:A.units+60<cLine) (ok:Ok H)
  (turn:∀(pins':QqL) (s':Shared) (H':Hp) (y:V) (v:Value) (Q:VK),(∀p∈pins,p∈pins')->Inv X pins' σ H' s'->Ok H'->RelV y v->sp y H' Q->wpAny (model X.prog X.w) A (call f [v]) (EP X pins' σ λk H2=>Q k H2/\Ok H2) (λ_ _=>False) s')
  (fin:Kg sp ys H (vN X ys Q)) :
  wpAny (model X.prog X.w) A (ksk_tree a f false) (λr s'=>r=.done (.ret .none)/\∃H4,Inv X pins σ H4 s'/\Q (.ref a) H4) E s:=by
 have len:=rv.length;have la:=zt ha;have s1:=Heap.SameBut.update s.heap a (Obj.mapSeq λ_=>(#[]:Array Value));obtain⟨e1,at1⟩:∃e1,(s.heap.update a (Obj.mapSeq λ_=>(#[]:Array Value))).get? a=some (seqObj "list" #[] e1):=⟨_,get?_update_seq ha λ_=>#[]⟩;have I1:=I.turned (t':=s.toks) (h':=s.heap.update a (Obj.mapSeq λ_=>(#[]:Array Value))) (it:=a) (λb o hb z=>(s1.2 b hb).trans z) J.1 J.2.1 J.2.2.2.1 J.2.2.2.2.1 J.2.2.2.2.2;have keep:∀b o,(s.heap.update a (Obj.mapSeq λ_=>(#[]:Array Value))).get? b=some o->(((s.heap.update a (Obj.mapSeq λ_=>(#[]:Array Value))).push (seqObj "tuple" vs.toArray 0)).push (seqObj "list" #[] 0)).get? b=some o:=λb o z=>zh _ (zh _ z);have I2:=I1.kept (t':=s.toks) keep
 have Y:((s.heap.update a (Obj.mapSeq λ_=>(#[]:Array Value))).push (seqObj "tuple" vs.toArray 0)).objs.size=s.heap.objs.size+1:=by rw[size_push',Heap.size_update]
 have L:(s.heap.update a (Obj.mapSeq λ_=>(#[]:Array Value))).objs.size<=((s.heap.update a (Obj.mapSeq λ_=>(#[]:Array Value))).push (seqObj "tuple" vs.toArray 0)).objs.size:=by rw[size_push'];lia
 unfold ksk_tree;refine zb (listItems_at ha rfl ?_)
 refine zb (listUpdate_at ha rfl ?_ (by rw[zp,sizeLine_eq];lia) (xq _))
 refine zb (seqEpoch_at at1 rfl ?_)
 refine zb (wpAny_newTuple ?_ (by show vs.length<=_;rw[sizeLine_eq];lia))
 refine zb (wpAny_newList ?_ (xq _));refine xr ?_
 exact zM4 (s:={ s with heap:=((s.heap.update a (Obj.mapSeq λ_=>(#[]:Array Value))).push (seqObj "tuple" vs.toArray 0)).push (seqObj "list" #[] 0) }) (kS:=((s.heap.update a (Obj.mapSeq λ_=>(#[]:Array Value))).push (seqObj "tuple" vs.toArray 0)).objs.size)
  I2 (zr _ rfl) (keep _ _ at1) (I1.fpOk L (I1.hok.fresh L)) J (by rw[Y];exact xQ (wL la)) O rv aa un ok turn fin
end
def TabG.trip(g:TabG φ l):TriplesOk l:=by
 induction g with
 |nil=>exact True.intro
 |cons _ _ J=>exact J
def TabG.among(g:TabG φ l)(e:codeAmong pos l=some v):∃c,v=.ref c/\φ c:=by
 induction g with
 |nil=>cases e
 |cons h _ J=>
  unfold codeAmong at e
  split at e
  ·cases e;exact⟨_,rfl,h⟩
  ·exact J e
def TabG.snoc(g:TabG φ l){i j:Int}(h:φ c):TabG φ (l++[.int i t,.int j u,.ref c]):=by
 induction g with
 |nil=>exact .cons h .nil
 |cons h' _ J=>exact .cons h' J
structure LamBase(base:Heap)(mg:QqM)(c P:Addr):Prop where
 hd:W.CodeHd base c P
 bm:∃bm ob,mg "__builtins__" = some (.ref bm)/\bm≠builtinsNs/\base.get? bm=some ob/\ob.cls=.type "module" /\ ob.dict=some builtinsNs/\ob.data=.plain
def OneMore(H H2:Hp):Prop:=H2=H\/∃c o,H c=none/\H2=upd H c o
def OneMore.keep(h:OneMore H H2):∀b o,H b=some o->H2 b=some o:=λb o e=>by
 rcases h with rfl |⟨c,u,J,rfl⟩
 ·exact e
 ·rw[xX (yd e J)];exact e
section
variable {X:Cx}{pins:QqL}{σ:St}{H:Hp}{s:Shared}{c P:Addr}{q p:Str}{params:Arguments}{body:Expr}{scope:Scope}{clos:List (Str × Addr)}{pos lpos:Pos}
def zM0(I:Inv X pins σ H s)(hc:X.env.code=.ref c)(L:LamBase X.base X.mg c P)(hP:H P=some (.cot q))(hq:X.env.qual ++ "<lambda>" = q)
  (ah:closureFor scope X.env=pure clos) (ag:defaultsOf params X.env=([],[]))
  (h:∀(f c':Addr) (O:Obj) (J:Value) (H2:Hp) (s2:Shared),OneMore H H2->Inv X ((f,W.kla_obj "<lambda>" q params body scope clos ((X.mg "__name__").getD .none) c' J)::pins) σ H2 s2->H2 c'=some (.frz O (.own 0))->xr0 O q->Q (.ref f) s2) :
  wpAny (model X.prog X.w) X.A (eval (.Lambda params body scope lpos) X.env) Q E s:=by
 refine W.kla_eval ag ?_;rw[hq];obtain⟨ps,ho,g⟩:=I.hok P _ hP;obtain⟨bm,ob,b1,b2,b3,b4,b5,b6⟩:=L.bm
 have nb:∀b o,X.base.get? b=some o->b≠P:=λb o e z=>by
  have:=(I.bs b o e).2;rw[z,hP] at this;cases this
 have aj:mainGlobals≠P:=by
  obtain⟨o,es,ep,e,_⟩:=I.mod.glob;exact nb _ _ e
 have al:bm≠mainGlobals:=λz=>by
  obtain⟨o,es,ep,e,hd,_⟩:=I.mod.glob;rw[z,e] at b3;cases b3;rw[hd] at b6;cases b6
 have hB:s.heap.BuiltinsAt X.mg P:=⟨bm,ob,b1,b2,al,nb _ _ b3,I.bk _ _ b3,b4,b5,b6⟩
 have nc:∀(c':Addr) (J:Value) (v:Option Value),(W.kla_obj "<lambda>" q params body scope clos ((X.mg "__name__").getD .none) c' J).data≠.cell v:=λ_ _ _ z=>by cases z
 cases hf:codeAmong lpos ps.toList with
 |some cv=>
  obtain⟨c',rfl,O,e1,e2⟩:=g.among hf;refine W.kla_makeFunctionHit (mg:=X.mg) ah I.ok.glob (I.mod.glob.keeps I.bk) hc (L.hd.keeps I.bk) ho g.trip hf hB λJ h' tk hk hsz=>?_;have I2:=I.kept (t':=tk) (h':=h'.push (W.kla_obj "<lambda>" q params body scope clos ((X.mg "__name__").getD .none) c' J)) λb o e=>zh _ (hk b o e);exact h _ c' O J H _ (.inl rfl) (I2.pin1 (I.fpOk hsz (I.hok.fresh hsz)) (zr _ rfl) (nc _ _)) e1 e2
 | none =>
  refine W.kla_makeFunction (mg:=X.mg) ah I.ok.glob (I.mod.glob.keeps I.bk) hc (L.hd.keeps I.bk) ho g.trip hf aj hB λc' J h' tk hx Y af ad aa=>?_;obtain⟨c2,O,vs,t,ec,ae,hd,hv⟩:=ad;cases ec;have hn:H c'=none:=I.hok.fresh Y;have hsz:s.heap.objs.size<=h'.objs.size:=zK Y (yv af)
  have nP:∀b,H b=none->b≠P:=λb e z=>by rw[z,hP] at e;cases e
  have kp:∀b o,b≠P->s.heap.get? b=some o->(h'.push (W.kla_obj "<lambda>" q params body scope clos ((X.mg "__name__").getD .none) c' J)).get? b=some o:=λb o hb e=>zh _ (hx b o hb e);have cP:c'≠P:=nP c' hn
  have up:∀b u,H b=some u->upd H c' (.frz O (.own 0)) b=some u:=λb u e=>by rw[xX (yd e hn)];exact e
  have U:Un X.fs [] H (upd H c' (.frz O (.own 0))) s.heap (h'.push (W.kla_obj "<lambda>" q params body scope clos ((X.mg "__name__").getD .none) c' J)):=by
   refine⟨λb o e n _ _=>kp b o (nP b n) e,λb o e n _ _=>⟨o.slots,kp b o (nP b n) e⟩,λb o e n _=>?_,λb o e _=>?_,λb xs e=>up b _ e,λb o u e=>up b _ e,λb ps e=>⟨#[],by rw[up b _ e];simp⟩⟩
   ·rw[xX (zA (zX (zt e) Y))];exact n
   ·by_cases hb : b = P
    ·exact⟨_,zh _ (hb ▸ aa)⟩
    ·exact⟨o,kp b o hb e⟩
  have hok:HOk X.prog X.w (upd H c' (.frz O (.own 0))) (h'.push (W.kla_obj "<lambda>" q params body scope clos ((X.mg "__name__").getD .none) c' J)):=λb u e=>by
   by_cases hb:b=c'
   ·subst hb;rw[yb] at e;cases e;exact⟨zh _ ae,O,zh _ ae⟩
   ·rw [xX hb] at e
    by_cases ai:b=P
    ·subst ai;rw[hP] at e;cases e;refine⟨_,zh _ aa,?_⟩;rw[Array.toList_append];exact(g.imp λd ⟨O,z,i⟩=>⟨O,up _ _ z,i⟩).snoc ⟨O,yb,vs,t,hd,hv⟩
    ·refine (I.hok b u e).stay (λd v hd z => kp d v ?_ z) (λd z => up d _ z) (λd xs z => up d _ z) λd o u z => up d _ z
     rcases hd with rfl |hd
     ·exact ai
     ·intro z;rw[z,hP] at hd;cases hd
  have I2:=I.un (t':=tk) U hok
  have ak:upd H c' (.frz O (.own 0)) h'.objs.size=none:=by rw[xX (xQ af)];exact I.hok.fresh hsz
  exact h _ c' O J _ _ (.inr ⟨c',_,hn,rfl⟩) (I2.pin1 (I.fpOk hsz ak) (zr _ rfl) (nc _ _)) yb ⟨vs,t,hd,hv⟩
def SqL.keep{K:W.Frag}{H H2:Hp}{a:Addr}{xs:List V}(h:SqL K H a xs)(k:∀b o,H b=some o->H2 b=some o):SqL K H2 a xs:=by
 rcases h with (h |⟨o,h⟩) |h
 ·exact .inl (.inl (k _ _ h))
 ·exact .inl (.inr ⟨o,k _ _ h⟩)
 ·exact .inr h
structure Caps(X:Cx)(N:List Str)(clos:List (Str × Addr))(caps:List Nat):Prop where
 len:N.length=caps.length+1
 at_:∀i x,N[i+1]?=some x->X.env.kindOf x=some .cell/\∃j,caps[i]?=some j/\X.N[j]?=some x
 sub:∀x c,clos.lookup x=some c->X.env.cells.lookup x=some c
 has:∀i x,N[i+1]?=some x->∃c,clos.lookup x=some c
def xf1(X:Cx)(P:Addr)(q:Str)(caps:List Nat)(tb:Hp->TE)(t1:TA):TE:=λσ H Q=>t1 σ H λvs H1=>∃(J:Addr) (ys cv:List V),vs=[.ref J]/\SqL X.K H1 J ys/\ys.length<64/\H1 P=some (.cot q) /\
 cv.length=caps.length/\(∀(i j:Nat),caps[i]?=some j->∃y,cv[i]?=some y/\σ[j]?=some (some y))/\∀H2,OneMore H1 H2->Kg (λy H' Q'=>tb H' (some y::cv.map some) H' Q') ys H2 (vN X ys Q)
def zi6{e:Expr}{t1:TA}{tb:Hp->TE}{N:List Str}{caps:List Nat}{k:Nat}{np kp:Pos}(hg:Gl X "sorted")(hm:X.mg "sorted" = none)(ha:PA X [e] t1)(hr:Room (k+3) X.A)
    (hc:X.env.code=.ref c) (L:LamBase X.base X.mg c P) (hq:X.env.qual ++ "<lambda>" = q) (ar:closureFor scope X.env=pure clos) (ag:defaultsOf params X.env=([],[]))
    (S:LamScope N p scope clos) (C:Caps X N clos caps) (hb:∀(u pm ak:Value) (c':Addr),bindArgs (W.kla_fn "<lambda>" q params body scope clos pm (.ref c') ak) ⟨[u],[]⟩=pure [(p,u)])
    (ad:∀(A:Around) (f c':Addr) (s:Shared) (H:Hp),Room k (A.deeper (W.envX q scope s.heap.objs.size f (.ref c') clos))->PE (zj9 X A N q scope f c' clos s H) body (tb H))
    (he:starEach [e] X.env=(false,eval e X.env)::starEach [] X.env:=by rfl) (am:(backTo pos (starEach [e] X.env)).any (·.1)=false:=by rfl) :
    PE X (.Call (.Name "sorted" np) [e] [⟨some "key",.Lambda params body scope lpos,kp⟩] pos) (xf1 X P q caps tb t1):=by
  intro pins s σ H Q I h
  refine wpAny_Call_Name_kw (Jg I hg hm WA ?_ q9 q9)
  refine callWith_kw (env:=X.env) (e:=e) (rest:=[]) (thn (ha pos pins s σ H _ I h) λus s1 ⟨vs,H1,I1,r1,q1⟩=>?_) (by rw[he];rfl) am rfl rfl
  obtain⟨p0,ys,cv,rfl,hS,au,hP,ap,ai,hk⟩:=q1;refine kws_cons (zM0 I1 hc L hP hq ar ag λf c' oc ak H2 J hH I2 ao ah=>kws_nil ?_)
  cases r1 with
  | cons r rr =>
    cases rr;cases r;obtain⟨its,rv,pl,_⟩:=I2.list (hS.keep hH.keep);have hl:=pl.isList;have len:=rv.length;have fin:=hk H2 hH;have O:Room (k+1) X.A.in1.in1:=hr.in1.in1;show wpAny _ _ (call (.builtin "sorted") [.ref p0] [(Str.ofString "key",.ref f)]) _ _ _;refine call_function_entry_kw kind_sorted plain_sorted entry_sorted (ksk_s1 _ _) ?_;unfold Builtin.«sorted»;refine zb (m:=checkCount "sorted" 1 1 _) (zd ?_)
    refine zb (collect_list hl ?_ (by rw[sizeLine_eq];lia))
    refine zb (wpAny_newList ?_ (by rw[sizeLine_eq];lia))
    have hsz:((J.heap.push (seqObj "list" #[] 0)).update J.heap.objs.size (Obj.mapSeq (·++its.toArray))).objs.size=J.heap.objs.size+1:=by rw[Heap.size_update,size_push']
    have af:(((J.heap.push (seqObj "list" #[] 0)).update J.heap.objs.size (Obj.mapSeq (·++its.toArray))).push (seqObj "list" its.toArray 0)).get? (J.heap.objs.size+1)=some (seqObj "list" its.toArray 0):=by
      rw[<- hsz];exact zr _ rfl
    have keep:∀b o,J.heap.get? b=some o->(((J.heap.push (seqObj "list" #[] 0)).update J.heap.objs.size (Obj.mapSeq (·++its.toArray))).push (seqObj "list" its.toArray 0)).get? b=some o:=λb o q=>by
      have aa:b<J.heap.objs.size:=zt q
      rw[Heap.get?_push_ne _ _ _ (by rw[hsz];exact zA (wL aa)),Heap.get?_update_ne _ _ _ _ (zA aa),Heap.get?_push_ne _ _ _ (zA aa)]
      exact q
    have I3:=I2.kept (t':=J.toks) keep;have fa:=I2.fpOk (H':=H2) (b:=J.heap.objs.size+1) (wl _) (I2.hok.fresh (wl _));show wpAny _ _ _ _ _ { J with heap:=((J.heap.push (seqObj "list" #[] 0)).update J.heap.objs.size (Obj.mapSeq (·++its.toArray))).push (seqObj "list" its.toArray 0) };rw[hsz];refine zb (xr (wpAny_call_entry_kw slot_list_sort ⟨_,af,rfl⟩ entry_list_sort ?body (ksk_l1 _ _)))
    case body=>
      show wpAny (model X.prog X.w) X.A.in1.in1 (Builtin.«list.sort» ⟨[.ref (J.heap.objs.size+1)],[(Str.ofString "key",.ref f)]⟩) _ _ _;rw[ksk_t1]
      refine wv (zM2 (Ok:=λH'=>H' c'=some (.frz oc (.own 0))) I3 af fa (zK I2.sz (wl _)) rv au (by have:=O.un;lia) ao (λpins' s' H' y v Q' ae I' ok' ry ht=>?_) fin) (λr s' hq=>?_) λ_ _ z=>z
      · have aq : s'.heap.CodeRec (.ref c') q := by
          obtain⟨z1,_⟩:=I'.hok c' _ ok';obtain⟨vs,t,d1,d2⟩:=ah;exact⟨c',oc,vs,t,rfl,z1,d1,d2⟩
        refine thn (xa3 (cv:=cv) I' (I'.pinAt (ae _ (.head _))).1 aq I'.ok.frames O.depth O.hd S (by rw[C.len,ap]) (hb _ _ _ _) ry C.sub (λi x y e1 e2=>?_) (ad _ _ _ _ _ (O.deeper _)) ht) λu s3 hz=>?_
        · obtain ⟨Y, j, e3, e4⟩ := C.at_ i x e1
          obtain⟨y',e5,e6⟩:=ai i j e3;have e7:y'=y:=zP (e5.symm.trans e2);subst e7;obtain⟨cc,e8⟩:=C.has i x e1;obtain⟨m,_,lk⟩:=I'.loc;obtain⟨u',r',l⟩:=lk j x y' e4 e6 (.inr (.inl Y))
          rcases l with ⟨l,_⟩ |⟨_,c3,e9,z⟩
          · rw[Y] at l;cases l
          · have aj := C.sub x cc e8
            rw[e9] at aj;cases aj;exact⟨_,e8,u',r',z⟩
        · obtain ⟨v2, H3, I4, al, q2, fz⟩ := hz
          exact⟨v2,H3,I4,al,q2,fz _ _ _ ok'⟩
      · obtain ⟨rfl, H4, I4, q4⟩ := hq
        exact⟨_,rfl,zd ⟨_,rfl,.ref (J.heap.objs.size+1),H4,I4.unpin,rfl,q4⟩⟩
end
def zS5(caps:List Nat)(tb:TD)(t1:TAD):TD:=λrho n R=>t1 rho n λes J=>∃(rows:List D) (keys:List SRow) (Y:Bool) (L:List D),es=[.lst rows]/\rows.length<64/\keys.length=rows.length/\(∀x∈keys,x.key.num=Y)/\(keys.map SRow.name).Nodup /\
 L.length=caps.length/\(∀(i j:Nat),caps[i]?=some j->∃d,L[i]?=some d/\rho[j]?=some (some d)/\xG d=true)/\(∀(i:Nat) (d:D) (x:SRow),rows[i]?=some d->keys[i]?=some x->tb (some d::L.map some) J λe O=>e=x.d/\O=J) /\
 ∀ls:List Nat,ls.Perm (List.range rows.length)->(ls.map λi=>keys.getD i YN).Pairwise (λx y=>x.lt y=true)->R (.lst (ls.map λi=>rows.getD i .non)) J
section
variable {A:AC}{X:Cx}{os:List (Nat × Addr)}{n:Nat}{rho:Rho}{sg:St}{H:Hp}{ds:List D}{vs:List V}
def Jy(I:AmO A os n rho sg H ds vs):∀(caps:List Nat) (J:List D),J.length=caps.length->(∀(i j:Nat),caps[i]?=some j->∃d,J[i]?=some d/\rho[j]?=some (some d)/\xG d=true) ->
  ∃cv:List V,Reps A.K A.G (Zof A os) H J cv/\∀(i j:Nat),caps[i]?=some j->∃y,cv[i]?=some y/\sg[j]?=some (some y)
 |[],[],_,_=>⟨[],.nil,λi j e=>by simp at e⟩
 |[],_::_,h,_=>by simp at h
 |_::_,[],h,_=>by simp at h
 | j :: caps, c :: J, h, L => by
  obtain⟨d,e1,e2,e3⟩:=L 0 j rfl
  have e4:c=d:=by simpa using e1
  subst e4;obtain⟨v,e5,e6⟩:=I.slot j c e2
  obtain⟨cv,r,O⟩:=Jy I caps J (by simpa using h) λi j e=>by
   obtain⟨d,z1,z2⟩:=L (i+1) j (by simpa using e)
   exact⟨d,by simpa using z1,z2⟩
  refine⟨v::cv,.cons (e6.rep e3) r,λi k e=>?_⟩
  cases i with
  |zero=>
   have Y:j=k:=by simpa using e
   subst Y;exact⟨v,rfl,e5⟩
  |succ i=>
   obtain⟨y,z1,z2⟩:=O i k (by simpa using e)
   exact⟨y,by simpa using z1,z2⟩
def zU2{K:W.Frag}{G:QqE}{Z:QqA}{tb:TD}{d:D}{L:List D}{v:V}{cv:List V}{Q:VK}{P:D->Nat->Prop}(rs:Reps K G Z H (d::L) (v::cv))(st:zF2 G n H)(gz:∀a,G=some a->Z a)(z0:ZOk K G Z H)
  (ht:tb (some d::L.map some) n P) (hQ:∀v' H' n' d',(∀a o,G≠some a->H a=some o->H' a=some o)->zF2 G n' H'->Rep K G Z H' d' v'->P d' n'->Q v' H'):tOf ⟨K,G,Z,H⟩ tb (some v::cv.map some) H Q:=by
 have S:=jD (N:=replicate (d::L).length "") rs st gz z0
 have e1:startD (replicate (d::L).length "") (d::L)=some d::L.map some:=by unfold startD;simp
 have O:=rs.length
 have e2:start (replicate (d::L).length "") (v::cv)=some v::cv.map some:=by unfold start;simp at O;simp[O]
 rw[e1,e2] at S;refine⟨_,n,P,[],[],⟨[],S⟩,ht,λv' H' n' d' ⟨Y,J⟩ hp=>hQ v' H' n' d' J.fr J.st (Rep.mono (λa _ z=>.inl z) (λ_ _ _ e=>e) _ _ J.pop.2) hp⟩
def zR7{N2:Nat}{tb:TD}{cs:List D}{cv:List V}{ys:List V}{Q:VK}(hK:X.K=A.K) :
  ∀(rows:List D) (xs:List V) (keys:List SRow) (done:List SRow) (J:List V) (H:Hp),keys.length=rows.length->AmO A os n rho sg H ds vs->Reps A.K A.G (Zof A os) H rows xs->Reps A.K A.G (Zof A os) H cs cv->Reps A.K A.G (Zof A os) H (done.map SRow.d) J ->
   (∀(i:Nat) (d:D) (x:SRow),rows[i]?=some d->keys[i]?=some x->tb (some d::cs.map some) n λe n2=>e=x.d/\n2=n) ->
   (∀(kv:List V) (L:Hp),(∀a o,A.G≠some a->H a=some o->L a=some o)->AmO A os n rho sg L ds vs->Reps A.K A.G (Zof A os) L ((done++keys).map SRow.d) (J++kv)->vN X ys Q (J++kv) L) ->
   Kg (λy H' Q'=>(∃G Z,tOf ⟨X.K,G,Z,H'⟩ tb (some y::cv.map some) H' Q')) xs H λrest L=>vN X ys Q (J++rest) L
 |[],xs,[],done,J,H,_,I,rr,rc,rd,_,fin=>by
  rw[rr.nil_inv];show vN X ys Q (J++[]) H
  exact fin [] H (λ_ _ _ e=>e) I (by simpa using rd)
 |[],xs,_::_,done,J,H,Y,_,_,_,_,_,_=>by simp at Y
 |_::_,xs,[],done,J,H,Y,_,_,_,_,_,_=>by simp at Y
 | d :: rows, xs, k :: keys, done, J, H, Y, I, rr, rc, rd, O, fin => by
  obtain⟨v,xs',rfl,r0,rr'⟩:=rr.split;show ∃G Z,tOf ⟨X.K,G,Z,H⟩ tb (some v::cv.map some) H λkk H'=>Kg _ xs' H' λks H''=>vN X ys Q (J++kk::ks) H'';refine⟨A.G,Zof A os,?_⟩
  suffices z:tOf ⟨A.K,A.G,Zof A os,H⟩ tb (some v::cv.map some) H (λkk H'=>Kg (λy H' Q'=>(∃G Z,tOf ⟨X.K,G,Z,H'⟩ tb (some y::cv.map some) H' Q')) xs' H' λks H''=>vN X ys Q (J++kk::ks) H'') by
   rw[<- hK] at z;exact z
  refine zU2 (.cons r0 rc) I.st (λa z=>.inl (I.gz a z)) I.zO (O 0 d k rfl rfl) λv' H' n' d' fr st r ⟨e1,e2⟩=>?_;subst e1;have st':zF2 A.G n H':=e2 ▸ st;have I':=I.called fr st';have mono:∀{es:List D}{ws:List V},Reps A.K A.G (Zof A os) H es ws->Reps A.K A.G (Zof A os) H' es ws:=λh=>Reps.mono (λ_ _ z=>z) (λb u nz e=>fr b u (λz=>nz (.inl (I.gz b z))) e) _ _ h
  have rd':Reps A.K A.G (Zof A os) H' ((done++[k]).map SRow.d) (J++[v']):=by
   rw[zE];exact(mono rd).append (.cons r .nil)
  have key:=zR7 (N2:=N2) (ys:=ys) (Q:=Q) hK rows xs' keys (done++[k]) (J++[v']) H' (by simpa using Y) I' (mono rr') (mono rc) rd' (λi d x e1 e2=>O (i+1) d x (by simpa using e1) (by simpa using e2)) λkv L aa I3 r3=>by
   have:=fin (v'::kv) L (λa o g e=>aa a o g (fr a o g e)) I3 (by simpa using r3)
   simpa using this
  have e9:(λrest L=>vN X ys Q (J++[v']++rest) L)=λks H''=>vN X ys Q (J++v'::ks) H'':=by funext rest L;rw[yC];rfl
  rw[e9] at key;exact key
variable {e body:Expr}{t1:TAD}{tb:TD}{N:List Str}{caps:List Nat}{k:Nat}{np kp pos lpos:Pos}{c P:Addr}{q p:Str}{params:Arguments}{scope:Scope}{clos:List (Str × Addr)}
def Yy(ti:qa A.K P q)(hK:X.K=A.K)(hm:X.mg "sorted" = none)(hr:Room (k+3) X.A)(ha:PAD A X [e] t1)(L:LamBase X.base X.mg c P)(S:LamScope N p scope clos)(C:Caps X N clos caps)
  (ad:∀(A1:Around) (f c':Addr) (s:Shared) (H:Hp) (G:QqE) (Z:QqA),Room k (A1.deeper (W.envX q scope s.heap.objs.size f (.ref c') clos))->PD ⟨X.K,G,Z,H⟩ (zj9 X A1 N q scope f c' clos s H) body tb)
  (hq:X.env.qual ++ "<lambda>" = q:=by rfl) (hc:X.env.code=.ref c:=by rfl) (aw:closureFor scope X.env=pure clos:=by rfl) (ag:defaultsOf params X.env=([],[]):=by rfl)
  (hb:∀(u pm ax:Value) (c':Addr),bindArgs (W.kla_fn "<lambda>" q params body scope clos pm (.ref c') ax) ⟨[u],[]⟩=pure [(p,u)]:=by intros;rfl) (hg:Gl X "sorted" := by rfl)
  (he:starEach [e] X.env=(false,eval e X.env)::starEach [] X.env:=by rfl) (ao:(backTo pos (starEach [e] X.env)).any (·.1)=false:=by rfl) :
  PD A X (.Call (.Name "sorted" np) [e] [⟨some "key",.Lambda params body scope lpos,kp⟩] pos) (zS5 caps tb t1):=by
 exists (zi6 (tb:=λH' σ' H'' Q'=>∃G Z,tOf ⟨X.K,G,Z,H'⟩ tb σ' H'' Q') hg hm ha hr hc L hq aw ag S C hb (λA1 f c' s H hr pins s1 σ1 H1 Q I h=>by
    obtain⟨G,Z,h⟩:=h
    exact ad A1 f c' s H G Z hr pins s1 σ1 H1 Q I h) he ao).imp λsg H Q h=>by
   obtain⟨rho,n,R,ds,vs,I,ht,hQ⟩:=h;refine⟨rho,n,_,ds,vs,I,ht,λws H' n' es' ⟨os,J⟩ hl k=>?_⟩;obtain⟨rows,keys,fl,cs,rfl,az,au,ae,ap,ah,ai,am,af⟩:=k;obtain⟨J1,rs⟩:=J.split hl;obtain⟨v,rfl,r⟩:=kO rs;obtain⟨a,xs,rfl,sq,rr⟩:=r.lst_inv;have len:xs.length=rows.length:=rr.length;obtain⟨cv,rc,av⟩:=Jy J1 caps cs ah ai
   refine⟨a,xs,cv,rfl,by rw[hK];exact sq.sq,q5,(J1.zO.2 P q ti).1,by rw[rc.length];exact ah,av,λH2 aj=>?_⟩
   have al:=aj.keep
   have J2:AmO A os n' rho sg H2 ds vs:=by
    rcases aj with rfl |⟨c2,o2,aq,rfl⟩
    ·exact J1
    ·exact J1.grow aq
   have mono:∀{es:List D}{ws:List V},Reps A.K A.G (Zof A os) H' es ws->Reps A.K A.G (Zof A os) H2 es ws:=λh=>Reps.mono (λ_ _ z=>z) (λb u _ e=>al b u e) _ _ h;refine zR7 (N2:=0) hK rows xs keys [] [] H2 au J2 (mono rr) (mono rc) .nil am λkv H3 fr I3 rk=>?_;rw[yw] at rk ⊢;have ak:Reps A.K A.G (Zof A os) H3 rows xs:=Reps.mono (λ_ _ z=>z) (λb u nz e=>fr b u (λz=>nz (.inl (J2.gz b z))) e) _ _ (mono rr);rw[yw,<- hK] at rk
   have ay:kv.length=keys.length:=by rw[rk.length,zg]
   have mem:∀i,i<keys.length->keys.getD i YN∈keys:=λi hi=>by
    rw[zS,ze hi];exact wm hi
   have aa:∀i j,i<keys.length->j<keys.length->i≠j->(keys.getD i YN).name≠(keys.getD j YN).name:=λi j hi Y O e=>by
    have g:∀i (hi:i<keys.length),(keys.map SRow.name)[i]'(by simpa using hi)=(keys.getD i YN).name:=λi hi=>by
     rw[List.getElem_map,zS,ze hi];rfl
    have f:=wQ.mp ap
    rcases Nat.lt_or_gt_of_ne O with l |l
    ·exact f i j (by simpa using hi) (by simpa using Y) l (by rw[g i hi,g j Y,e])
    ·exact f j i (by simpa using Y) (by simpa using hi) l (by rw[g i hi,g j Y,e])
   have num:∀i,i<keys.length->(keys.getD i YN).key.num=fl:=λi hi=>ae _ (mem i hi)
   refine⟨fl,λi j=>(keys.getD i YN).lt (keys.getD j YN),q5,λi j hi Y O=>SRow.lt_anti (by rw[num i q5,num j q5]) (aa i j q5 q5 O),λi j l _ _ _ h1 h2=>SRow.lt_trans h1 h2,λi hi=>?_,λi j hi Y O=>?_,λls hp hU l hl'=>?_⟩
   ·intro pins s σ u J ru
    obtain⟨p,rest,R⟩:=Vd J (rk.getD (enc:=SRow.d) (a0:=YN) q5) ru
    obtain⟨z,t,_⟩:=R.tup;have ty:=zc4 J R
    rw[num i q5] at ty
    exact⟨p,_,t,ty⟩
   ·intro pins s σ u v J ru rv B hB
    obtain⟨p,ps,R⟩:=Vd J (rk.getD (enc:=SRow.d) (a0:=YN) q5) ru
    obtain⟨p',ps',R'⟩:=Vd J (rk.getD (enc:=SRow.d) (a0:=YN) q5) rv
    have c:=zq4 J (by rw[num i q5,num j q5]) (aa i j q5 q5 O) R R' hB
    rw[num i q5] at c
    exact c
   ·rw [len] at hp hU
    have ar:∀i∈ls.toList,i<rows.length:=λi hi=>by
     have:=(hp.mem_iff).mp (Array.mem_toList_iff.mp hi)
     rwa [Array.mem_range] at this
    have hsz:ls.size=rows.length:=by rw[hp.size_eq,yO]
    have rp:Reps A.K A.G (Zof A os) H3 ((ls.toList.map λi=>rows.getD i .non).map id) (ls.toList.map λi=>xs.getD i .non):=XH (enc:=id) (a0:=.non) (by rw[List.map_id];exact ak) ar
    rw[List.map_id] at rp;refine hQ _ _ _ _ ⟨os,I3.newLst rp hl'⟩ (af ls.toList ?_ ?_)
    ·have := Array.perm_iff_toList_perm.mp hp
     rwa [Array.toList_range] at this
    ·rw [xE, wQ];intro i j hi Y O
     have hi':i<ls.size:=by simpa using hi
     have hj':j<ls.size:=by simpa using Y
     have u:=hU i j O q5
     have g:∀i (hi:i<ls.size),Srt.lab ls i=ls.toList[i]'(by simpa using hi):=λi hi=>by
      refine Srt.jP ?_
      rw[<- wT,ze (by simpa using hi)]
     rw[g i hi',g j hj'] at u;exact u
end
section
variable {P:Program}{w:World}{K:W.Frag}{mg:QqM}{base:Heap}
def QV{x J:Str}{st:Stmt}{f c Pt:Addr}{oc:Value}{od an:QqE}{O:Array (Option Value)}{kV Y pm L ct:Value}(lk:K.lookup f=some ⟨oc,od,.func (W.fnOf x J (kq st) (vC st) (zW st) .none kV Y pm an L ct),O⟩)
  (hn:W.nsIn K mainGlobals x=some (some (.ref f))) (ht:W.tabIn K x=some (c,Pt)):L=.ref c:=by
 unfold W.tabIn at ht;rw[hn] at ht;simp only[lk] at ht
 split at ht
 ·split at ht
  ·split at ht
   ·cases ht;first |rfl |assumption
   ·cases ht
  ·cases ht
 ·cases ht
def Fun.okL{x J:Str}{st:Stmt}{f c Pt:Addr}{fd:FuncData}{N ps:List Str}{k:Nat}{t:TF}{tb:TSD}(F:Fun K x J st f fd)(hn:W.nsIn K mainGlobals x=some (some (.ref f)))(ht:W.tabIn K x=some (c,Pt))(S:FnScope N ps (zW st))
  (body : ∀ (O : Around) (outer : List Env) (s : Shared) (H : Hp) (E : XK) (G : Option Addr) (Z : Addr -> Prop), Room k (O.deeper (envOfC J (zW st) s.heap.objs.size f (.ref c))) ->
   zm2 ⟨K,G,Z,H⟩ (zF1 CX0 P w K mg base N J (zW st) f (.ref c) O outer s H E).nox (vC st) tb)
  (L:∀ds n Q,ds.length=ps.length->t ds n Q->tb { nx:=λ_ n=>Q .non n,rt:=Q } (startD N ds) n):FnOk P w K mg base CX0 (k+1) f fd ps (spD K ps.length t):=by
 exists (by
   obtain⟨oc,od,kV,ae,pm,an,af,ct,ad,rfl,lk,aa⟩:=F.ex;have e:=QV lk hn ht;subst e;refine xo9 lk aa S (λvs H Q E h=>?_) λO outer s H vs Q E hr h=>?_
   ·obtain⟨G,Z,n,R,ds,hl,rs,_⟩:=h;rw[rs.length];exact hl
   ·obtain ⟨G, Z, n, R, ds, hl, rs, Y, gz, z0, ht, hQ⟩ := h;refine⟨_,PSs.nox (body O outer s H E G Z hr),startD N ds,n,_,[],[],⟨[],jD rs Y gz z0⟩,L ds n R hl ht,?_⟩;have zz:∀ (os:List (Nat × Addr)) a,Z a->Zof ⟨K,G,Z,H⟩ os a:=λos a z=>.inl z;refine⟨λrho' n' sg' H' ⟨os,I⟩ q=>?_,λd n' v rho' sg' H' ⟨os,I⟩ q=>?_,λ_ _ _ _ _ q=>q.elim,λ_ _ _ _ _ q=>q.elim⟩
    ·exact hQ .non H' n' .non I.fr I.st (Rep.ofS rfl) q
    ·exact hQ v H' n' d I.fr I.st (Rep.mono (λa _ z=>zz os a z) (λ_ _ _ e=>e) _ _ I.pop.2) q)
end
abbrev JW(K:W.Frag)(mg:QqM)(base:Heap):Prop:=∀x∈ko,∀c P,W.tabIn K x=some (c,P)->LamBase base mg c P
def zx0{P:Program}{w:World}{K:W.Frag}{mg mb:QqM}{CX:CXT}{k:Nat}{fa a:Addr}{fd:FuncData}{x:Str}{sp:Sp}{J:Shared}{vs:QqW}{ns:List Int}
  (KX:K.In J.heap) (al:J.heap.Ns mainGlobals mg) (hb:J.heap.Ns builtinsNs mb) (aA:∀x:Str,x ≠ "__name__" -> mb x=bootBuiltins x) (am:J.heap.NoLimit) (ao:J.heap.NoDigits) (hg:J.gens=#[])
  (hT:∀x∈ko,∀c P,W.tabIn K x=some (c,P)->W.CodeHd J.heap c P/\J.heap.get? P=some (W.tabObj #[])) (hu:∀P q q',qa K P q->qa K P q'->q=q') (ax:W.noTabs K=true)
  (az:∃bm ob,mg "__builtins__" = some (.ref bm)/\bm≠builtinsNs/\J.heap.get? bm=some ob/\ob.cls=.type "module" /\ ob.dict=some builtinsNs/\ob.data=.plain)
  (ha:J.heap.get? a=some { cls:=.type "list",data:=.seq vs.toArray }) (hi:IntsAre vs ns) (hl:ns.length<=sizeLine) (hr:Room k callerA)
  (F:∀base:Heap,K.In base->base.Ns mainGlobals mg->base.NoDigits->JW K mg base->FnOk P w K mg base CX k fa fd [x] sp) (ag:∀(s:Shared) (u:Value),BindsTo s fd ⟨[u],[]⟩ [(x,u)])
  (aw:∀H:Hp,zP2 H->SqL K H a (ns.map V.int)->(∀P q,qa K P q->H P=some (.cot q))->sp [.ref a] H (λv H'=>v=.bl true/\∀P q,H P=some (.cot q)->H' P=some (.cot q)) λ_ _ _=>False)
  (aE:∀H e s',CX [] H J (λ_ _ _=>False) e s'->False) :
  codeAny (model P w) callerA (.call (.ref fa) ⟨[.ref a],[]⟩) (λr s'=>r=.ok (.ret (.bool true))/\OldK J.heap s'.heap/\s'.os=J.os/\AllBare s'.gens) J:=by
 classical
 have rv:=Ke hi;have ak:=hi.length;have L:∀{b:Addr},(∃q,qa K b q)->∃c,W.CodeHd J.heap c b/\J.heap.get? b=some (W.tabObj #[]):=λ{b} ⟨q,x,hx,c,e,_⟩=>⟨c,hT x hx c b e⟩
 have ae:∀H:Hp,(∀b,(H b=none)\/(b=a/\∃o xs,H b=some (.frz o (.lst xs)))\/∃q,qa K b q/\H b=some (.cot q))->(∀P q,qa K P q->H P=some (.cot q))->SqL K H a (ns.map V.int)->HOk P w H J.heap->(H a≠none->K.lookup a=none) ->
   codeAny (model P w) callerA (.call (.ref fa) ⟨[.ref a],[]⟩) (λr s'=>r=.ok (.ret (.bool true))/\OldK J.heap s'.heap/\s'.os=J.os/\AllBare s'.gens) J:=by
  intro H hO aB hS hok hK;have base_of:∀{b:Addr}{o:Obj},J.heap.get? b=some o->H b=none->(zE9 J.heap H).get? b=some o:=λe n=>zM9 e n
  have aj:∀{b:Addr}{o:Obj},J.heap.get? b=some o->o.cls≠.type "list" -> o≠W.tabObj #[]->H b=none:=λ{b o} e d1 d2=>by
   rcases hO b with z |⟨rfl,_⟩ |⟨q,t,_⟩
   ·exact z
   ·rw[ha] at e;cases e;exact absurd rfl d1
   ·obtain⟨c,_,Y⟩:=L ⟨q,t⟩;rw[Y] at e;cases e;exact absurd rfl d2
  have au:∀{b:Addr}{o:Obj}{es:Array DictEntry}{ep:Nat},J.heap.get? b=some o->o.data=.dict es ep->H b=none:=λ{b o es ep} e d=>by
   rcases hO b with z |⟨rfl,_⟩ |⟨q,t,_⟩
   ·exact z
   ·rw[ha] at e;cases e;have d':Data.seq vs.toArray _=Data.dict es ep:=d;cases d'
   ·obtain⟨c,_,Y⟩:=L ⟨q,t⟩;rw[Y] at e;cases e;have d':Data.fields #[]=Data.dict es ep:=d;cases d'
  have ad:∀{b:Addr}{m:QqM},J.heap.Ns b m->(zE9 J.heap H).Ns b m:=λ{b m} ⟨o,es,ep,e,d,r⟩=>⟨o,es,ep,base_of e (au e d),d,r⟩
  have ap:K.In (zE9 J.heap H):=λb o e=>base_of (KX b o e) (by
   rcases hO b with z |⟨rfl,o',xs,z⟩ |⟨q,t,z⟩
   ·exact z
   ·rw[hK (by rw[z];simp)] at e;cases e
   ·obtain ⟨c, _, Y⟩ := L ⟨q, t⟩;rw[KX b o e] at Y;cases Y;have h2:=wY.mp ax (b,_) (W.mem_of_lookupK e)
    exact absurd (show false=true from h2) zR)
  have hM:Mod K mg (zE9 J.heap H):=⟨ap,ad al,⟨mb,ad hb,aA⟩,let ⟨mc,h1,h2⟩:=am;⟨mc,ad h1,h2⟩⟩
  have e0:Env0 P w K mg (zE9 J.heap H) callerA [] J H:=⟨rfl,hM,λb o e=>zZ4 e,Nat.le_of_eq (zy9 _ _),trivial,λb hb=>absurd (show b∈([]:List Addr) from hb) (by simp),hok,.of_eq hg⟩
  have aD:JW K mg (zE9 J.heap H):=λy hy c Pt e=>by
   obtain⟨⟨o,vs,aq,tf,ah,tg,av,ai,tt,e1,r1,r2,r3,r4,r5,r6,r7,r8,ay⟩,_⟩:=hT y hy c Pt e;obtain⟨bm,ob,b1,b2,b3,b4,b5,b6⟩:=az
   refine⟨⟨o,vs,aq,tf,ah,tg,av,ai,tt,base_of e1 (aj e1 (by rw[r1];decide) (λz=>by rw[z] at r1;cases r1)),r1,r2,r3,r4,r5,r6,r7,r8,ay⟩,bm,ob,b1,b2,base_of b3 (aj b3 (by rw[b4];decide) (λz=>by rw[z] at b4;cases b4)),b4,b5,b6⟩
  have aC:zP2 H:=λb=>by
   rcases hO b with z |⟨_,z⟩ |⟨q,_,z⟩
   ·exact .inl z
   ·exact .inr (.inl z)
   ·exact .inr (.inr ⟨q,z⟩)
  refine codeAny_mono ((F _ ap (ad al) (let ⟨mc,h1,h2⟩:=ao;⟨mc,ad h1,h2⟩) aD).run callerA [] J H ⟨[.ref a],[]⟩ [.ref a] [.ref a] _ _ hr e0 (ag J (.ref a)) (.cons rfl .nil) (aw H aC hS aB)) λr s' h=>?_
  cases r with
  |error e=>exact(aE H e s' h).elim
  | ok fl =>
   cases fl with
   |next=>exact False.elim h
   |brk=>exact False.elim h
   |cont=>exact False.elim h
   | ret u =>
    obtain⟨v,H',os,bare,un,hok',r',q,qT⟩:=h;have q':v=.bl true:=q;subst q';obtain rfl:u=Value.bool true:=r'
    have ar:∀b o,J.heap.get? b=some o->asItWas J.heap s'.heap b o:=λb o e=>by
     rcases hO b with z |⟨_,ob,xs,z⟩ |⟨q,t,z⟩
     ·exact .inl (un.keep b o e z (by intro z;exact absurd (show b∈([]:List Addr) from z) (by simp)) (by simp))
     ·have z2:=un.frzs b ob _ z;obtain⟨e1,_⟩:=hok b _ z;obtain⟨Y,_⟩:=hok' b _ z2;rw[e] at e1;cases e1;exact .inl Y
     ·obtain ⟨c, hc, Y⟩ := L ⟨q, t⟩;obtain⟨ps,e3,_⟩:=hok' b _ (qT b q z);have e4:=Y;rw[e] at e4;cases e4
      exact .inr (.inl ⟨(hc.tab Y).isCodeTable,rfl,#[],ps,rfl,by rw[Array.empty_append];exact e3⟩)
    refine⟨rfl,⟨ar,λb o e=>?_⟩,os,bare⟩
    exact un.there b o e (by simp)
 have ta:∀q,¬ qa K a q:=λq t=>by
  obtain⟨c,_,Y⟩:=L ⟨q,t⟩;rw[ha] at Y;cases Y
 let HT:Hp:=λb=>if h:∃q,qa K b q then some (.cot h.choose) else none
 have aa:∀b q,qa K b q->HT b=some (.cot q):=λb q t=>by
  have h:∃q,qa K b q:=⟨q,t⟩
  show(if h:∃q,qa K b q then some (HO.cot h.choose) else none)=_
  rw[dif_pos h,hu b _ q h.choose_spec t]
 have O:∀b,HT b=none\/∃q,qa K b q/\HT b=some (.cot q):=λb=>by
  by_cases h:∃q,qa K b q
  ·obtain⟨q,t⟩:=h;exact .inr ⟨q,t,aa b q t⟩
  ·exact .inl (dif_neg h)
 have aF:HT a=none:=by
  rcases O a with z |⟨q,t,_⟩
  ·exact z
  ·exact absurd t (ta q)
 have af:∀b u,HT b=some u->∃q,u=.cot q/\J.heap.get? b=some (W.tabObj #[]):=λb u e=>by
  rcases O b with z |⟨q,t,z⟩
  ·rw[e] at z;cases z
  ·rw[e] at z;cases z;obtain⟨c,_,Y⟩:=L ⟨q,t⟩;exact⟨q,rfl,Y⟩
 cases hk:K.lookup a with
 | some o =>
  have e:=KX a o hk;rw[ha] at e;cases e
  refine ae HT (λb=>?_) aa (.inr ⟨_,vs.toArray,_,hk,rfl,rfl,rfl,by rw[zp,ak];exact hl,by simpa using rv⟩) (λb u z=>?_) λz=>absurd aF z
  ·rcases O b with z | z
   ·exact .inl z
   ·exact .inr (.inr z)
  ·obtain⟨q,rfl,e⟩:=af b u z;exact⟨#[],e,.nil⟩
 | none =>
  refine ae (upd HT a (.frz { cls:=.type "list",data:=.seq vs.toArray } (.lst (ns.map V.int)))) (λb=>?_) (λb q t=>?_) (.inl (.inr ⟨{ cls:=.type "list",data:=.seq vs.toArray },yb⟩)) (λb u z=>?_) λ_=>hk
  ·by_cases hb : b = a
   ·subst hb;exact .inr (.inl ⟨rfl,_,_,yb⟩)
   ·rw [xX hb]
    rcases O b with z |z
    ·exact .inl z
    ·exact .inr (.inr z)
  ·rw[xX (fun(z:b=a)=>ta q (by rw[<- z];exact t))];exact aa b q t
  ·by_cases hb : b = a
   ·subst hb;rw[yb] at z;cases z
    exact⟨ha,by rw[zg];exact hl,vs,_,rv,ha⟩
   ·rw[xX hb] at z;obtain⟨q,rfl,e⟩:=af b u z;exact⟨#[],e,.nil⟩
def zF6{l:W.OpenLaw}{n k:Nat}{q:Program}{loose:List Str}{XP:(Str->Option Value)->Heap->Prop}{YP:World->Heap->Prop}{d:DefRec}{K:Params->W.Frag}{CX:World->CXT}{sp:World->Sp}{x:Str}
  (hn:l.most=some n) (af:n<=sizeLine) (ah:d.params.defaults=[]) (hr:Room k callerA)
  (hY:∀(w:World) (h:Heap),YP w h->(K w.params).In h)
  (O:∀(w:World),∀y∈ko,∀c P,W.tabIn (K w.params) y=some (c,P)->∃d,(recsOf q).find? (λe=>e.name == y)=some d) (hu:∀(w:World) P q q',qa (K w.params) P q->qa (K w.params) P q'->q=q') (ae:∀w:World,W.noTabs (K w.params)=true)
  (F : ∀ (w : World) (mg : Str -> Option Value) (fa : Addr) (h : Heap), (K w.params).In h -> h.Ns mainGlobals mg -> mg d.name = some (.ref fa) ->
   ∃fd:FuncData,(∀(s:Shared) (u:Value),BindsTo s fd ⟨[u],[]⟩ [(x,u)]) /\
    ∀base:Heap,(K w.params).In base->base.Ns mainGlobals mg->base.NoDigits->JW (K w.params) mg base->FnOk l.prog w (K w.params) mg base (CX w) k fa fd [x] (sp w))
  (ad:∀(w:World) (H:Hp) (a:Addr) (ns:List Int),ns.length<=n->zP2 H->SqL (K w.params) H a (ns.map V.int)->(∀P q,qa (K w.params) P q->H P=some (.cot q))->sp w [.ref a] H (λv H'=>v=.bl true/\∀P q,H P=some (.cot q)->H' P=some (.cot q)) λ_ _ _=>False)
  (ai:∀(w:World) (H:Hp) (s:Shared) (e:Value) (s':Shared),CX w [] H s (λ_ _ _=>False) e s'->False) :
  W.WalkO q loose XP YP l.row.toRowW d [] (λf vs=>PySem.call f vs):=by
 refine Att.attach_call hn ah λw s₀ s₁ mg mb fa o pm cd ak a vs ns G Y ho hd aj ag aa L J hg=>?_;have KX:=hY w _ Y;obtain⟨fd,hb,hF⟩:=F w mg fa _ KX G.T.g ag
 exact zx0 KX G.T.g G.T.b G.T.builtins G.T.nolimit G.T.nodigits hg (λy hy c P e=>let ⟨d,hr⟩:=O w y hy c P e;W.tab_of G.T KX hr e) (hu w) (ae w) G.T.bmain aa L (zK J af) hr hF hb (λH hO hS hT=>ad w H a ns J hO hS hT) λH e s'=>ai w H s₁ e s'
def evL{α:Type}:List α->List α
 |[]=>[]
 |[x]=>[x]
 |x::_::r=>x::evL r
def odL{α:Type}:List α->List α
 |[]=>[]
 |[_]=>[]
 |_::y::r=>y::odL r
def Zz{α:Type}(o:Bool)(l:List α):List α:=if o then odL l else evL l
theorem zA2:∀l:List Value,((List.range ((l.length+1)/2)).map λk=>2*k).filterMap (λi=>l[i]?)=evL l
 |[]=>rfl
 |[x]=>by simp[evL,range_succ]
 |x::y::r=>by
  have e:((x::y::r).length+1)/2=(r.length+1)/2+1:=by simp only[zJ];lia
  rw[e,List.range_succ_eq_map,zD,yK];show x::_=x::evL r;rw[<- zA2 r,zQ,yl,yl];rfl
theorem zu9:∀l:List Value,((List.range (l.length/2)).map λk=>2*k+1).filterMap (λi=>l[i]?)=odL l
 |[]=>rfl
 |[x]=>by simp[odL]
 |x::y::r=>by
  have e:(x::y::r).length/2=r.length/2+1:=by simp only[zJ];lia
  rw[e,List.range_succ_eq_map,zD,yK];show y::_=y::odL r;rw[<- zu9 r,zQ,yl,yl];rfl
def zz2(o:Bool)(l:QqW):slicePick l.toArray (if o then some 1 else none) none (some 2)=(Zz o l).toArray:=by
 unfold slicePick
 cases o with
 | false =>
  show((sliceRange 0 (l.toArray.size:Int) 2).filterMap λi=>l.toArray[i]?).toArray=(evL l).toArray;rw[<- zA2 l]
  congr 1
  have e:sliceRange 0 (l.toArray.size:Int) 2=(List.range ((l.length+1)/2)).map λk=>2*k:=by
   unfold sliceRange;simp only[zp]
   have c:(if (2:Int) > 0 then(if (0:Int)<(l.length:Int) then((l.length:Int)-0+2-1)/2 else 0) else(if (0:Int) > (l.length:Int) then(0-(l.length:Int)-2-1)/(-2) else 0)).toNat=(l.length+1)/2:=by
    rw[if_pos q9]
    split<;>lia
   rw[c]
   exact yI λk _=>by lia
  rw[e];simp
 | true =>
  show((sliceRange (max 0 (min (1:Int) (l.toArray.size:Int))) (l.toArray.size:Int) 2).filterMap λi=>l.toArray[i]?).toArray=(odL l).toArray;rw[<- zu9 l]
  congr 1
  have e:sliceRange (max 0 (min (1:Int) (l.toArray.size:Int))) (l.toArray.size:Int) 2=(List.range (l.length/2)).map λk=>2*k+1:=by
   by_cases h0:l.length=0
   ·have:l=[]:=xb.mp h0;subst this;rfl
   ·have J : max 0 (min (1 : Int) (l.toArray.size : Int)) = 1 := by simp only [zp]; lia
    rw[J];unfold sliceRange;simp only[zp]
    have c:(if (2:Int) > 0 then(if (1:Int)<(l.length:Int) then((l.length:Int)-1+2-1)/2 else 0) else(if (1:Int) > (l.length:Int) then(1-(l.length:Int)-2-1)/(-2) else 0)).toNat=l.length/2:=by
     rw[if_pos q9]
     split<;>lia
    rw[c]
    exact yI λk _=>by lia
  rw[e];simp
theorem Xq{α:Type}(o:Bool):∀l:List α,(Zz o l).length<=l.length
 |[]=>by cases o<;>simp[Zz,evL,odL]
 |[x]=>by cases o<;>simp[Zz,evL,odL]
 |x::y::r=>by
  have:=Xq o r
  cases o with
  |false=>show(x::evL r).length<=_;have h:(evL r).length<=r.length:=this;simp only[zJ];lia
  |true=>show(y::odL r).length<=_;have h:(odL r).length<=r.length:=this;simp only[zJ];lia
theorem Jj{α:Type}:∀l:List α,(odL l++evL l).Perm l
 |[]=>.nil
 |[x]=>.refl _
 |x::y::r=>by
  show((y::odL r)++(x::evL r)).Perm (x::y::r);refine List.perm_middle.trans (.cons x ?_);exact .cons y (Jj r)
theorem UG{α β:Type}(f:α->β)(o:Bool):∀l:List α,Zz o (l.map f)=(Zz o l).map f
 |[]=>by cases o<;>rfl
 |[x]=>by cases o<;>rfl
 |x::y::r=>by
  have:=UG f o r
  cases o with
  |false=>show f x::evL (r.map f)=_;have h:evL (r.map f)=(evL r).map f:=this;rw[h];rfl
  |true=>show f y::odL (r.map f)=_;have h:odL (r.map f)=(odL r).map f:=this;rw[h];rfl
theorem Vals.half(o:Bool):∀{xs:List V}{us:QqW},Vals xs us->Vals (Zz o xs) (Zz o us)
 |_,_,.nil=>by cases o<;>exact .nil
 |_,_,.cons r .nil=>by
  cases o
  ·exact .cons r .nil
  ·exact .nil
 |_,_,.cons r (.cons J t)=>by
  have:=Vals.half o t;cases o
  ·exact .cons r this
  ·exact .cons J this
theorem Reps.half{K:W.Frag}{G:QqE}{Z:QqA}{H:Hp}(o:Bool):∀{ds:List D}{vs:List V},Reps K G Z H ds vs->Reps K G Z H (Zz o ds) (Zz o vs)
 |[],vs,h=>by rw[h.nil_inv];cases o<;>exact .nil
 |[d],vs,h=>by
  obtain⟨v,r,rfl,q,t⟩:=h.split;rw[t.nil_inv];cases o
  ·exact .cons q .nil
  ·exact .nil
 |d::d2::ds,vs,h=>by
  obtain⟨v,r,rfl,q,t⟩:=h.split;obtain⟨v2,L,rfl,J,t2⟩:=t.split;have:=Reps.half o t2;cases o
  ·exact .cons q this
  ·exact .cons J this
section
variable {X:Cx}{e st:Expr}{te:TE}{lo:Option Expr}{pos p2:Pos}
def xf2(K:W.Frag)(o:Bool)(te:TE):TE:=λσ H Q=>te σ H λx H1=>∃a xs,x=.ref a/\SqL K H1 a xs/\∀p,H1 p=none->Q (.ref p) (upd H1 p (.lst (Zz o xs)))
def zs3{o:Bool}(he:PE X e te)(O:PO X lo λ_ H Q=>Q (if o then some 1 else none) H)(L:PE X st λ_ H Q=>Q (.int 2) H):PE X (.Subscript e (.Slice lo none (some st) p2) pos) (xf2 X.K o te):=by
 intro pins s σ H Q I h;refine Subscript_ (thn (he pins s σ H _ I h) λv s1 ⟨x,H1,I1,r1,q1⟩=>?_);obtain⟨a,xs,rfl,hx,q1⟩:=q1
 refine wpAny_Slice (thn (O pins s1 σ H1 (λo' H2=>o'=(if o then some 1 else none)/\H2=H1) I1 ⟨rfl,rfl⟩) λvl s2 ⟨l,H2,I2,pl,el,Y⟩=>?_)
 subst el Y;rw[evalPart_none];refine zd ?_;rw[evalPart_some];refine thn (L pins s2 σ H2 (λy H3=>y=.int 2/\H3=H2) I2 ⟨rfl,rfl⟩) λu J ⟨y,H3,I3,ry,ey,Y⟩=>?_;subst ey Y;obtain⟨tk,rfl⟩:=ry;cases r1;have I4:Inv X pins σ H3 { J with heap:=J.heap.push { cls:=.type "slice",data:=.fields #[vl,.none,.int 2 tk] } }:=I3.kept (t':=J.toks) λb ob q=>zh _ q;obtain⟨its,r,ht,hz⟩:=I4.list hx;have aa:=r.length
 refine tail_any (ops:=[.ref a,.ref J.heap.objs.size]) ht.isList.typeIs slot_list_getitem.lookup (wpAny_getItem_list_slice ht.isList (Heap.IsSliceOf.new ..) pl .none (.int 2 tk) (by simp) ?_ (by rw[zp]<;>lia)) (by with_unfolding_all rfl)
 rw[zz2];refine⟨.ref _,_,I4.laid (t':=J.toks) (o:=.lst (Zz o xs)) (λb ob q=>zh _ q) (zo _) ?_,rfl,q1 _ (I4.hok.fresh (zo _))⟩;exact⟨zK (Xq o xs) hz,Zz o its,0,r.half o,zr _ rfl⟩
def JB(Y:X.calm=true):kG X (.builtin "max") (λxs H Q=>∃i j l,xs=[.int i,.int j,.int l]/\Q (.int (max (max i j) l)) H):=by
 intro pins s σ H xs us Q I r h;obtain⟨i,j,l,rfl,q⟩:=h
 cases r with
 | cons O L =>
  obtain⟨u,w',rfl,⟨t',rfl⟩,⟨t'',rfl⟩⟩:=zT6 L;obtain⟨t,rfl⟩:=O;refine max_three_ints (I.ok.hd Y) λh' tk k=>⟨_,H,I.kept k,?_,q⟩
  by_cases h1:j > i
  ·rw [if_pos h1]
   by_cases J:l > j
   ·rw[if_pos J];exact⟨_,congrArg (λz=>Value.int z _) q5⟩
   ·rw[if_neg J];exact⟨_,congrArg (λz=>Value.int z _) q5⟩
  ·rw [if_neg h1]
   by_cases J:l > i
   ·rw[if_pos J];exact⟨_,congrArg (λz=>Value.int z _) q5⟩
   ·rw[if_neg J];exact⟨_,congrArg (λz=>Value.int z _) q5⟩
end
section
variable {A:AC}{X:Cx}{a:Expr}{ta:TD}{pos p2 p3 p4:Pos}
def zO2(o:Bool)(ta:TD):TD:=λrho n P=>ta rho n λd J=>zw4 d λfs=>P (.lst (Zz o fs)) J
@[simp] theorem xB4{o ta rho n P}:zO2 o ta rho n P=ta rho n λd J=>zw4 d λfs=>P (.lst (Zz o fs)) J:=rfl
def zz3{o:Bool}(hK:X.K=A.K)(h:tOf A (zO2 o ta) sg H Q):xf2 X.K o (tOf A ta) sg H Q:=by
 obtain⟨rho,n,P,ds,vs,I,ht,Y⟩:=h;refine⟨rho,n,_,ds,vs,I,ht,λv H1 O d ⟨os,J⟩ k=>?_⟩;obtain⟨fs,hd,k⟩:=k;obtain⟨J1,r⟩:=J.pop;rw[hK]
 rcases hd with rfl |rfl
 ·obtain⟨l,xs,rfl,sq,rs⟩:=r.lst_inv;exact⟨l,xs,rfl,sq.sq,λp L=>Y _ _ O _ ⟨os,J1.newLst (rs.half o) L⟩ k⟩
 ·obtain⟨l,xs,rfl,sq,rs⟩:=r.fz_inv;exact⟨l,xs,rfl,sq,λp L=>Y _ _ O _ ⟨os,J1.newLst (rs.half o) L⟩ k⟩
def xD3{j:Nat}(J:X.K=A.K)(ha:PD A X a ta):PD A X (.Subscript a (.Slice none none (some (.Constant (.int 2) j p3)) p2) pos) (zO2 false ta):=by exists (zs3 (o:=false) ha (λpins s σ H Q I q=>by rw[evalPart_none];exact zd ⟨none,H,I,.none,q⟩) KA).imp λsg H Q h=>zz3 J h
def xD2{i j:Nat}(J:X.K=A.K)(ha:PD A X a ta):PD A X (.Subscript a (.Slice (some (.Constant (.int 1) i p4)) none (some (.Constant (.int 2) j p3)) p2) pos) (zO2 true ta):=by exists (zs3 (o:=true) ha (λpins s σ H Q I q=>zs0 KA pins s σ H Q I ⟨1,rfl,q⟩) KA).imp λsg H Q h=>zz3 J h
def xn6:List D->(D->Prop)->Prop:=λes k=>∃i j l,es=[.int i,.int j,.int l]/\k (.int (max (max i j) l))
@[simp] theorem xA0{i j l k}:xn6 [.int i,.int j,.int l] k↔k (.int (max (max i j) l)):=⟨fun⟨_,_,_,e,h⟩=>by cases e;exact h,λh=>⟨_,_,_,rfl,h⟩⟩
def zC0:ve A (λxs H Q=>∃i j l,xs=[.int i,.int j,.int l]/\Q (.int (max (max i j) l)) H) xn6:=by
 rintro os n rho sg H ds vs es ws k Q I rs ⟨i,j,l,rfl,q⟩ O;obtain⟨v,r,rfl,L,J⟩:=rs.split;obtain⟨v',v'',rfl,r',r''⟩:=Ku J
 exact⟨i,j,l,by rw[L.int_inv,r'.int_inv,r''.int_inv],O _ H _ ⟨os,I.push (Rep.ofS rfl)⟩ q⟩
def zx9(caps:List Nat)(tb:TD)(rho:Rho)(J:Nat)(R:D->Nat->Prop)(es:List D):Prop:=∃(rows:List D) (keys:List SRow) (Y:Bool) (L:List D),es=[.lst rows]/\rows.length<64/\keys.length=rows.length/\(∀x∈keys,x.key.num=Y)/\(keys.map SRow.name).Nodup /\
 L.length=caps.length/\(∀(i j:Nat),caps[i]?=some j->∃d,L[i]?=some d/\rho[j]?=some (some d)/\xG d=true)/\(∀(i:Nat) (d:D) (x:SRow),rows[i]?=some d->keys[i]?=some x->tb (some d::L.map some) J λe O=>e=x.d/\O=J) /\
 ∀ls:List Nat,ls.Perm (List.range rows.length)->(ls.map λi=>keys.getD i YN).Pairwise (λx y=>x.lt y=true)->R (.lst (ls.map λi=>rows.getD i .non)) J
@[simp] theorem xt4{caps tb t1 rho n R}:zS5 caps tb t1 rho n R=t1 rho n λes J=>zx9 caps tb rho J R es:=rfl
def XB{α:Type}{caps:List Nat}{tb:TD}{rho:Rho}{n:Nat}{R:D->Nat->Prop}(enc:α->D)(key:α->SRow)(fl:Bool)(cs:List D)(ts:List α)(a0:α)(af:ts.length<64)(hn:∀t∈ts,(key t).key.num=fl)(ad:(ts.map λt=>(key t).name).Nodup)(ae:cs.length=caps.length)
  (O:∀(i j:Nat),caps[i]?=some j->∃d,cs[i]?=some d/\rho[j]?=some (some d)/\xG d=true) (aa:∀t∈ts,tb (some (enc t)::cs.map some) n λe n2=>e=(key t).d/\n2=n)
  (fin:∀us:List α,us.Perm ts->us.Pairwise (λa b=>(key a).lt (key b)=true)->R (.lst (us.map enc)) n):zx9 caps tb rho n R [.lst (ts.map enc)]:=by
 refine⟨ts.map enc,ts.map key,fl,cs,rfl,by rw[zg];exact af,by rw[zg,zg],λx hx=>?_,by rw[zQ];exact ad,ae,O,λi d x J Y=>?_,λls hp hs=>?_⟩
 ·obtain⟨t,ht,rfl⟩:=zk.mp hx;exact hn t ht
 ·rw [zw] at J Y
  cases et:ts[i]? with
  |none=>rw[et] at J;cases J
  |some t=>
   rw[et] at J Y;cases J;cases Y;exact aa t (zM et)
 ·rw [zg] at hp;have L:∀ i∈ls,i<ts.length:=λi hi=>xV.mp (hp.mem_iff.mp hi)
  have g:∀{β:Type} (f:α->β) (b0:β) (i:Nat),i<ts.length->(ts.map f).getD i b0=f (ts.getD i a0):=λf b0 i hi=>by
   rw[zS,zS,zw,ze hi];rfl
  have J:(ls.map λi=>(ts.map enc).getD i .non)=(ls.map λi=>ts.getD i a0).map enc:=by
   rw[zQ];exact yI λi hi=>g enc .non i (L i hi)
  have Y:(ls.map λi=>(ts.map key).getD i YN)=(ls.map λi=>ts.getD i a0).map key:=by
   rw[zQ];exact yI λi hi=>g key YN i (L i hi)
  rw[Y,xE] at hs;rw[J];refine fin _ ?_ hs;have p2:=hp.map λi=>ts.getD i a0
  rwa [Ja] at p2
end
def zR6(N:List Str)(p:Str)(sc:Scope):Bool:=
 ((sc.kind == .function&&(!sc.isCoroutine&&!sc.isGenerator))&&sc.names.all (λz=>z.2 != .cell&&(z.2 != .free||(N.drop 1).contains z.1)))&&((N[0]? == some p&&sc.names.lookup p == some .local)&&(N.drop 1).all (λx=>sc.names.lookup x == some .free))
def Uz(h:zR6 N p sc=true)(J:∀x∈N.drop 1,∃c,clos.lookup x=some c):LamScope N p sc clos:=by
 unfold zR6 at h;simp only[zG,Bool.or_eq_true,wY,beq_iff_eq,bne_iff_ne,Bool.not_eq_true',List.contains_iff_mem] at h;obtain⟨⟨⟨h1,h2,h3⟩,h4⟩,⟨Y,O⟩,L⟩:=h;refine⟨h1,h2,h3,λx hx=>(h4 x hx).1,Y,O,λx hx=>?_,λi x e=>?_⟩
 ·rcases (h4 _ (PySem.mem_of_lookup hx)).2 with z | z
  ·exact absurd rfl z
  ·exact J x z
 ·refine L x ?_
  exact zM (l:=N.drop 1) (i:=i) (by rw[getElem?_drop];rw[Nat.add_comm];exact e)
def Caps.one{j:Nat}(hk:X.env.kindOf y=some .cell)(J:X.N[j]?=some y)(L:X.env.cells.lookup y=some a):Caps X [p,y] [(y,a)] [j]:=by
 refine⟨rfl,λi x e=>?_,λx c e=>?_,λi x e=>?_⟩
 ·cases i with
  |zero=>cases e;exact⟨hk,j,rfl,J⟩
  |succ i=>simp at e
 ·rw [zV] at e
  split at e
  ·rename_i h;cases e;rw[eq_of_beq h];exact L
  ·cases e
 ·cases i with
  |zero=>cases e;exact⟨a,by rw[zV,beq_self_eq_true]⟩
  |succ i=>simp at e
def zO9{p y:Str}{a:Addr}:∀x∈[p,y].drop 1,∃c,[(y,a)].lookup x=some c:=λx hx=>by
 have e:x=y:=by simpa using hx
 subst e
 exact⟨a,by rw[zV,beq_self_eq_true]⟩
def zP8{K:W.Frag}{x:Str}{f c P:Addr}{o1 p1:Value}{Y p2:QqE}{O L:Array (Option Value)}{fd:FuncData}{J:Array Value}(a:W.nsIn K mainGlobals x=some (some (.ref f)))(l:K.lookup f=some ⟨o1,Y,.func fd,O⟩)(le:fd.code=.ref c)(lc:K.lookup c=some ⟨p1,p2,.fields J,L⟩)(lp:J[11]?=some (.ref P)) :
  W.tabIn K x=some (c,P):=by
 unfold W.tabIn;rw[a];simp only[l,le,lc,lp]
def zo3(K:W.Frag):Bool:=match W.tabIn K "_law_grown",W.tabIn K "_law_drawn" with
 |some (_,P),some (_,P')=>P != P'
 |_,_=>true
def zT8(K:W.Frag)(J:zo3 K=true)(P:Addr)(q q':Str)(h:qa K P q)(h':qa K P q'):q=q':=by
 obtain⟨x,hx,c,e,rfl⟩:=h;obtain⟨y,L,c',e',rfl⟩:=h'
 have Y:x = "_law_grown" \/ x = "_law_drawn" := by simpa [ko] using hx
 have O:y = "_law_grown" \/ y = "_law_drawn" := by simpa [ko] using L
 unfold zo3 at J
 rcases Y with rfl |rfl<;>rcases O with rfl |rfl
 ·rfl
 ·rw[e,e'] at J;simp at J
 ·rw[e,e'] at J;simp at J
 ·rfl
abbrev UY(elt tg1 it1:Expr)(ifs1:List Expr)(tg2 it2:Expr)(ifs2:List Expr)(scope:Scope)(pos:Pos):Expr:=.ListComp elt [⟨tg1,it1,ifs1,0⟩,⟨tg2,it2,ifs2,0⟩] scope pos
def zo0(elt tg1 it1:Expr)(ifs1:List Expr)(tg2 it2:Expr)(ifs2:List Expr)(scope:Scope)(pos:Pos)(it acc:Value)(env:Env) :
  compTurn (UY elt tg1 it1 ifs1 tg2 it2 ifs2 scope pos) 0 it acc env=(do
   standAt it1.pos
   match <- pyNext it with
   |none=>pure (.done .next)
   | some v =>
    letOwnedTupleGo tg1 it v
    assign tg1 env v
    let ok <- YV ifs1 env
    if ok then
     let x <- eval it2 env
     standAt it2.pos
     let x <- foldedSetIterable it2 env x
     let _ <- runOwn (.compStart (UY elt tg1 it1 ifs1 tg2 it2 ifs2 scope pos) 1 (<- holding [x] (pyIter x)) acc env) env
    again (.compLoop (UY elt tg1 it1 ifs1 tg2 it2 ifs2 scope pos) 0 it acc env)):=by rfl
def zn9(elt tg1 it1:Expr)(ifs1:List Expr)(tg2 it2:Expr)(ifs2:List Expr)(scope:Scope)(pos:Pos)(it acc:Value)(env:Env) :
  compTurn (UY elt tg1 it1 ifs1 tg2 it2 ifs2 scope pos) 1 it acc env=(do
   standAt it2.pos
   match <- pyNext it with
   |none=>pure (.done .next)
   | some v =>
    letOwnedTupleGo tg2 it v
    assign tg2 env v
    let ok <- YV ifs2 env
    if ok then
     (do let _ <- call (.builtin "list.append") [acc,<- eval elt env])
    again (.compLoop (UY elt tg1 it1 ifs1 tg2 it2 ifs2 scope pos) 1 it acc env)):=by rfl
section
variable {prog:Program}{w:World}{A:Around}{R:Result->Shared->Prop}{s:Shared}{elt tg1 it1 tg2 it2:Expr}{ifs1 ifs2:List Expr}{scope:Scope}{pos:Pos}{it acc:Value}{env:Env}
def upF{α:Type}{t:Sem α}{Q Q':α->Shared->Prop}{E:QqV}{s:Shared}(h:wpAny (model prog w) A t Q (λ_ _=>False) s)(f:∀a s,Q a s->Q' a s):wpAny (model prog w) A t Q' E s:=wv h f λ_ _ z=>False.elim z
def zl4(J:Nat->Shared->Prop)(hs:∀x,foldedSetIterable it2 env x=pure x)
  (turn : ∀ n s, J n s -> wpAny (model prog w) A (pyNext it) (λr s1 => match r with
   |none=>R (.ok .next) s1
   | some v => wpAny (model prog w) A (letOwnedTupleGo tg1 it v) (λ_ s2 => wpAny (model prog w) A (assign tg1 env v) (λ_ s3 => wpAny (model prog w) A (YV ifs1 env) (λok O =>
     if ok=true then wpAny (model prog w) A (eval it2 env) (λx s5=>wpAny (model prog w) A (pyIter x) (λL s6=>codeAny (model prog w) A (.compStart (UY elt tg1 it1 ifs1 tg2 it2 ifs2 scope pos) 1 L acc env) (λr s7=>(∃f,r=.ok f)/\∃m,m<n/\J m s7) s6) (λ_ _=>False) s5) (λ_ _=>False) O
     else ∃m,m<n/\J m O) (λ_ _=>False) s3) (λ_ _=>False) s2) (λ_ _=>False) s1) (λ_ _=>False) s)
  (n:Nat) (h:J n s):codeAny (model prog w) A (.compLoop (UY elt tg1 it1 ifs1 tg2 it2 ifs2 scope pos) 0 it acc env) R s:=by
 refine codeAny_loop rfl J (λn s hJ=>?_) n h
 show wpAny _ A ((compTurn (UY elt tg1 it1 ifs1 tg2 it2 ifs2 scope pos) 0 it acc env).onRaise (λx=>do noteFrame x env;theTreesLotGoes x)) _ _ s
 refine wpAny_noted ?_;rw[zo0];refine zb (wx (zb (upF (turn n s hJ) λr s1 h1=>?_)))
 cases r with
 |none=>exact zd h1
 | some v =>
  refine zb (upF h1 λ_ s2 h2=>?_);refine zb (upF h2 λ_ s3 h3=>?_);refine zb (upF h3 λok O h4=>?_)
  cases ok with
  |false=>exact zd ⟨rfl,h4⟩
  |true=>
   refine zb (upF h4 λx s5 h5=>?_);refine zb (wx (zb (wpAny_of_eq (hs x) ?_)));refine zb (xr (upF h5 λL s6 h6=>?_));refine zb (wpAny_runOwn (codeAny_mono (show codeAny (model prog w) (A.mark none) _ _ _ from h6) λr s7 Y=>?_));obtain⟨⟨f,rfl⟩,Y⟩:=Y;exact zd ⟨rfl,Y⟩
def zl3(J:Nat->Shared->Prop)
  (turn : ∀ n s, J n s -> wpAny (model prog w) A (pyNext it) (λr s1 => match r with
   |none=>R (.ok .next) s1
   | some v => wpAny (model prog w) A (letOwnedTupleGo tg2 it v) (λ_ s2 => wpAny (model prog w) A (assign tg2 env v) (λ_ s3 => wpAny (model prog w) A (YV ifs2 env) (λok L =>
     if ok=true then wpAny (model prog w) A (eval elt env) (λx Y=>wpAny (model prog w) A (call (.builtin "list.append") [acc,x]) (λ_ O=>∃m,m<n/\J m O) (λ_ _=>False) Y) (λ_ _=>False) L
     else ∃m,m<n/\J m L) (λ_ _=>False) s3) (λ_ _=>False) s2) (λ_ _=>False) s1) (λ_ _=>False) s)
  (n:Nat) (h:J n s):codeAny (model prog w) A (.compLoop (UY elt tg1 it1 ifs1 tg2 it2 ifs2 scope pos) 1 it acc env) R s:=by
 refine codeAny_loop rfl J (λn s hJ=>?_) n h
 show wpAny _ A ((compTurn (UY elt tg1 it1 ifs1 tg2 it2 ifs2 scope pos) 1 it acc env).onRaise (λx=>do noteFrame x env;theTreesLotGoes x)) _ _ s
 refine wpAny_noted ?_;rw[zn9];refine zb (wx (zb (upF (turn n s hJ) λr s1 h1=>?_)))
 cases r with
 |none=>exact zd h1
 |some v=>
  refine zb (upF h1 λ_ s2 h2=>?_);refine zb (upF h2 λ_ s3 h3=>?_);refine zb (upF h3 λok L h4=>?_)
  cases ok with
  |false=>exact zd ⟨rfl,h4⟩
  |true=>exact zb (zb (upF h4 λx Y h5=>zb (upF h5 λ_ O h6=>zd (zd ⟨rfl,h6⟩))))
def Ki{d:Nat}(hd:d=0\/d=1)
  (h0:codeAny (model prog w) A (.compLoop (UY elt tg1 it1 ifs1 tg2 it2 ifs2 scope pos) d it acc env) R s)
  (h:wpAny (model prog w) A (pyIter it) (λit' s'=>codeAny (model prog w) A (.compLoop (UY elt tg1 it1 ifs1 tg2 it2 ifs2 scope pos) d it' acc env) R s') (λ_ _=>False) s) :
  codeAny (model prog w) A (.compStart (UY elt tg1 it1 ifs1 tg2 it2 ifs2 scope pos) d it acc env) R s:=by
 refine codeAny_of_tree ?_
 show wpAny _ _ ((compStart (UY elt tg1 it1 ifs1 tg2 it2 ifs2 scope pos) d it acc env).onRaise (λx=>do noteFrame x env;standAt theWindowsPlace)) _ _ s
 refine wpAny_notedAt ?_;unfold compStart
 rcases hd with rfl |rfl
 ·show wpAny _ _ (ask >>= _) _ _ s;refine zb (wpAny_askSetting (wpAny_ite ?_))
  split
  ·first
    |exact zb (zd (zd ⟨rfl,h0⟩))
    |exact zd ⟨rfl,h0⟩
  ·refine zb (ye ?_);show wpAny _ _ (standAt it1.pos >>= _) _ _ s;exact zb (wx (zb (upF h λit' s' h'=>zd ⟨rfl,h'⟩)))
 ·show wpAny _ _ (ask >>= _) _ _ s;refine zb (wpAny_askSetting (wpAny_ite ?_))
  split
  ·first
    |exact zb (zd (zd ⟨rfl,h0⟩))
    |exact zd ⟨rfl,h0⟩
  ·refine zb (ye ?_);show wpAny _ _ (standAt it2.pos >>= _) _ _ s;exact zb (wx (zb (upF h λit' s' h'=>zd ⟨rfl,h'⟩)))
end
section
variable {X':Cx}{P5:QqL}{σ6:St}{H8:Hp}{s8:Shared}{elt tg1 it1 tg2 it2:Expr}{ifs1 ifs2:List Expr}{scope:Scope}{pos:Pos}{g2:TG}{tt2:TT}{te:TE}
def zE6(O:It)(g2:TG)(tt2:TT)(te:TE)(Qs:List V->St->Hp->Prop)(L:Nat->Nat->List V->St->Hp->Prop):Prop:=∀i n acc σ H,L i n acc σ H ->
 (O.stop i H /\ Qs acc σ H) \/ (O.go i H /\ acc.length < sizeLine /\ ∀ y Y, O.yld i H y Y -> g2 y σ Y λJ H7 => tt2 J H7 λc H8 =>
  if c=true then te J H8 λv H9=>∃n',n'<n/\L (i+1) n' (acc++[v]) J H9 else ∃n',n'<n/\L (i+1) n' acc J H8)
section
variable {X':Cx}{P5:QqL}{σ6:St}{H8:Hp}{s8:Shared}{elt tg1 it1 tg2 it2:Expr}{ifs1 ifs2:List Expr}{scope:Scope}{pos:Pos}{g2:TG}{tt2:TT}{te:TE}
def zk3(xc:X'.calm=true)(xe:X'.xe=λ_ _=>False)(gg:PG X' tg2 g2)(gt:PTs X' ifs2 tt2)(ge:PE X' elt te){D:Addr}{L:Obj}{acc:List V}(I:Inv X' ((D,L)::P5) σ6 H8 s8)(d:LstO acc L)(fD:∀{H:Hp},H D=none->FpOk X' P5 H D)
  {it:Addr}{fp:List Addr}{tn:Nat->Heap->Prop}{J2:It} (T:Turn X'.prog X'.w X'.K tg2 J2 fp it tn) (st:tn 0 s8.heap) (f:∀b∈fp,FpOk X' ((D,L)::P5) H8 b) {W2:Nat->Nat->List V->St->Hp->Prop} (w0:∃n,W2 0 n acc σ6 H8) {Qs:List V->St->Hp->Prop} (ad:zE6 J2 g2 tt2 te Qs W2) {post:Shared->Prop}
  (fin:∀{σ' aa ob' H' s'},Inv X' ((D,ob')::P5) σ' H' s'->LstO aa ob'->Qs aa σ' H'->post s') :
  codeAny (model X'.prog X'.w) X'.A (.compStart (UY elt tg1 it1 ifs1 tg2 it2 ifs2 scope pos) 1 (.ref it) (.ref D) X'.env) (λr s'=>(∃f,r=.ok f)/\post s') s8:=by
 have main:codeAny (model X'.prog X'.w) X'.A (.compLoop (UY elt tg1 it1 ifs1 tg2 it2 ifs2 scope pos) 1 (.ref it) (.ref D) X'.env) (λr s'=>(∃f,r=.ok f)/\post s') s8:=by
  obtain⟨n0,w0⟩:=w0;refine zl3 (λn s'=>∃i acc σ' H' ob,Inv X' ((D,ob)::P5) σ' H' s'/\tn i s'.heap/\(∀b∈fp,H' b=none)/\LstO acc ob/\W2 i n acc σ' H') ?_ n0 ⟨0,acc,σ6,H8,L,I,st,λb O=>(f b O).1,d,w0⟩;rintro n s3 ⟨i,acc,σ3,H3,ob,I3,af,ag,d,w3⟩
  have ff:∀{H:Hp},(∀b∈fp,H b=none)->∀b∈fp,FpOk X' ((D,ob)::P5) H b:=λ{H} Y b O=>by
   obtain⟨_,z2,z3,z4,z5,z6⟩:=f b O;refine⟨Y b O,z2,z3,z4,z5,λp J=>?_⟩
   rcases xi.mp J with J |J
   ·exact z6 p (xv _ J)
   ·rcases zj.mp J with rfl | J
    ·exact z6 (D,L) (zL _ (.head _))
    ·exact z6 p (zL _ (.tail _ J))
  rcases ad i n acc σ3 H3 w3 with ⟨stop,q⟩ |⟨go,hsz,step⟩
  ·refine thn (T.done X' rfl rfl rfl xc i _ s3 σ3 H3 (λ_ _=>False) I3 (ff ag) af stop) λr s4 ⟨hr,I5⟩=>?_;subst hr;exact⟨⟨_,rfl⟩,fin I5 d q⟩
  ·refine thn (T.item X' rfl rfl rfl xc i _ s3 σ3 H3 (λ_ _ => False) I3 (ff ag) af go) λr s4 ⟨u, hr, h4⟩ => ?_;subst hr;refine thn h4 λ_ s5 ⟨y,H5,I5,r5,y5,ae,ah⟩=>?_;have a1:=gg _ s5 _ H5 y u _ (I5.pinned (ff ah) (T.obj _ _ ae)) r5 (step y H5 y5);rw[xe] at a1;refine thn a1 λ_ s6 ⟨σ7,H6,I6,q6⟩=>?_;have a2:=gt _ s6 σ7 H6 _ I6 q6;rw[xe] at a2;refine thn a2 λb s7 ⟨H7,I7,q7⟩=>?_
   have back:∀{H:Hp}{s:Shared}{ob:Obj},Inv X' ((D,ob)::(P5++YR fp s5.heap)) σ7 H s->(Inv X' ((D,ob)::P5) σ7 H s/\tn (i+1) s.heap/\∀b∈fp,H b=none):=λ{H s ob} I=>by
    refine⟨I.unpinned (pins:=(D,ob)::P5),T.keep _ _ _ ae λb O o e=>(I.pinAt (.tail _ (zL _ (kI O e)))).1,λb O=>?_⟩;obtain⟨o,e,d⟩:=T.obj _ _ ae b O;exact(I.pinAt (q:=(b,o)) (.tail _ (zL _ (kI O e)))).2
   cases b with
   |false=>
    obtain⟨m',hm,w7⟩:=q7;obtain⟨p1,p2,p3⟩:=back I7;exact⟨m',hm,i+1,acc,σ7,H7,ob,p1,p2,p3,d,w7⟩
   | true =>
    rw[if_pos rfl] at q7 ⊢;have a3:=ge _ s7 σ7 H7 _ I7 q7;rw[xe] at a3;refine thn a3 λz s8 ⟨v,H8,I8,r8,m',hm,w8⟩=>ze1 I8 (λ{H} Y=>?_) d hsz r8 λ{ob' s'} d' I'=>?_
    ·refine ⟨Y, (fD Y).2.1, (fD Y).2.2.1, (fD Y).2.2.2.1, (fD Y).2.2.2.2.1, λp J => ?_⟩
     replace J:p∈X'.pn++(P5++YR fp s5.heap):=J
     rw[<- yC] at J
     rcases xi.mp J with J |J
     ·exact(fD Y).2.2.2.2.2 p J
     ·exact λz=>(f _ (XT J).1).2.2.2.2.2 (D,L) (zL _ (.head _)) z.symm
    ·obtain⟨p1,p2,p3⟩:=back I';exact⟨m',hm,i+1,acc++[v],σ7,H8,ob',p1,p2,p3,d',w8⟩
 exact Ki (.inr rfl) main (T.self X'.A 0 s8 (λit' s'=>codeAny (model X'.prog X'.w) X'.A (.compLoop (UY elt tg1 it1 ifs1 tg2 it2 ifs2 scope pos) 1 it' (.ref D) X'.env) (λr s'=>(∃f,r=.ok f)/\post s') s') (λ_ _=>False) st main)
end
end
def zQ0(wi:TI)(own:Nat)(g1:TG)(ad:TT)(Y:TI)(g2:TG)(aa:TT)(te:TE):TE:=λσ H Q=>wi σ H λJ H1=>∃W:Nat->Nat->List V->Hp->Prop,(∃m,W 0 m [] H1)/\∀i m acc H,W i m acc H ->
 (J.stop i H/\acc.length<=sizeLine/\∀D,H D=none->Q (.ref D) (upd H D (.lst acc))) \/
 (J.go i H /\ ∀ x H', J.yld i H x H' -> g1 x (List.replicate own none ++ σ) H' λO H2 => zm7 (List.replicate own none ++ σ) O /\ ad O H2 λc H3 =>
  if c=true then Y O H3 λJ2 H4=>∃W2:Nat->Nat->List V->St->Hp->Prop,(∃n,W2 0 n acc O H4)/\zE6 J2 g2 aa te (λL σ5 H5=>zm7 (replicate own none++σ) σ5/\∃m',m'<m/\W (i+1) m' L H5) W2
  else ∃m',m'<m/\W (i+1) m' acc H3)
section
variable {X:Cx}{scope:Scope}{own M:List Str}{pins:QqL}{σ:St}{H2:Hp}{s2:Shared}{elt tg1 it1 tg2 it2:Expr}{ifs1 ifs2:List Expr}{pos:Pos}{g1 g2:TG}{tt1 tt2:TT}{te:TE}{wi2:TI}
section
variable {X:Cx}{scope:Scope}{own M:List Str}{elt tg1 it1 tg2 it2:Expr}{ifs1 ifs2:List Expr}{pos:Pos}{g1 g2:TG}{tt1 tt2:TT}{te:TE}{wi2:TI}
def zJ5{wi:TI}(ok:CompOk X scope M)(hc:X.calm=true)(hi:PI X tg1 it1 wi)(hg:∀C s2 H2 fp,PG (wa X scope own M C s2 H2 fp) tg1 g1)(ht:∀C s2 H2 fp,PTs (wa X scope own M C s2 H2 fp) ifs1 tt1)(ag:∀C s2 H2 fp,PI (wa X scope own M C s2 H2 fp) tg2 it2 wi2)
  (ah:∀C s2 H2 fp,PG (wa X scope own M C s2 H2 fp) tg2 g2) (ae:∀C s2 H2 fp,PTs (wa X scope own M C s2 H2 fp) ifs2 tt2) (he:∀C s2 H2 fp,PE (wa X scope own M C s2 H2 fp) elt te)
  (hs:∀x,foldedSetIterable it1 X.env x=pure x:=by intro _;rfl) (af:∀C s2 H2 fp x,foldedSetIterable it2 (wa X scope own M C s2 H2 fp).env x=pure x:=by intros;rfl) :
  PE X (UY elt tg1 it1 ifs1 tg2 it2 ifs2 scope pos) (zQ0 wi own.length g1 tt1 wi2 g2 tt2 te):=by
 intro pins s σ H Q I h;rw[eval_ListComp]
 refine wW (use:=none) rfl hs (Yb (ok.cells I)) ok.kind (λx hx hl=>by rw[ok.uniq x hx,hl]) ?_
 refine thn (hi pins s σ H _ I h) λv s1 h1=>thn h1 λad s2 ⟨it,fp,tn,J,H2,e,I2,T,aa,f2,W,w0,turn⟩=>?_;subst e;refine xl (qN ?_);dsimp only;rw[wc]
 exact UL (ho:=λ_=>.lst) (GZ:=λ_=>True) LstO.nc ⟨[],0,rfl,.nil⟩ rfl ok hc (hg _ _ _ _) (ht _ _ _ _) (λ_ h=>h) I2 T aa f2 w0 (λi m acc H w=>(turn i m acc H w).imp id fun⟨a,b⟩=>⟨a,trivial,b⟩) (λ_ _ _ _ _ _ _ hz d _=>ze2 hz d)
  (λR L turn n s h=>zl4 (elt:=elt) (it1:=it1) (tg2:=tg2) (it2:=it2) (ifs2:=ifs2) (scope:=scope) (pos:=pos) L (af _ _ _ _) turn n h) (λ_ _ h k=>Ki (.inl rfl) h (k _))
  (λpf σ6 H7 s7 i n acc ob I7 d _ fD _ q7 post fin => thn (ag _ _ _ _ _ s7 σ6 H7 _ I7 q7) λv s8 h8 => thn h8 λad s9 ⟨aj, al, ak, J2, H9, e9, I9, T2, Y, f9, W2, w9, O⟩ =>
   e9 ▸ zk3 (X':=cxC X scope own M s2 H2 fp) hc rfl (ah _ _ _ _) (ae _ _ _ _) (he _ _ _ _) I9 d fD T2 Y f9 w9 O λI' d' ⟨k1,m',hm,w'⟩=>fin hm w' d' k1 I')
  (λH' s' m IY q hm ai c2 c1 c3 c4=>⟨m,hm,λh' hs'=>⟨.ref s2.heap.objs.size,H',IY.turned (t':=s'.toks) (λb o hb e=>hs'.extBut b o hb e) ai c2 (.inr c1) c3 c4,rfl,q⟩⟩) rfl
end
end
def keepsD:Rho->Rho->Prop
 |[],[]=>True
 |none::r,_::r'=>keepsD r r'
 |some d::r,o::r'=>o=some d/\keepsD r r'
 |_,_=>False
@[simp] theorem xs3:keepsD [] []=True:=rfl
@[simp] theorem xs1:keepsD (none::r) (o::r')=keepsD r r':=rfl
@[simp] theorem xs0:keepsD (some d::r) (o::r')=(o=some d/\keepsD r r'):=rfl
theorem keepsD.at:∀{r r':Rho},keepsD r r'->r.length=r'.length/\∀(i:Nat) (d:D),r[i]?=some (some d)->r'[i]?=some (some d)
  |[],[],_=>⟨rfl,λi d e=>by simp at e⟩
  | none :: r, o :: r', h => by
    have h':keepsD r r':=h;obtain⟨h1,J⟩:=h'.at
    refine⟨by simp[h1],λi d e=>?_⟩
    cases i with
    |zero=>simp at e
    |succ i=>simpa using J i d (by simpa using e)
  | some c :: r, o :: r', h => by
    have h':o=some c/\keepsD r r':=h;obtain⟨h1,J⟩:=h'.2.at
    refine⟨by simp[h1],λi d e=>?_⟩
    cases i with
    | zero => have e' : c = d := by simpa using e
              subst e';rw[h'.1];rfl
    |succ i=>simpa using J i d (by simpa using e)
  |[],_::_,h=>h.elim
  |none::_,[],h=>h.elim
  |some _::_,[],h=>h.elim
@[simp] theorem Wj:∀r:Rho,keepsD r r
 |[]=>True.intro
 |none::r=>Wj r
 |some d::r=>⟨rfl,Wj r⟩
def AmO.weakR{A:AC}{os:List (Nat × Addr)}{n:Nat}{rho rho':Rho}{sg:St}{H:Hp}{ds:List D}{vs:List V}(I:AmO A os n rho' sg H ds vs)(k:keepsD rho rho'):AmO A os n rho sg H ds vs:=
 ⟨k.at.1.trans I.len,λi d e=>I.slot i d (k.at.2 i d e),I.pend,I.nd,I.fresh,I.st,I.gz,I.fr,I.z0⟩
def xE2(g2:TGD)(Y:TBD)(te:TD)(L:Rho)(acc:List D)(R:List D->Nat->Prop)(items2:List D)(n:Nat):Prop:=∃O:Nat->List D->Nat->Prop,O 0 acc n /\
 (∀i d acc n,items2[i]?=some d->O i acc n->acc.length<sizeLine/\g2 d L λJ=>keepsD L J/\Y J n λc n2=>if c=true then te J n2 λe n3=>O (i+1) (acc++[e]) n3 else O (i+1) acc n2) /\
 ∀acc n,O items2.length acc n->R acc n
def QU(own:Nat)(g1:TGD)(Y:TBD)(it2:TID)(g2:TGD)(O:TBD)(te:TD)(rho:Rho)(P:D->Nat->Prop)(items:List D)(n1:Nat):Prop:=∃J:Nat->List D->Nat->Prop,J 0 [] n1 /\
 (∀i d acc n,items[i]?=some d->J i acc n->g1 d (replicate own none++rho) λL=>L.drop own=rho/\Y L n λc n2=>if c=true then it2 L n2 (xE2 g2 O te L acc (J (i+1))) else J (i+1) acc n2) /\
 ∀acc n,J items.length acc n->acc.length<=sizeLine/\P (.lst acc) n
def zB5(it:TID)(own:Nat)(Y:TGD)(L:TBD)(it2:TID)(O:TGD)(J:TBD)(te:TD):TD:=λrho n P=>it rho n (QU own Y L it2 O J te rho P)
@[simp] theorem xt9{it own Y L it2 O J te rho n P}:zB5 it own Y L it2 O J te rho n P=it rho n (QU own Y L it2 O J te rho P):=rfl
section
variable {A:AC}{X:Cx}{elt tg1 it1 tg2 it2:Expr}{ifs1 ifs2:List Expr}{scope:Scope}{own M:List Str}{pos:Pos}{i1 i2:TID}{g1 g2:TGD}{tt1 tt2:TBD}{te:TD}
def zp3{m:Nat}(h:tOf A (zB5 i1 m g1 tt1 i2 g2 tt2 te) sg H Q):zQ0 (iOf A i1) m (gOf A m g1) (VF A tt1) (iOf A i2) (gOf A m g2) (VF A tt2) (tOf A te) sg H Q:=by
 obtain⟨rho,n,P,ds,vs,I,ht,hQ⟩:=h;refine⟨rho,n,_,ds,vs,I,ht,λJ H' n' items es ws I1 hl hJ k=>?_⟩;obtain⟨W,w0,turn,fin⟩:=k;refine⟨λi mm acc H=>mm=items.length-i/\i<=items.length/\∃O n,acc.length=O.length/\Am A n rho sg H (es++(O++ds)) (ws++(acc++vs))/\W i O n,⟨items.length,rfl,xq _,[],n',rfl,I1,w0⟩,?_⟩;rintro i mm acc H3 ⟨rfl,hi,O,n3,ak,⟨os,I3⟩,w3⟩;obtain⟨j1,j2⟩:=hJ n3 rho sg H3 (O++ds) (acc++vs) i ⟨os,I3⟩
 by_cases ag:i<items.length
 ·refine .inr ⟨(j1 items[i] (by simp [ag])).1, λx H4 y => ?_⟩
  obtain⟨aP,I4⟩:=(j1 items[i] (by simp[ag])).2 x H4 y
  refine⟨replicate m none++rho,n3,_,items[i],es++(O++ds),ws++(acc++vs),⟨_,I4.front m⟩,turn i items[i] O n3 (by simp[ag]) w3,λaa sg2 ⟨aE,I5⟩ e5 k5=>?_⟩
  obtain⟨k5,k6⟩:=k5
  have e6:sg2.drop m=sg:=by rw[e5,wR (by simp)]
  refine⟨vQ e6,aa,n3,_,es++(O++ds),ws++(acc++vs),⟨aE,I5⟩,k6,λc H6 n6 ⟨aD,I6⟩ k7=>?_⟩
  cases c with
  |false=>
   obtain⟨aC,I7⟩:=I6.back k5 e6
   exact⟨items.length-(i+1),q5,rfl,ag,O,n6,ak,⟨aC,I7⟩,k7⟩
  | true =>
   rw[if_pos rfl] at k7 ⊢;refine⟨aa,n6,_,es++(O++ds),ws++(acc++vs),⟨aD,I6⟩,k7,λJ2 H7 n7 items2 al ah I7 ax aI k8=>?_⟩;obtain⟨V,v0,ap,au⟩:=k8;refine⟨λi2 nn Y σ5 H=>nn=items2.length-i2/\i2<=items2.length/\σ5.drop m=sg/\∃L n,Y.length=L.length/\Am A n aa σ5 H (al++(es++(L++ds))) (ah++(ws++(Y++vs)))/\V i2 L n,⟨items2.length,rfl,xq _,e6,O,n7,ak,I7,v0⟩,?_⟩;rintro i2 nn Y σ5 H8 ⟨rfl,aQ,ai,L,n8,ae,⟨aB,I8⟩,w8⟩;obtain⟨q1,q2⟩:=aI n8 aa σ5 H8 (es++(L++ds)) (ws++(Y++vs)) i2 ⟨aB,I8⟩
   by_cases ad:i2<items2.length
   ·obtain ⟨t1, t2⟩ := ap i2 items2[i2] L n8 (by simp [ad]) w8
    refine .inr ⟨(q1 items2[i2] (by simp[ad])).1,by rw[ae];exact t1,λy H9 yy=>?_⟩
    obtain⟨aA,I9⟩:=(q1 items2[i2] (by simp[ad])).2 y H9 yy
    refine⟨aa,n8,_,items2[i2],al++(es++(L++ds)),ah++(ws++(Y++vs)),⟨aA,I9⟩,t2,λam aO ⟨af,ar⟩ ay aj=>?_⟩;obtain⟨aj,aH⟩:=aj;refine⟨am,n8,_,al++(es++(L++ds)),ah++(ws++(Y++vs)),⟨af,ar⟩,aH,λc aS aw ⟨ao,az⟩ aq=>?_⟩
    cases c with
    |false=>exact⟨items2.length-(i2+1),q5,rfl,ad,ay.trans ai,L,aw,ae,⟨ao,az.weakR aj⟩,aq⟩
    |true=>
     rw[if_pos rfl] at aq ⊢;refine⟨am,aw,_,al++(es++(L++ds)),ah++(ws++(Y++vs)),⟨ao,az⟩,aq,λv aR aF d ⟨av,aN⟩ aG=>?_⟩;obtain⟨aM,rv⟩:=aN.pop;obtain⟨aL,r1⟩:=aM.split ax;obtain⟨aK,r2⟩:=aL.split hl;obtain⟨aJ,r3⟩:=aK.split ae
     exact⟨items2.length-(i2+1),q5,rfl,ad,ay.trans ai,L++[d],aF,by simp[ae],⟨av,(((aJ.join (r3.append (.cons rv .nil))).join r2).join r1).weakR aj⟩,aG⟩
   ·have e : i2 = items2.length := by lia
    subst e;obtain⟨I9,_⟩:=I8.split ax;obtain⟨af,ar⟩:=I9.back k5 ai
    exact .inl ⟨q2 (zo _),vQ ai,items.length-(i+1),q5,rfl,ag,L,n8,ae,⟨af,ar⟩,au L n8 w8⟩
 ·have e : i = items.length := by lia
  subst e;obtain⟨f1,f2⟩:=fin O n3 w3
  refine .inl ⟨j2 (zo _),by rw[ak];exact f1,λD hD=>?_⟩
  obtain⟨I4,r1⟩:=I3.split hl;obtain⟨I5,r2⟩:=I4.split ak;exact hQ _ _ n3 _ ⟨os,I5.newLst r2 hD⟩ f2
def zJ8(ok:CompOk X scope M)(hc:X.calm=true)(hi:PID A X tg1 it1 i1)(hg:∀C J H2 fp,PGD A (wa X scope own M C J H2 fp) own.length tg1 g1)(ht:∀C J H2 fp,PTs (wa X scope own M C J H2 fp) ifs1 (VF A tt1))
  (Y:∀C J H2 fp,PID A (wa X scope own M C J H2 fp) tg2 it2 i2) (aa:∀C J H2 fp,PGD A (wa X scope own M C J H2 fp) own.length tg2 g2) (L:∀C J H2 fp,PTs (wa X scope own M C J H2 fp) ifs2 (VF A tt2))
  (he:∀C J H2 fp,PD A (wa X scope own M C J H2 fp) elt te) (hs:∀x,foldedSetIterable it1 X.env x=pure x:=by intro _;rfl) (O:∀C J H2 fp x,foldedSetIterable it2 (wa X scope own M C J H2 fp).env x=pure x:=by intros;rfl) :
  PD A X (.ListComp elt [⟨tg1,it1,ifs1,0⟩,⟨tg2,it2,ifs2,0⟩] scope pos) (zB5 i1 own.length g1 tt1 i2 g2 tt2 te):=by exists (zJ5 ok hc hi hg ht Y aa L he hs O).imp λ_ _ _=>zp3
end
def zy6{g2:TGD}{Y:TBD}{te:TD}{L:Rho}{acc:List D}{R:List D->Nat->Prop}{n:Nat}{β:Type}(O:β->D)(keep:β->Bool)(f:β->D)(ys:List β)(hz:acc.length+ys.length<=1000)
  (he:∀y∈ys,∀(R:D->Nat->Prop) (S:Nat->Prop),(keep y=true->R (f y) n)->(keep y=false->S n)->g2 (O y) L λJ=>keepsD L J/\Y J n λc n2=>if c=true then te J n2 R else S n2)
  (fin:R (acc++(ys.filter keep).map f) n):xE2 g2 Y te L acc R (ys.map O) n:=by
 refine⟨λi ac n'=>n'=n/\i<=ys.length/\ac=acc++((ys.take i).filter keep).map f,⟨rfl,xq _,by simp⟩,?_,?_⟩
 ·rintro i d ac n' e ⟨rfl, hi, rfl⟩;rw[zw] at e
  cases q:ys[i]? with
  |none=>rw[q] at e;cases e
  |some y=>
   rw[q] at e;cases e;have hm:y∈ys:=zM q;have aa:i<ys.length:=(zm.mp q).1
   have ad:((ys.take i).filter keep).length<=i:=zK (wB ..) (by rw[yi];lia)
   refine⟨lt_size (by rw[zu,zg];lia),?_⟩
   refine he y hm _ _ (λhk=>?_) λhk=>?_
   ·refine⟨rfl,aa,?_⟩;rw[xm,q];simp[hk]
   ·refine⟨rfl,aa,?_⟩;rw[xm,q];simp[hk]
 ·rintro ac n' ⟨rfl,_,rfl⟩;rw[zg,xY];exact fin
def UE:Value->Bool
 |.bool b=>b
 |_=>false
def zV6(K:W.Frag):V->List V->Hp->VK->Prop:=λx vs H Q=>∃(l:Addr) (bs:List Bool) (j:Nat),x=.ref l/\vs=[.bl true]/\SqL K H l (bs.map V.bl)/\bs[j]?=some true/\(∀m,m<j->bs[m]?=some false)/\bs.length<=1000/\Q (.int j) H
def zF8{bs:List Bool}:∀{us:QqW},Vals (bs.map V.bl) us->us=bs.map Value.bool:=by
 induction bs with
 |nil=>intro us r;cases r;rfl
 | cons b bs O =>
  intro us r
  cases r with
  |cons L J=>
   have e:_=Value.bool b:=L;rw[e,O J];rfl
section
variable {X:Cx}
def zv7:MtR X "list.index" (zV6 X.K):=by
 intro pins s σ H x vs v us Q I rx rv h;obtain⟨l,bs,j,rfl,rfl,hS,h1,h2,h3,q⟩:=h;cases rx;obtain⟨u,rfl,ru⟩:=ZH rv;have eu:u=Value.bool true:=ru;subst eu;obtain⟨its,r,pl,_⟩:=I.list hS;have e:=zF8 r;subst e;have ty:=pl.isList.typeIs;obtain⟨o,n,ho,hc,Y,hd⟩:=pl;obtain⟨oc,od,ad,aa⟩:=o;cases hc;cases Y;cases hd;have hj:j<bs.length:=(zm.mp h1).1
 have J:j<((bs.map Value.bool).toArray).size:=by simpa using hj
 have at_:∀m (L:m<((bs.map Value.bool).toArray).size),UE ((bs.map Value.bool).toArray)[m]=bs[m]'(by simpa using L):=λm L=>by simp[UE]
 refine call_meets F.slot_list_index ty F.entry_list_index (F.args_list_index_2 _ _) (SeqAt.list_indexAt l (bs.map Value.bool).toArray n _ _ (.bool true) UE j J q5 ?_ ?_) ⟨ho,?_,?_⟩
 ·rw[at_ j J];exact(zm.mp h1).2
 ·intro m L O;rw[at_ m L];exact(zm.mp (h2 m O)).2
 ·intro y hy;obtain⟨b,_,rfl⟩:=zk.mp (List.mem_toArray.mp hy);have:=SeqAt.EqAt.bool_bool (A:=X.A.in1) (s:=s) b true
  have e:(b == true)=UE (.bool b):=by cases b<;>rfl
  rw[e] at this;exact this
 ·exact⟨.int j,H,I.tok _,⟨_,rfl⟩,q⟩
end
def zB3(te:TD):TD:=λrho n P=>te rho n λd J=>∃(bs:List Bool) (j:Nat),d=.lst (bs.map D.bl)/\bs[j]?=some true/\(∀m,m<j->bs[m]?=some false)/\bs.length<=1000/\P (.int j) J
@[simp] theorem xi1{te rho n P}:zB3 te rho n P=te rho n λd J=>∃(bs:List Bool) (j:Nat),d=.lst (bs.map D.bl)/\bs[j]?=some true/\(∀m,m<j->bs[m]?=some false)/\bs.length<=1000/\P (.int j) J:=rfl
theorem zc5{K:W.Frag}{G:QqE}{Z:QqA}{H:Hp}:∀{bs:List Bool}{vs:List V},Reps K G Z H (bs.map D.bl) vs->vs=bs.map V.bl
 |[],vs,h=>h.nil_inv
 |b::bs,vs,h=>by
  obtain⟨v,r,rfl,q,t⟩:=h.split;rw[q.bl_inv,zc5 t];rfl
section
variable {A:AC}{X:Cx}
def zs8{o:Expr}{te:TD}{apos cpos p:Pos}{j:Nat}(hK:X.K=A.K)(ho:PD A X o te)(O:attributeBase o "index" X.env (eval o X.env)=eval o X.env:=by rfl)(L:(apos.endLine == cpos.line)=true:=by rfl) :
  PD A X (.Call (.Attribute o "index" apos) [.Constant (.bool true) j p] [] cpos) (zB3 te):=by
 exists (xj9 F.plainAttrs_list F.slot_list_index F.type_list_index zv7 ho (qh xk0 jZ) O rfl L).imp λsg H Q h=>by
   obtain⟨rho,n,P,ds,vs,I,ht,hQ⟩:=h;refine⟨rho,n,_,ds,vs,I,ht,λv H1 Y d ⟨os,J⟩ k=>?_⟩;obtain⟨bs,j,rfl,k1,k2,k3,k⟩:=k;obtain⟨J1,r⟩:=J.pop;obtain⟨l,xs,rfl,sq,rs⟩:=r.lst_inv;rw[zc5 rs] at sq;rw[hK];exact⟨.inl ⟨rfl,_,sq.sq⟩,l,bs,j,rfl,rfl,sq.sq,k1,k2,k3,hQ _ _ Y _ ⟨os,J1.push (Rep.ofS (d:=.int j) rfl)⟩ k⟩
end
section
variable {A:AC}{X:Cx}{e:Expr}{t1:TAD}{pos:Pos}
end
section
variable {A:AC}{X:Cx}
def Vy{n:Nat}(J:Room n X.A):kG X (.builtin "repr") (λxs H Q=>(∃i:Int,xs=[.int i]/\i.natAbs.log2<1920/\Q (.str (toString i)) H)\/(xs=[.non]/\Q (.str "None") H)\/∃(y:V) (p:PyData),xs=[y]/\zE3 X H y p/\p.showable=true/\p.hasDict=false/\p.depth<=20/\p.shown.length<=sizeLine/\Q (.str p.shown) H):=by
 intro pins s σ H xs us Q I r h
 rcases h with ⟨i,rfl,hi,q⟩ |h
 ·obtain⟨u,rfl,hu⟩:=ZH r;obtain⟨t,rfl⟩:=hu;exact PySem.P.repr_of_int hi ⟨.str (toString i),H,I.tok _,⟨_,rfl⟩,q⟩
 ·exact zl9 J pins s σ H xs us Q I r h
def zU6:D->Str
 |.int i=>toString i
 |d=>zp7 d
def xu0(d:D):Prop:=(∃i:Int,d=.int i/\i.natAbs.log2<1920)\/xD6 d
def zR9:List D->(D->Prop)->Prop:=λes k=>∃d,es=[d]/\xu0 d/\k (.str (zU6 d))
@[simp] theorem xs9{d k}:zR9 [d] k↔(xu0 d/\k (.str (zU6 d))):=⟨fun⟨_,e,h⟩=>by cases e;exact h,λh=>⟨_,rfl,h⟩⟩
def zf6(L:X.K=A.K):ve A (λxs H Q=>(∃i:Int,xs=[.int i]/\i.natAbs.log2<1920/\Q (.str (toString i)) H)\/(xs=[.non]/\Q (.str "None") H)\/∃(y:V) (p:PyData),xs=[y]/\zE3 X H y p/\p.showable=true/\p.hasDict=false/\p.depth<=20/\p.shown.length<=sizeLine/\Q (.str p.shown) H) zR9:=by
 rintro os n rho sg H ds vs es ws k Q I rs ⟨d,rfl,h,q⟩ J
 rcases h with ⟨i,rfl,hi⟩ |h
 ·obtain⟨v,rfl,r⟩:=kO rs;have e:v=.int i:=r.int_inv;subst e;exact .inl ⟨i,rfl,hi,J _ H _ ⟨os,I.push (Rep.ofS (d:=.str (toString i)) rfl)⟩ q⟩
 ·have e : zU6 d = zp7 d := by
   rcases h with rfl |⟨h,_⟩
   ·rfl
   ·cases d<;>first |rfl |(simp[xu3] at h;done)
  rw[e] at q;exact .inr (zO7 L os n rho sg H ds vs [d] ws k Q I rs ⟨d,rfl,h,q⟩ J)
end
section
variable {X:Cx}{A:AC}{a b:Expr}{ta tb:TD}{pos p:Pos}{g:Str}{ks:List Str}{ds:List D}
end
section
variable {prog:Program}{w:World}{A:Around}{E:QqV}{s:Shared}
end
section
variable {X:Cx}
end
section
variable {A:AC}
end
theorem Jb{α β:Type}(f:α->β):∀(l:List α) (j:Nat),(l.eraseIdx j).map f=(l.map f).eraseIdx j
 |[],_=>rfl
 |_::_,0=>rfl
 |x::l,j+1=>congrArg (f x::·) (Jb f l j)
section
variable {κ:Type} [DecidableEq κ]
def Wv(xs:List (κ × Addr × Value))(k:κ):List (κ × Addr × Value):=xs.filter λx=>decide (x.1≠k)
theorem zf3:∀{xs:List (κ × Addr × Value)}{k:κ},k ∉ xs.map (·.1)->Wv xs k=xs
 |[],_,_=>rfl
 |x::xs,k,h=>by
  have h1:x.1≠k:=λe=>h (by simp[e])
  have J:Wv xs k=xs:=zf3 λz=>h (zn _ z);show List.filter _ (x::xs)=_
  rw[xj (by simpa using h1)]
  exact congrArg _ J
theorem Jq:∀{xs:List (κ × Addr × Value)}{k:κ}{p:Addr × Value}{j:Nat},(xs.map (·.1)).Nodup->xs[j]?=some (k,p)->xs.eraseIdx j=Wv xs k
 |[],_,_,_,_,h=>by simp at h
 |x::xs,k,p,0,J,h=>by
  have e:x=(k,p):=by simpa using h
  subst e;have hn':=xC.mp J;show xs=List.filter _ ((k,p)::xs)
  rw[xo (by simp)]
  exact(zf3 hn'.1).symm
 |x::xs,k,p,j+1,J,h=>by
  have h':xs[j]?=some (k,p):=by simpa using h
  have hn':=xC.mp J;have hx:x.1≠k:=λe=>hn'.1 (zk.mpr ⟨(k,p),zM h',e.symm⟩);show x::xs.eraseIdx j=List.filter _ (x::xs)
  rw[xj (by simpa using hx)]
  exact congrArg _ (Jq hn'.2 h')
theorem JK:∀{xs:List (κ × Addr × Value)}{k:κ}{p:Addr × Value},atKey xs k=some p->∃j:Nat,xs[j]?=some (k,p)
 |[],_,_,h=>by simp[atKey] at h
 | x :: xs, k, p, h => by
  by_cases e:x.1=k
  ·refine⟨0,?_⟩;simp[atKey,we,e] at h;simp[<- h,<- e]
  ·obtain ⟨j, J⟩ := JK (xs := xs) (k := k) (p := p) (by simpa [atKey, we, e] using h)
   exact⟨j+1,by simpa using J⟩
variable {prog:Program}{w:World}{knd:HeapKind prog w κ}{A:Around}{E:QqV}{s:Shared}{d a:Addr}{k:κ}{xs:List (κ × Addr × Value)}{p:Addr × Value}
theorem zG2(hu:knd.room A)(O:knd.is s.heap k a)(hm:s.heap.DictOfH knd d xs)(hp:atKey xs k=some p)(hsz:xs.length<=sizeLine)
  (hQ:∀h',h'.DictOfH knd d (Wv xs k)->Heap.SameBut d s.heap h'->Q (some ⟨knd.hash k,.ref p.1,p.2⟩) { s with heap:=h',toks:=s.toks+knd.draws k }):wpAny (model prog w) A (Builtin.Dict.takeOut d (.ref a)) Q E s:=by
 obtain⟨o,es,ep,ho,hc,J,L,Y,hn⟩:=hm;unfold Builtin.Dict.takeOut;refine xr (zb (knd.pyHash hu O (zb (wpAny_dictFind_heap (s:={ s with toks:=s.toks+knd.draws k }) hu O ho J L Y hn (λaa=>?_) λj q hj=>?_))))
 ·rw[atKey_none_of_get aa] at hp;cases hp
 ·have eq : q = p := by rw [atKey_of_get hn hj] at hp; exact zP hp
  subst eq
  have e1:es[j]?=some ⟨knd.hash k,.ref q.1,q.2⟩:=by rw[entry_at L j,hj];rfl
  refine zb (xO (s:={ s with toks:=s.toks+knd.draws k }) ho J ?_);rw[e1]
  have e2:es.size<=sizeLine:=by rw[size_of_entries L];exact hsz
  have e3:(es.eraseIdxIfInBounds j).toList=(Wv xs k).map (entryOfKey knd):=by
   rw[<- Jq hn hj,Jb,<- L];obtain⟨l⟩:=es;simp
  have e4:((Wv xs k).map (·.1)).Nodup:=hn.sublist (List.Sublist.map _ yJ);refine zb (wpAny_updateDictKeys (hz:=e2) (s:={ s with toks:=s.toks+knd.draws k }) ho J (zd (hQ _ ⟨_,_,ep+1,xI _ ho (Obj.isFreed_of_dict (Obj.data_mapDictKeys J _)),hc.mapDictKeys _,Obj.data_mapDictKeys J _,e3,λx hx=>?_,e4⟩ (Heap.SameBut.update ..))));exact knd.keeps (Y x (zy.mp hx).1) ho J (Heap.SameBut.update ..)
theorem xR4(hu:knd.room A.in1)(J:knd.is s.heap k a)(Y:s.heap.DictOfH knd d xs)(hp:atKey xs k=some p)(hsz:xs.length<=sizeLine)
  (hQ:∀h' t',h'.DictOfH knd d (Wv xs k)->Heap.SameBut d s.heap h'->Q p.2 { s with heap:=h',toks:=t' }):wpAny (model prog w) A (call (.builtin "dict.pop") [.ref d,.ref a]) Q E s:=by
 refine call_meetsIn PySem.F.slot_dict_pop Y.typeIs PySem.F.entry_dict_pop (PySem.F.args_dict_pop_2 _ _) (S:=λB R s'=>s'=s/\B=A/\∀h',h'.DictOfH knd d (Wv xs k)->Heap.SameBut d s.heap h'->R (.ok (.ret p.2)) { s with heap:=h',toks:=s.toks+knd.draws k }) (.of_wp ?_) ⟨rfl,rfl,λh' h1 h2=>hQ h' _ h1 h2⟩;rintro B R s' ⟨rfl,rfl,h⟩;obtain⟨o,es,ep,ho,hc,O,L,af,hn⟩:=id Y;obtain⟨j,hj⟩:=JK hp
 have aa:es.isEmpty=false:=by
  have:=size_of_entries L;have ae:j<xs.length:=(zm.mp hj).1
  cases es with
  |mk l=>cases l with
   |nil=>simp at this;lia
   |cons _ _=>rfl
 unfold Builtin.«dict.pop» Builtin.Dict.keyAndDefault;refine zb (zb (wpAny_notOrdered_dict Y.typeIs ?_));show wpAny _ _ (pure (d,Value.ref a,none)) _ _ _;refine zd ?_;have ad:(keyPart (Value.ref a)).isSome=false:=rfl;simp only[ad,zY,if_false];refine zb (xO ho O (zb (zd ?_)));rw[aa];simp only[zY,if_false];refine zb (zG2 hu J Y hp hsz λh' h1 h2=>?_);simp only[Option.isNone_some,zY,if_false];exact zb (yo (zd ⟨p.2,rfl,h h' h1 h2⟩))
def vY(xs ys:List (κ × Addr × Value)):List (κ × Addr × Value):=ys.foldl (λz y=>storedH z y.1 y.2.1 y.2.2) xs
theorem QF{xs ys:List (κ × Addr × Value)}{i:Nat}{y:κ × Addr × Value}(e:ys[i]?=some y):vY xs (ys.take (i+1))=storedH (vY xs (ys.take i)) y.1 y.2.1 y.2.2:=by
 unfold vY;rw[xm,e,List.foldl_append];rfl
theorem zi0(xs:List (κ × Addr × Value))(k:κ)(a:Addr)(v:Value):(storedH xs k a v).length<=xs.length+1:=by
 unfold storedH
 split
 ·simp
 ·simp
theorem Wd:∀(ys xs:List (κ × Addr × Value)),(vY xs ys).length<=xs.length+ys.length
 |[],xs=>zo _
 |y::ys,xs=>by
  have h1:=Wd ys (storedH xs y.1 y.2.1 y.2.2);have L:=zi0 xs y.1 y.2.1 y.2.2;have J:vY xs (y::ys)=vY (storedH xs y.1 y.2.1 y.2.2) ys:=rfl;rw[J,zJ];lia
theorem zg4{xs:List (κ × Addr × Value)}{k:κ}(h:k ∉ xs.map (·.1)):atKey xs k=none:=
 atKey_none_of_get λj p e=>h (zk.mpr ⟨(k,p),zM e,rfl⟩)
theorem Vl:∀(ys xs:List (κ × Addr × Value)),((xs++ys).map (·.1)).Nodup->vY xs ys=xs++ys
 |[],xs,_=>by simp[vY]
 | y :: ys, xs, J => by
  have h0:y.1 ∉ xs.map (·.1):=by
   rw[zE,wM] at J
   exact λm=>J.2.2 _ m _ (by simp) rfl
  have L:vY xs (y::ys)=vY (storedH xs y.1 y.2.1 y.2.2) ys:=rfl
  rw[L,storedH_new (zg4 h0),Vl ys (xs++[(y.1,y.2.1,y.2.2)]) (by simpa using J)]
  simp
theorem Vu{α:Type}(f:α->Int)(c:Int):∀(l:List α),(l.map f).Nodup->(l.filter λx=>f x == c).length<=1
 |[],_=>by simp
 | x :: l, h => by
  obtain⟨h1,L⟩:=xC.mp h
  by_cases e:f x=c
  ·have z : (l.filter λx => f x == c) = [] := by
    rw[List.filter_eq_nil_iff];intro y J t;exact h1 (zk.mpr ⟨y,J,(eq_of_beq t).trans e.symm⟩)
   rw[xj (by simpa using e),z]
   simp
  ·rw [xo (by simpa using e)]
   exact Vu f c l L
variable {prog:Program}{w:World}{knd:HeapKind prog w κ}{A:Around}{E:QqV}{s:Shared}{d o a:Addr}{k:κ}{v:Value}{xs ys:List (κ × Addr × Value)}
theorem zi1(hu:knd.room A)(Y:knd.is s.heap k a)(hm:s.heap.DictOfH knd d xs)(hsz:xs.length<=sizeLine)
  (hQ:∀h',h'.DictOfH knd d (storedH xs k a v)->Heap.SameBut d s.heap h'->Q () { s with heap:=h' }):wpAny (model prog w) A (dictSetHashed d (.ref a) (knd.hash k) v) Q E s:=by
 obtain⟨ob,es,ep,ho,hc,J,L,O,hn⟩:=hm;unfold dictSetHashed;refine xr (zb (wpAny_dictFind_heap hu Y ho J L O hn (λaa=>?_) λj q hj=>?_))
 ·have e0 := storedH_new (atKey_none_of_get aa) a v
  have e1:es.size<=sizeLine:=by rw[size_of_entries L];exact hsz
  refine zb (ye (wpAny_updateDictKeys (hz:=e1) ho J (hQ _ ⟨_,_,ep+1,xI _ ho (Obj.isFreed_of_dict (Obj.data_mapDictKeys J _)),hc.mapDictKeys _,Obj.data_mapDictKeys J _,?_,λx hx=>?_,?_⟩ (Heap.SameBut.update ..))))
  ·rw[e0];simp[L,entryOfKey]
  ·rw [e0] at hx
   rcases xi.mp hx with m |m
   ·exact knd.keeps (O x m) ho J (Heap.SameBut.update ..)
   ·cases zB.mp m;exact knd.keeps Y ho J (Heap.SameBut.update ..)
  ·rw [e0, zE, wM]
   refine⟨hn,by simp,λx hx y hy=>?_⟩
   have hy':y=k:=by simpa using hy
   subst hy';exact λz=>not_mem_keys_of_get aa (z ▸ hx)
 ·have e0 := storedH_old (atKey_of_get hn hj) a v;refine zb (ye (zb (wpAny_updateDict ho J (wpAny_point (hQ _ ⟨_,_,ep,xI _ ho (Obj.isFreed_of_dict (Obj.data_mapDict J _)),hc.mapDict _,Obj.data_mapDict J _,?_,λx hx=>?_,?_⟩ (Heap.SameBut.update ..))))))
  ·rw [e0];have t:=modify_map_putAt (entryOfKey knd) (λe:DictEntry=>{ e with val:=v }) k v (λ_ _=>rfl) hn hj;rw[<- L] at t;cases es
   simpa using t
  ·rw [e0] at hx;obtain⟨y,hy,rfl⟩:=zk.mp hx;unfold putAt
   split
   ·exact knd.keeps (O y hy) ho J (Heap.SameBut.update ..)
   ·exact knd.keeps (O y hy) ho J (Heap.SameBut.update ..)
  ·rw[e0,keys_map_putAt];exact hn
theorem zz6{ep:Nat}(ho:s.heap.get? o=some ob)(L:ob.data=.dict es ep)(J:es.toList=ys.map (entryOfKey knd))
  (O:∀y∈ys,s.TypeIs (.ref y.2.1) "tuple") (hh:(ys.map λy=>knd.hash y.1).Nodup) (hQ:Q es s):wpAny (model prog w) A (Builtin.Dict.entriesForEmpty nm o) Q E s:=by
 unfold Builtin.Dict.entriesForEmpty;refine zb (xO ho L (zb ?_));rw[<- Array.forIn_toList];refine wpAny_forIn_list _ (λrest _ s'=>s'=s/\∃l,es.toList=l++rest) _ ?_ ?_ _ _ ⟨rfl,[],rfl⟩
 ·rintro e rest b s' ⟨rfl, l, el⟩
  have Y:e∈es.toList:=by rw[el];simp
  rw[J] at Y;obtain⟨y,hy,rfl⟩:=zk.mp Y
  have one:(es.filter (·.hash == (entryOfKey knd y).hash)).size<=1:=by
   have t:=Vu (λe:DictEntry=>e.hash) (entryOfKey knd y).hash es.toList (by rw[J,zQ];exact hh)
   rw[<- xJ,Array.toList_filter];exact t
  show wpAny _ _ (Builtin.Dict.quietEq (.ref y.2.1) >>= _) _ _ _;refine zb ?_;unfold Builtin.Dict.quietEq;refine zb (wpAny_specialOf (O y hy) PySem.F.slot_tuple_eq.lookup (zd ?_))
  rw[if_pos q9,if_neg q5]
  exact zd ⟨rfl,l++[entryOfKey knd y],by rw[el];simp⟩
 ·rintro b s' ⟨rfl,_⟩;exact zd hQ
theorem zj6(hu:knd.room A)(ad:d≠o)(aq:(o == sysModules)=false)(hd:s.heap.DictOfH knd d xs)(ho:s.heap.DictOfH knd o ys)
  (am:∀y∈ys,s.TypeIs (.ref y.2.1) "tuple") (hh:xs=[]->(ys.map λy=>knd.hash y.1).Nodup) (hsz:xs.length+ys.length<=sizeLine)
  (hQ:∀h',h'.DictOfH knd d (vY xs ys)->Heap.SameBut d s.heap h'->Q () { s with heap:=h' }):wpAny (model prog w) A (Builtin.Dict.mergeDict nm d o) Q E s:=by
 obtain⟨od,aC,ay,O,ax,J,av,aA,az⟩:=id hd;obtain⟨oo,ae,aD,L,aB,hdo',Y,al,ah⟩:=id ho;have aa:ae.size=ys.length:=size_of_entries Y;have walk:∀(i:Nat) (h':Heap),i<=ys.length->h'.DictOfH knd d (vY xs (ys.take i))->Heap.SameBut d s.heap h'->h'.get? o=some oo:=λi h' _ _ sb=>(sb.2 o (Ne.symm ad)).trans L;unfold Builtin.Dict.mergeDict
 rw[if_neg (by simpa using ad)]
 unfold Builtin.Dict.showsAll
 rw[if_neg (by rw[aq];exact zR)]
 refine zb (zd (zb (xO L hdo' ?_)));dsimp only
 split
 case' isTrue=>
  refine zb (xO O J ?_)
  split
  case isTrue hemp=>
   have hx:xs=[]:=by
    have e0:=size_of_entries av;rw[Array.isEmpty_iff.mp hemp] at e0;exact xb.mp e0.symm
   refine zb (zz6 L hdo' Y am (hh hx) ?_)
   rw[hx,Vl ys [] (by simpa using ah)] at hQ
   split
   ·have hz : ae.size <= sizeLine + 1 := by lia
    refine zb (wpAny_updateDictKeysTo O J (zd (hQ _ ⟨_,_,ay+1,xI _ O (Obj.isFreed_of_dict (Obj.data_mapDictKeys J _)),ax.mapDictKeys _,Obj.data_mapDictKeys J _,by simpa using Y,λx hm=>?_,by simpa using ah⟩ (Heap.SameBut.update ..))) hz)
    exact knd.keeps (al x (by simpa using hm)) O J (Heap.SameBut.update ..)
   ·rename_i ar
    have h0:ae=#[]:=Array.isEmpty_iff.mp (by simpa using ar)
    have hy:ys=[]:=xb.mp (by rw[<- aa,h0];rfl)
    rw[hy] at hQ;rw[hx] at hd;exact zd (hQ _ hd (Heap.SameBut.refl _ _))
 all_goals
  refine zb (wpAny_dictEpoch L hdo' (zb (xO L hdo' (zb ?_))));rw[Std.Legacy.Range.forIn_eq_forIn_range'];simp only[Std.Legacy.Range.size,Nat.sub_zero,Nat.add_sub_cancel,Nat.div_one]
  refine wpAny_forIn_list _ (λrest _ s'=>∃h' i,s'={ s with heap:=h' }/\rest=List.range' i (ys.length-i)/\i<=ys.length/\h'.DictOfH knd d (vY xs (ys.take i))/\Heap.SameBut d s.heap h') _ ?_ ?_ _ _ ⟨s.heap,0,rfl,by rw[aa];rfl,xq _,by simpa [vY] using hd,Heap.SameBut.refl _ _⟩
  ·rintro x rest b s' ⟨h', i, rfl, hr, hi, hd', hs'⟩
   have aj:i<ys.length:=by
    rcases Nat.lt_or_ge i ys.length with h |h
    ·exact h
    ·rw[Nat.sub_eq_zero_of_le h] at hr;exact nomatch hr
   have e0:ys.length-i=(ys.length-(i+1))+1:=q5
   rw[e0,List.range'_succ] at hr;injection hr with ap ao;subst ap ao;have hoo':=walk x h' hi hd' hs';obtain⟨y,hy⟩:∃y,ys[x]?=some y:=⟨ys[x],ze aj⟩;refine zb (xO hoo' hdo' ?_);rw[entry_at Y x,hy];have ai:y∈ys:=zM hy;have ak:knd.is h' y.1 y.2.1:=knd.keeps (al y ai) O J hs'
   have hm:(vY xs (ys.take x)).length<=sizeLine:=by
    have q:=Wd (ys.take x) xs;rw[yi] at q;lia
   refine zb (xr (zi1 (s:={ s with heap:=h' }) hu ak hd' hm λh2 aw af=>?_));have ag:h2.get? o=some oo:=(af.2 o (Ne.symm ad)).trans hoo';refine zb (wpAny_dictEpoch (s:={ s with heap:=h2 }) ag hdo' ?_)
   rw[if_neg (by simp)]
   exact zd ⟨h2,x+1,rfl,rfl,aj,by rw[QF hy];exact aw,hs'.trans af⟩
  ·rintro b s' ⟨h', i, rfl, hr, hi, hd', hs'⟩
   have au:i=ys.length:=by
    rcases Nat.lt_or_ge i ys.length with h |h
    ·rw[show ys.length-i=(ys.length-(i+1))+1 by lia,List.range'_succ] at hr;exact nomatch hr
    ·exact Nat.le_antisymm hi h
   subst au;rw[xY] at hd';exact zd (hQ h' hd' hs')
theorem zT7(hu:knd.room A.in1)(O:d≠o)(L:(o == sysModules)=false)(hd:s.heap.DictOfH knd d xs)(ho:s.heap.DictOfH knd o ys)
  (J:∀y∈ys,s.TypeIs (.ref y.2.1) "tuple") (hh:xs=[]->(ys.map λy=>knd.hash y.1).Nodup) (hsz:xs.length+ys.length<=sizeLine)
  (hQ:∀h',h'.DictOfH knd d (vY xs ys)->Heap.SameBut d s.heap h'->Q .none { s with heap:=h' }):wpAny (model prog w) A (call (.builtin "dict.update") [.ref d,.ref o]) Q E s:=by
 refine call_meetsIn PySem.F.slot_dict_update hd.typeIs PySem.F.entry_dict_update (PySem.F.args_dict_update_2 _ _) (S:=λB R s'=>s'=s/\B=A/\∀h',h'.DictOfH knd d (vY xs ys)->Heap.SameBut d s.heap h'->R (.ok (.ret .none)) { s with heap:=h' }) (.of_wp ?_) ⟨rfl,rfl,λh' h1 Y=>hQ h' h1 Y⟩;rintro B R s' ⟨rfl,rfl,h⟩;unfold Builtin.«dict.update» Builtin.Dict.selfAndRest;refine zb (zb (wpAny_notOrdered_dict hd.typeIs ?_));show wpAny _ _ (pure (d,[Value.ref o])) _ _ s';refine zd ?_;show wpAny _ _ (Builtin.Dict.updateFrom "dict.update" d (.ref o) [] .none) _ _ s';unfold Builtin.Dict.updateFrom;refine zb (wpAny_typeOf ho.typeIs ?_)
 rw[if_neg q9]
 refine zb ?_;unfold Builtin.Dict.merge;refine zb ?_;unfold Builtin.Dict.readDirectly;refine zb (wpAny_isInstance ho.typeIs isSubtype_dict_dict ?_);simp only[Bool.not_true,zY,if_false];refine zb (wpAny_specialOf ho.typeIs F.slot_dict_iter.lookup (zd ?_));simp only[beq_self_eq_true,if_true];refine zb (zd (zj6 hu O L hd ho J hh hsz λh' h1 Y=>?_));show wpAny _ _ (Builtin.Dict.addKeywords d [] >>= _) _ _ _;exact zb (zd (zd ⟨.none,rfl,h h' h1 Y⟩))
end
def KT.drop(r:KT H kvs xs)(k:List Key):KT H (WW kvs k) (Wv xs k):=by
 induction r with
 |nil=>exact .nil
 | @cons p q ps qs J t L =>
  by_cases e:p.1=k
  ·have e' : q.1 = k := J.1 ▸ e;unfold WW Wv
   rw[xo (by simpa using e),xo (by simpa using e')]
   exact L
  ·have e' : ¬ q.1 = k := J.1 ▸ e;unfold WW Wv
   rw[xj (by simpa using e),xj (by simpa using e')]
   exact .cons J L
def zS4(z:kvs.length<=sizeLine)(hd:(a == sysModules)=false)(J:KT H' kvs xs)(dd:h'.DictOfH (tupleKind (wV P w)) a xs) :
  ObjOk P w H' h' a (.dT kvs):=let ⟨o,es,ep,h1,Y,O,h4,_,L⟩:=dd;⟨z,hd,xs,J,o,es,ep,h1,Y,O,h4,L⟩
section
variable {X:Cx}{pins:QqL}{σ:St}{H:Hp}{s:Shared}{a b:Addr}{A:Around}{E:QqV}{kvs more:List (List Key × V)}{k:List Key}{v:V}
def KT.over(e:H a=some (.dT kvs))(r:KT H l xs):KT (upd H a ob) l xs:=
 r.keeps λc ys q=>by rw[xX (λz=>by rw[z,e] at q;cases q)];exact q
def Jh(I:Inv X pins σ H s)(h:SqT X.K H b (k.map kV)):(tupleKind (wV X.prog X.w)).is s.heap k b:=by
 obtain⟨its,r,⟨o,h1,L,n,J⟩,_⟩:=I.tuple h
 exact⟨o,its.toArray,n,h1,L,J,by simpa using Wk r⟩
def xp5(hu:A.units+1<cLine)(I:Inv X pins σ H s)(e:H a=some (.dT kvs))(eb:SqT X.K H b (k.map kV))(l:YK kvs k=some v)
  (h:∀w' s',Inv X pins σ (upd H a (.dT (WW kvs k))) s'->RelV v w'->Q w' s'):wpAny (model X.prog X.w) A (call (.builtin "dict.pop") [.ref a,.ref b]) Q E s:=by
 obtain⟨z,hd,xs,J,dd⟩:=zk9 I.hok e
 obtain⟨w',L,rw'⟩:=RelO.some_of (v:=v) (o:=(atKey xs k).map (·.2)) (by rw[<- l];exact J.val k)
 obtain⟨p,Y,rfl⟩:=Option.map_eq_some_iff.mp L
 refine xR4 (tupleKind_room_in1 hu) (Jh I eb) dd Y (by rw[<- J.length];exact z) λh' t' d' hs=>h _ _ ?_ rw'
 have he:∃q,h'.get? a=some q:=let ⟨q,_,_,O,_⟩:=d';⟨q,O⟩
 exact zA9 I (by rw[e];exact True.intro) hs he (zS4 (zK (wB _ _) z) hd ((J.drop k).over e) d')
def KT.mem(r:KT H l xs):∀x∈xs,∃ks,H x.2.1=some (.tup ks):=by
 induction r with
 |nil=>intro x hx;cases hx
 |@cons p q ps qs L t J=>
  intro x hx
  rcases zj.mp hx with e |hx
  ·subst e;exact⟨_,L.2.1⟩
  ·exact J x hx
def YU(kvs more:List (List Key × V)):List (List Key × V):=more.foldl (λacc J=>zm8 acc J.1 J.2) kvs
def KT.merge(r:KT H more ys):∀{kvs:List (List Key × V)}{xs:List (List Key × Addr × Value)},KT H kvs xs->KT H (YU kvs more) (vY xs ys):=by
 induction r with
 |nil=>exact λq=>q
 |@cons p q ps qs L t J=>
  intro kvs xs r';obtain⟨k,v⟩:=p;obtain⟨k',b,u⟩:=q;obtain⟨rfl,Y,O⟩:=L;exact J (r'.put k Y O)
def KT.keys(r:KT H l xs):l.map (·.1)=xs.map (·.1):=by
 induction r with
 |nil=>rfl
 |@cons p q ps qs L t J=>rw[zD,zD,J,L.1]
def zA5(hu:A.units+1<cLine)(I:Inv X pins σ H s)(e:H a=some (.dT kvs))(eb:H b=some (.dT more))(aa:a≠b)(hz:kvs.length+more.length<=sizeLine)
  (hh:kvs=[]->(more.map λO=>(tupleKind (wV X.prog X.w)).hash O.1).Nodup) (h:∀s',Inv X pins σ (upd H a (.dT (YU kvs more))) s'->Q .none s'):wpAny (model X.prog X.w) A (call (.builtin "dict.update") [.ref a,.ref b]) Q E s:=by
 obtain⟨z,hd,xs,L,dd⟩:=zk9 I.hok e;obtain⟨z2,Y,ys,J,ad⟩:=zk9 I.hok eb
 refine zT7 (tupleKind_room_in1 hu) aa Y dd ad (λy hy=>?_) (λq=>?_) (by rw[<- L.length,<- J.length];exact hz) λh' d' hs=>h _ ?_
 ·obtain⟨ks,hk⟩:=J.mem y hy;obtain⟨_,its,_,o,h1,h2,_⟩:=(show ObjOk X.prog X.w H s.heap y.2.1 (.tup ks) from I.hok _ _ hk);exact⟨o,h1,h2⟩
 ·have e0 : kvs = [] := xb.mp (by rw [L.length, q]; rfl)
  have t:=hh e0
  have k1:(more.map λO=>(tupleKind (wV X.prog X.w)).hash O.1)=(more.map (·.1)).map (tupleKind (wV X.prog X.w)).hash:=by simp
  have k2:(ys.map λO=>(tupleKind (wV X.prog X.w)).hash O.1)=(ys.map (·.1)).map (tupleKind (wV X.prog X.w)).hash:=by simp
  rw[k1,J.keys,<- k2] at t;exact t
 ·have he : ∃ q, h'.get? a = some q := let ⟨q, _, _, hq, _⟩ := d'; ⟨q, hq⟩
  have r3:=J.merge L
  refine zA9 I (by rw[e];exact True.intro) hs he (zS4 ?_ hd (r3.over e) d')
  rw[r3.length];have q:=Wd ys xs;rw[<- L.length,<- J.length] at q;lia
def xf4(K:W.Frag)(td ty:TE):TE:=λσ H Q=>td σ H λx H1=>∃a,x=.ref a/\IsD H1 a/\ty σ H1 λy H2=>∃kvs k b v,H2 a=some (.dT kvs)/\y=.ref b/\SqT K H2 b (k.map kV)/\YK kvs k=some v/\Q v (upd H2 a (.dT (WW kvs k)))
def zJ2(hu:X.A.units+1<cLine)(ho:PE X o td)(he:PE X e ty)(m:M1 X o "pop" apos e cpos):PE X (.Call (.Attribute o "pop" apos) [e] [] cpos) (xf4 X.K td ty):=by
 intro pins s σ H Q I h;refine wpAny_Call_method m.base m.few m.line PySem.F.plainAttrs_dict PySem.F.slot_dict_pop PySem.F.type_dict_pop (thn (ho pins s σ H _ I h) λu s1 ⟨x,H1,J,O,a,ex,d,q1⟩=>?_);subst ex;cases(show u=Value.ref a from O);obtain⟨t1,t2,_⟩:=zy2 J d;refine⟨t1,t2,?_⟩;rw[m.trees];refine Calls.callWith_builtin rfl (Calls.evalArgs_plain (Calls.spliced_cons (thn (he pins s1 σ H1 _ J q1) λiv s2 ⟨y,H2,I2,L,kvs,k,b,v,ea,ey,sq,l,Y⟩=>Calls.spliced_nil ?_)));subst ey;cases(show iv=Value.ref b from L);exact xp5 hu I2 ea sq l λw' s3 I3 rw'=>⟨v,_,I3,rw',Y⟩
def xf3(P:Program)(w:World)(td ty:TE):TE:=λσ H Q=>td σ H λx H1=>∃a,x=.ref a/\IsD H1 a/\ty σ H1 λy H2=>∃kvs more b,H2 a=some (.dT kvs)/\y=.ref b/\a≠b/\H2 b=some (.dT more)/\kvs.length+more.length<=sizeLine /\
 (kvs=[]->(more.map λJ=>(tupleKind (wV P w)).hash J.1).Nodup)/\Q .non (upd H2 a (.dT (YU kvs more)))
def zJ1(hu:X.A.units+1<cLine)(ho:PE X o td)(he:PE X e ty)(m:M1 X o "update" apos e cpos):PE X (.Call (.Attribute o "update" apos) [e] [] cpos) (xf3 X.prog X.w td ty):=by
 intro pins s σ H Q I h;refine wpAny_Call_method m.base m.few m.line PySem.F.plainAttrs_dict PySem.F.slot_dict_update PySem.F.type_dict_update (thn (ho pins s σ H _ I h) λu s1 ⟨x,H1,L,Y,a,ex,d,q1⟩=>?_);subst ex;cases(show u=Value.ref a from Y);obtain⟨t1,t2,_⟩:=zy2 L d;refine⟨t1,t2,?_⟩;rw[m.trees];refine Calls.callWith_builtin rfl (Calls.evalArgs_plain (Calls.spliced_cons (thn (he pins s1 σ H1 _ L q1) λiv s2 ⟨y,H2,I2,O,kvs,more,b,ea,ey,J,eb,hz,hh,q2⟩=>Calls.spliced_nil ?_)));subst ey;cases(show iv=Value.ref b from O);exact zA5 hu I2 ea eb J hz hh λs3 I3=>⟨.non,_,I3,rfl,q2⟩
end
def atP{α:Type}:List (Int × Int)->List α->Int × Int->Option α
 |k::ks,e::es,x=>if k=x then some e else atP ks es x
 |_,_,_=>none
def Xf(ks:List (Int × Int))(x:QqP):List (Int × Int):=ks.filter λk=>decide (k≠x)
def dropE{α:Type}:List (Int × Int)->List α->Int × Int->List α
 |k::ks,e::es,x=>if k=x then dropE ks es x else e::dropE ks es x
 |_,_,_=>[]
def ze7(h:kP x=kP y):x=y:=by
 obtain⟨a,b⟩:=x;obtain⟨c,d⟩:=y;unfold kP at h;injection h with h1 J;injection J with J _;injection h1 with h1;injection J with J;simp only at h1 J;rw[h1,J]
theorem QY:∀(ks:List (Int × Int)) (xs:List V) (x:QqP),YK (qk ks xs) (kP x)=atP ks xs x
 |[],_,_=>by simp[qk,YK,atP]
 |_::_,[],_=>by simp[qk,YK,atP]
 |k::ks,y::xs,x=>by
  have J:=QY ks xs x
  by_cases e:k=x
  ·subst e;simp[qk,YK,atP]
  ·have e':¬ kP k=kP x:=λz=>e (ze7 z);simp only[qk,xF,YK,we,zN e',atP,if_neg e];exact J
theorem Jp:∀(ks:List (Int × Int)) (xs:List V) (x:QqP),WW (qk ks xs) (kP x)=qk (Xf ks x) (dropE ks xs x)
 |[],_,_=>by simp[qk,WW,Xf]
 |_::_,[],_=>by simp[qk,WW,dropE]
 | k :: ks, y :: xs, x => by
  have J:=Jp ks xs x
  by_cases e:k=x
  ·have e' : kP k = kP x := congrArg kP e;simp only[qk,xF,WW,Xf,dropE,if_pos e]
   rw[xo (by simpa using e'),xo (by simpa using e)]
   exact J
  ·have e' : ¬ kP k = kP x := λz => e (ze7 z);simp only[qk,xF,WW,Xf,dropE,if_neg e]
   rw[xj (by simpa using e'),xj (by simpa using e),xF]
   exact congrArg _ J
theorem Js{α:Type}:∀(ks:List (Int × Int)) (xs:List α) (x:QqP),ks.length=xs.length->(Xf ks x).length=(dropE ks xs x).length
  |[],[],_,_=>rfl
  | k :: ks, y :: xs, x, h => by
    have J:=Js ks xs x (by simpa using h)
    by_cases e:k=x
    · simp only [Xf, dropE, if_pos e]
      rw[xo (by simpa using e)]
      exact J
    · simp only [Xf, dropE, if_neg e]
      rw[xj (by simpa using e),zJ,zJ]
      exact congrArg (·+1) J
section
variable {K:W.Frag}{G:QqE}{Z:QqA}{H:Hp}
theorem Reps.dropE:∀{ks:List (Int × Int)}{es:List D}{xs:List V} (x:QqP),Reps K G Z H es xs->Reps K G Z H (L2.dropE ks es x) (L2.dropE ks xs x)
 |[],es,xs,x,h=>by
  cases es<;>cases xs<;>exact .nil
 |k::ks,[],xs,x,h=>by rw[h.nil_inv];exact .nil
 |k::ks,e::es,xs,x,h=>by
  obtain⟨v,r,rfl,q,t⟩:=h.split;have J:=Reps.dropE (ks:=ks) x t
  by_cases c:k=x
  ·simp only[L2.dropE,if_pos c];exact J
  ·simp only[L2.dropE,if_neg c];exact .cons q J
theorem Reps.atP:∀{ks:List (Int × Int)}{es:List D}{xs:List V}{x:QqP}{d:D},Reps K G Z H es xs->L2.atP ks es x=some d->∃v,L2.atP ks xs x=some v/\Rep K G Z H d v
 |[],es,xs,x,d,_,e=>by simp[L2.atP] at e
 |k::ks,[],xs,x,d,_,e=>by simp[L2.atP] at e
 |k::ks,c::es,xs,x,d,h,e=>by
  obtain⟨v,r,rfl,q,t⟩:=h.split
  by_cases z:k=x
  ·simp only[L2.atP,if_pos z] at e ⊢;cases e;exact⟨v,rfl,q⟩
  ·simp only[L2.atP,if_neg z] at e ⊢;exact Reps.atP t e
end
section
variable {A:AC}{os:List (Nat × Addr)}{n:Nat}{rho:Rho}{sg:St}{H:Hp}{ds es:List D}{vs:List V}{i:Nat}{ks:List (Int × Int)}
def AmO.ownT(I:AmO A os n rho sg H ds vs)(hi:rho[i]?=some (some (.owT ks es))) :
  ∃a xs,sg[i]?=some (some (.ref a))/\H a=some (.dT (qk ks xs))/\ks.length=xs.length/\Reps A.K A.G (Zof A os) H es xs /\
   ∀ks' es' xs',ks'.length=xs'.length->Reps A.K A.G (Zof A os) H es' xs'->AmO A os n (rho.set i (some (.owT ks' es'))) sg (upd H a (.dT (qk ks' xs'))) ds vs:=by
 obtain⟨v,J,a,xs,rfl,Y,hH,hl,rs⟩:=I.slot i _ hi;have aa:i<rho.length:=(zm.mp hi).1;have za:Zof A os a:=.inr ⟨_,Y,rfl⟩
 have hf:∀(o:HO) b u,¬ Zof A os b->H b=some u->upd H a o b=some u:=λo b u nz e=>by
  rw[xX λz=>nz (by rw[z];exact za)];exact e
 have uniq:∀j,(j,a)∈os->j=i:=λj O=>by
  by_cases L:j=i
  ·exact L
  ·have key : ∀ (l : List (Nat × Addr)), l.Pairwise (λp q => p.1 ≠ q.1 /\ p.2 ≠ q.2) -> (j, a) ∈ l -> (i, a) ∈ l -> False := by
    intro l
    induction l with
    |nil=>intro _ h;simp at h
    |cons c l ih=>
     intro hp h1 h2;obtain⟨p1,p2⟩:=wF.mp hp
     rcases zj.mp h1 with J |h1<;>rcases zj.mp h2 with e2 |h2
     ·rw[<- e2] at J;exact L (Prod.mk.inj J).1
     ·exact(p1 _ h2).2 (by rw[<- J])
     ·exact(p1 _ h1).2 (by rw[<- e2])
     ·exact ih p2 h1 h2
   exact(key os I.nd O Y).elim
 obtain⟨ae,ad,af⟩:=I.fresh _ Y
 refine⟨a,xs,J,hH,hl,rs,λks' es' xs' hl' r=>⟨by simp[I.len],λj c e=>?_,Reps.mono (λ_ _ z=>z) (hf _) _ _ I.pend,I.nd,λq hq=>?_,λb e=>?_,I.gz,λb u h e=>?_,I.z0⟩⟩
 ·by_cases O : j = i
  ·subst O;rw[zU aa] at e;cases e;exact⟨.ref a,J,a,xs',rfl,Y,yb,hl',Reps.mono (λ_ _ z=>z) (hf _) _ _ r⟩
  ·rw [xg (Ne.symm O)] at e;obtain⟨u,e2,e3⟩:=I.slot j c e
   exact⟨u,e2,SlotR.mono (λ_ _ z=>z) (hf _) (λb ys m q=>⟨m,by rw[xX λz=>O (uniq j (by rw[<- z];exact m))];exact q⟩) _ _ e3⟩
 ·obtain ⟨f1, f2, f3⟩ := I.fresh q hq;refine⟨f1,f2,?_⟩
  by_cases e:q.2=a
  ·rw[e,yb];exact Hot.dT
  ·rw[xX e];exact f3
 ·obtain ⟨x, y, z, q, rr⟩ := I.st b e
  exact⟨x,y,z,by rw[xX λw=>ad (by rw[<- w];exact I.gz b e)];exact q,rr⟩
 ·rw [xX λw => by rw [w, ae] at e; cases e]
  exact I.fr b u h e
end
theorem ze4:∀{ks:List (Int × Int)}{xs ys:List V},ks.length=xs.length->ks.length=ys.length->qk ks xs=qk ks ys->xs=ys
 |[],[],[],_,_,_=>rfl
 |k::ks,x::xs,y::ys,h1,L,h=>by
  simp only[qk,xF] at h;injection h with J h4;injection J with _ J
  rw[J,ze4 (by simpa using h1) (by simpa using L) h4]
section
variable {A:AC}{X:Cx}{e:Expr}{te:TD}{pos:Pos}
def Qv{K:W.Frag}{G:QqE}{Z:QqA}{H:Hp}{v:V}{k:QqP}(r:Rep K G Z H (.tup [.int k.1,.int k.2]) v):∃b,v=.ref b/\SqT K H b ((kP k).map kV):=by
 obtain⟨b,ys,rfl,sq,rs⟩:=r.tup_inv;obtain⟨u1,u2,rfl,L,J⟩:=Ku rs;rw[L.int_inv,J.int_inv] at sq;exact⟨b,rfl,sq.sq⟩
def zU8(i:Nat)(te:TD)(g:TGD):TSD:=λF rho n=>∃ks es,rho[i]?=some (some (.owT ks es))/\te rho n λd J=>∃(k:QqP) (c:D),d=.tup [.int k.1,.int k.2]/\atP ks es k=some c /\
 g c (rho.set i (some (.owT (Xf ks k) (dropE ks es k)))) λrho'=>F.nx rho' J
@[simp] theorem xy1{i te g F rho n}:zU8 i te g F rho n=∃ks es,rho[i]?=some (some (.owT ks es))/\te rho n λd J=>∃(k:QqP) (c:D),d=.tup [.int k.1,.int k.2]/\atP ks es k=some c /\
 g c (rho.set i (some (.owT (Xf ks k) (dropE ks es k)))) λrho'=>F.nx rho' J:=rfl
def zI3{i m l:Nat}{x:Str}{tg:Expr}{g:TGD}{px apos cpos:Pos}(hr:Room l X.A)(hK:X.K=A.K)(he:PD A X e te)(hg:PGD A X m tg g)(hN:X.N[i]?=some x:=by rfl)(hv:Vis X.env.scope x:=by first |exact Or.inl rfl |exact Or.inr (Or.inl rfl) |exact Or.inr (Or.inr rfl))(hd:(x == ("__debug__" : Str))=false:=by decide)
  (ad:(x == ("__classdict__" : Str))=false:=by decide) (mm:M1 X (.Name x px) "pop" apos e cpos:=by exact⟨rfl,rfl,rfl,rfl⟩)
  (hs:swapsWithSole [tg] (.Call (.Attribute (.Name x px) "pop" apos) [e] [] cpos) pos.line X.env=pure false:=by rfl) (hw:swappedStores [tg] (.Call (.Attribute (.Name x px) "pop" apos) [e] [] cpos) X.env=pure none:=by rfl)
  (h1:(assignEach [tg] X.env).map (·.2)=[assign tg X.env]:=by rfl):PSD A X (.Assign [tg] (.Call (.Attribute (.Name x px) "pop" apos) [e] [] cpos) pos) (zU8 i te g):=by
 exists (zd0 (zJ2 (by have:=hr.un;lia) (qp hN hv hd ad) he mm) hg hs hw h1).imp λE sg H h=>by
   obtain⟨rho,n,F,ds,vs,⟨os,I⟩,⟨ks,es,hi,ht⟩,ok⟩:=h;obtain⟨a,xs,e1,hH,hl,rs,_⟩:=I.ownT hi;refine⟨.ref a,e1,a,rfl,.inr ⟨_,.inl hH⟩,rho,n,_,ds,vs,⟨os,I⟩,ht,λv H' n' d ⟨os',J⟩ k=>?_⟩;obtain⟨k,c,rfl,hc,k2⟩:=k;obtain⟨J1,r⟩:=J.pop;obtain⟨a',xs',e2,hH',hl',rs',_⟩:=J1.ownT hi;rw[e1] at e2;cases e2;obtain⟨b,rfl,sq⟩:=Qv r;obtain⟨w,hw',rw'⟩:=rs'.atP hc
   refine⟨qk ks xs',kP k,b,w,hH',rfl,by rw[hK];exact sq,by rw[QY];exact hw',?_⟩
   obtain⟨a3,O,e3,L,aa,Y,up⟩:=(J1.push rw').ownT hi;rw[e1] at e3;cases e3;rw[hH'] at L
   have hx:xs'=O:=ze4 hl' aa (by injection L with z;injection z)
   subst hx;rw[Jp];exact⟨_,n',_,c,ds,vs,⟨os',up _ _ _ (Js _ _ _ hl') (Y.dropE k)⟩,k2,λrho' sg' J' _ k'=>ok.nx _ _ _ _ J' k'⟩
end
section
variable {prog:Program}{w:World}{A:Around}{E:QqV}{s:Shared}{it d:Addr}{i ep:Nat}{od:Obj}{es:Array DictEntry}
def zR3:Builtin.Dict_items.ownsTuple "dict_keyiterator" = false:=q9
def zj0(J:s.heap.IsKeyIter it d i es.size ep)(L:s.heap.get? d=some od)(Y:od.data=.dict es ep)(hi:i<es.size)
  (hQ:∀h',h'.IsKeyIter it d (i+1) es.size ep->Heap.SameBut it s.heap h'->Q (some es[i].key) { s with heap:=h' }):wpAny (model prog w) A (pyNext (.ref it)) Q E s:=by
 obtain⟨o,ho,hc,O⟩:=id J
 have up:(s.heap.update it (Obj.mapFields (·.setIfInBounds 1 (rawInt ((i:Int)+1))))).IsKeyIter it d (i+1) es.size ep:=⟨_,xI _ ho (Obj.isFreed_of_fields (Obj.data_mapFields O _)),(Obj.cls_mapFields ..).trans hc,by rw[Obj.data_mapFields O];simp[rawInt]⟩
 unfold pyNext;refine zb (wpAny_attempt (xy (name:=Str.ofString "__next__") J.typeIs F.slot_dict_keyiterator_next (wj F.slot_dict_keyiterator_next J.typeIs F.entry_dict_keyiterator_next (zb (zd (zb (zb ?_)))) (F.args_dict_keyiterator_next_1 _))))
 first |refine zb (wU J.typeIs (zd (zb (wpAny_fieldsOf ho O ?_)))) |refine zb (yr J.typeIs (zd (zb (wpAny_fieldsOf ho O ?_))))
 simp only[zR3,zY,if_false]
 show wpAny _ _ (if (Value.ref d == Value.none)=true then _ else _) _ _ s
 rw[if_neg (show ¬ ((Value.ref d == Value.none)=true) from λz=>zR z)];refine zb (zd (zb (xO L Y ?_)))
 rw[if_neg (by simp)];refine zb (zd (zb (wpAny_dictEpoch L Y ?_)))
 rw[if_neg (by simp)];refine zd ?_
 simp only[show ¬ ((i:Int)<0) by lia,if_false,yD,xS hi]
 refine zb ?_
 first |refine zb (wU J.typeIs (zd (zb (wpAny_isOneOf_keyiter J.typeIs ?_)))) |refine zb (yr J.typeIs (zd (zb (wpAny_isOneOf_keyiter J.typeIs ?_))))
 show wpAny _ _ (setField (.ref it) 1 (rawInt ((i:Int)+1)) >>= _) _ _ s
 refine zb (wpAny_setField ho O (by simp) (zb (xr (zb (wpAny_isOneOf_keyiter (s:={ s with heap:=s.heap.update it (Obj.mapFields (·.setIfInBounds 1 (rawInt ((i:Int)+1)))) }) up.typeIs ?_)))))
 exact zd (zd ⟨_,rfl,zd (hQ _ up (Heap.SameBut.update ..))⟩)
def zv3(hh:A.handled=none)(J:s.heap.IsKeyIter it d es.size es.size ep)(L:s.heap.get? d=some od)(O:od.data=.dict es ep)
  (hQ:∀h',Heap.ExtBut it s.heap h'->Q none { s with heap:=h' }):wpAny (model prog w) A (pyNext (.ref it)) Q E s:=by
 obtain⟨o,ho,hc,Y⟩:=id J;unfold pyNext;refine zb (wpAny_attempt (xy (name:=Str.ofString "__next__") J.typeIs F.slot_dict_keyiterator_next (wj F.slot_dict_keyiterator_next J.typeIs F.entry_dict_keyiterator_next (zb (zd (zb (zb ?_)))) (F.args_dict_keyiterator_next_1 _))))
 first |refine zb (wU J.typeIs (zd (zb (wpAny_fieldsOf ho Y ?_)))) |refine zb (yr J.typeIs (zd (zb (wpAny_fieldsOf ho Y ?_))))
 simp only[zR3,zY,if_false]
 show wpAny _ _ (if (Value.ref d == Value.none)=true then _ else _) _ _ s
 rw[if_neg (show ¬ ((Value.ref d == Value.none)=true) from λz=>zR z)];refine zb (zd (zb (xO L O ?_)))
 rw[if_neg (by simp)];refine zb (zd (zb (wpAny_dictEpoch L O ?_)))
 rw[if_neg (by simp)];refine zd ?_
 simp only[show ¬ ((es.size:Int)<0) by lia,if_false,yD,wJ (zo es.size)]
 refine zb ?_
 first |refine zb (wU J.typeIs (zd ?_)) |refine zb (yr J.typeIs (zd ?_))
 show wpAny _ _ (setField (.ref it) 0 .none >>= _) _ _ s
 refine zb (wpAny_setField ho Y (by simp) ?_)
 show wpAny _ _ (newExc (.type "StopIteration") [] >>= _) _ _ _;simp only[newExc,newTuple]
 refine zb (zb (xl (zb (m:=firstArgMember _ _) (wpAny_of_eq (a:=Value.none) (by first |rfl |(simp only[firstArgMember];rfl)) (xl ?_ (by size_fits)))) (by size_fits)))
 simp only[raiseNew];refine zb (wpAny_handled ?_);rw[show A.in1.handled=none from hh];refine zb (zd (wpAny_throw ?_));exact zb (wpAny_isInstance (T := "StopIteration") (b:=true) ⟨_,zr _ rfl,rfl⟩ isSubtype_stop (zd (hQ _ (((Heap.SameBut.update ..).extBut.push _).push _))))
end
def EntAt(h:Heap)(d:Addr)(es:Array DictEntry)(ep:Nat):Prop:=∃o,h.get? d=some o/\o.ExactDict/\o.data=.dict es ep
section
variable {prog:Program}{w:World}{A:Around}{E:QqV}{s:Shared}{d:Addr}{ep:Nat}{es:Array DictEntry}
def EntAt.at(x:EntAt h d es ep)(hk:∀o,h.get? d=some o->h'.get? d=some o):EntAt h' d es ep:=let ⟨o,ho,r⟩:=x;⟨o,hk o ho,r⟩
def EntAt.typeIs(x:EntAt s.heap d es ep):s.TypeIs (.ref d) "dict" := let ⟨o,ho,J,_⟩:=x;⟨o,ho,J.1⟩
def xe6(Y:A.handled=none)(I d:Addr)(O:d≠I)(es:Array DictEntry)(ep:Nat) :
  Walks prog w A I [I,d] [I] es.size (λi v=>∃x,es[i]?=some x/\v=x.key) (λi h=>h.IsKeyIter I d i es.size ep/\EntAt h d es ep) where
 sub:=λb J=>by simp at J;simp[J]
 frame:=λ_ _ _ st hk=>⟨st.1.at λo e=>hk I (by simp) o e,st.2.at λo e=>hk d (by simp) o e⟩
 item:=λi s Q E hi st L=>by
  obtain⟨o,ho,hc,hd⟩:=id st.2
  exact zj0 st.1 ho hd hi λh' hit' hs'=>L _ h' s.toks ⟨es[i],xS hi,rfl⟩ ⟨hit',st.2.at λo e=>hs'.extBut d o O e⟩ λb o J e=>hs'.extBut b o (λh=>J (by simp[h])) e
 done:=λs Q E st L=>by
  obtain⟨o,ho,hc,hd⟩:=id st.2
  exact zv3 Y st.1 ho hd λh' he'=>L h' s.toks λb o J e=>he' b o (λh=>J (by simp[h])) e
 self:=λ_ _ _ _ st L=>wpAny_pyIter_keyiter st.1 L
def xE1(hd:(d == sysModules)=false)(L:EntAt s.heap d es ep)
  (O:Q (.ref s.heap.objs.size) { s with heap:=s.heap.push { cls:=.type "dict_keyiterator",data:=.fields #[.ref d,.int 0 0,.int es.size 0,.int ep 0] } }):wpAny (model prog w) A (pyIter (.ref d)) Q E s:=by
 obtain⟨o,ho,Y,J⟩:=id L;refine wpAny_pyIter_slot L.typeIs F.slot_dict_iter (wj F.slot_dict_iter L.typeIs F.entry_dict_iter ?_ (F.args_dict_iter_1 _));unfold Builtin.«dict.__iter__» Builtin.Dict.dictSlotNone;refine zb (zb (wpAny_notOrdered_dict L.typeIs ?_));show wpAny _ _ (pure (Value.ref d)) _ _ s;refine zd ?_;show wpAny _ _ (Builtin.Dict.showsAll d >>= _) _ _ s;unfold Builtin.Dict.showsAll
 rw[if_neg (by rw[hd];exact zR)]
 refine zb (zd (zb (xO ho J (zb (wpAny_dictEpoch ho J (zb (xl (zd ⟨_,rfl,"dict_keyiterator",_,⟨_,zr _ rfl,rfl⟩,F.slot_dict_keyiterator_next.lookup,?_⟩))))))))
 simpa [rawInt] using O
def xN6(lo:(d == sysModules)=false):W.KdlSrc prog w "dict" d d es.size (λi v=>∃x,es[i]?=some x/\v=x.key) (λh=>EntAt h d es ep) where
 type:=λ_ J=>J.typeIs
 there:=λ_ J=>let ⟨_,ho,_⟩:=J;⟨zt ho,zt ho⟩
 keep:=λ_ _ J hk=>J.at λo e=>hk d (.inl rfl) o e
 notList:=q9
 notTuple:=q9
 hint:=λ_ _ _ _ J L=>W.kdl_hint_dict J.typeIs L
 iter:=λ_ _ O J=>⟨_,_,(λ_ _ L=>xE1 lo J L),xe6 O _ d (zA (let ⟨_,ho,_⟩:=J;zt ho)) es ep,⟨⟨_,zr _ rfl,rfl,rfl⟩,J.at λo e=>zh _ e⟩⟩
end
def KeyAts(H:Hp):List (List Key × V)->List Addr->Prop:=Paired λp b=>H b=some (.tup (p.1.map kV))
def KT.ats(r:KT H kvs xs):KeyAts H kvs (xs.map (·.2.1)):=by
 induction r with
 |nil=>exact .nil
 |@cons p q ps qs L t J=>exact .cons L.2.1 J
theorem Kd:∀(bs:List Addr),Vals (bs.map V.ref) (bs.map Value.ref)
 |[]=>.nil
 |b::bs=>.cons rfl (Kd bs)
section
variable {X:Cx}{A:AC}{pos p:Pos}
def QX(hh:X.A.handled=none):kG X (.type "list") (λxs H Q=>∃a kvs,xs=[.ref a]/\H a=some (.dT kvs)/\∀l bs,H l=none->KeyAts H kvs bs->Q (.ref l) (upd H l (.lst (bs.map V.ref)))):=by
 intro pins s σ H xs us Q I r h;obtain⟨a,kvs,rfl,e,q⟩:=h;obtain⟨u,rfl,rx⟩:=ZH r;cases rx;obtain⟨z,hd,ys,aa,dd⟩:=zk9 I.hok e;obtain⟨o,es,ep,ho,hc,ad,J,ae,hn⟩:=dd;have hsz:es.size=ys.length:=size_of_entries J;have hl:=aa.length
 refine W.kdl_call (xN6 (es:=es) (ep:=ep) hd) hh ⟨o,ho,hc,ad⟩ (by rw[hsz,<- hl];exact z) λh' tk acc c' hk hS L=>?_
 have O:acc.toList=(ys.map (·.2.1)).map Value.ref:=by
  refine List.ext_getElem? λj=>?_;rw[wT]
  rcases Nat.lt_or_ge j acc.size with Y |Y
  ·obtain ⟨x, hx, hv⟩ := L.2 j acc[j] (xS Y);rw[xS Y,hv];rw[entry_at J j] at hx
   cases hy:ys[j]? with
   |none=>rw[hy] at hx;cases hx
   |some y=>
    rw[hy] at hx;cases hx;simp[hy,entryOfKey]
  ·rw[wJ Y,List.getElem?_eq_none (by rw[L.1,hsz] at Y;simpa using Y)]
 refine⟨.ref s.heap.objs.size,_,I.laid (t':=tk) (o:=.lst ((ys.map (·.2.1)).map V.ref)) hk (zo _) ?_,rfl,q _ _ (I.hok.fresh (zo _)) aa.ats⟩
 exact⟨by simp only[zg];rw[<- hl];exact z,acc.toList,c',by rw[O];exact Kd _,by rw[yx];exact hS⟩
theorem KeyAts.reps{K:W.Frag}{G:QqE}{Z:QqA}{H:Hp}(hz:∀b ys,H b=some (.tup ys)->¬ Z b):∀{ks:List (Int × Int)}{xs:List V}{bs:List Addr},ks.length=xs.length->KeyAts H (qk ks xs) bs->Reps K G Z H (ks.map λk=>.tup [.int k.1,.int k.2]) (bs.map V.ref)
 |[],[],bs,_,h=>by
  unfold KeyAts qk at h;cases h;exact .nil
 | k :: ks, x :: xs, bs, J, h => by
  unfold KeyAts qk at h;rw[xF] at h
  cases h with
  |@cons _ b _ bs' h1 L=>
   refine .cons (.tup_mk (.inl ⟨hz b _ h1,.inl h1⟩) ?_) (KeyAts.reps hz (by simpa using J) L)
   exact .cons (Rep.ofS (d:=.int k.1) rfl) (.cons (Rep.ofS (d:=.int k.2) rfl) .nil)
def zS7(i:Nat):TD:=λrho n P=>∃ks es,rho[i]?=some (some (.owT ks es))/\P (.lst (ks.map λk=>.tup [.int k.1,.int k.2])) n
@[simp] theorem xt7{i rho n P}:zS7 i rho n P=∃ks es,rho[i]?=some (some (.owT ks es))/\P (.lst (ks.map λk=>.tup [.int k.1,.int k.2])) n:=rfl
def AmO.tupZ{os:List (Nat × Addr)}{n:Nat}{rho:Rho}{sg:St}{H:Hp}{ds:List D}{vs:List V}(I:AmO A os n rho sg H ds vs):∀b ys,H b=some (.tup ys)->¬ Zof A os b:=λb ys e z=>by
 obtain⟨u,e',t⟩:=I.zHot b z;rw[e] at e';cases e';exact t ys rfl
def zd5{i l:Nat}(Y:Room l X.A)(hm:X.mg "list" = none)(hN:X.N[i]?=some x:=by rfl)(O:Vis X.env.scope x:=by first |exact Or.inl rfl |exact Or.inr (Or.inl rfl) |exact Or.inr (Or.inr rfl))(hd:(x == ("__debug__" : Str))=false:=by decide)
  (L:(x == ("__classdict__" : Str))=false:=by decide) (hg:Gl X "list" := by rfl)
  (he:starEach [.Name x px] X.env=(false,eval (.Name x px) X.env)::starEach [] X.env:=by rfl) (J:(backTo pos (starEach [] X.env)).any (·.1)=false:=by rfl):PD A X (.Call (.Name "list" p) [.Name x px] [] pos) (zS7 i):=by
 exists (KC (QX Y.hd) hg hm zD3 (qh (qp hN O hd L) jZ he) q9 q9 he J).imp λsg H Q h=>by
   obtain⟨rho,n,P,ds,vs,⟨os,I⟩,⟨ks,es,hi,k⟩,hQ⟩:=h;obtain⟨a,xs,e1,hH,hl,rs,_⟩:=I.ownT hi;exact⟨.ref a,e1,a,_,rfl,hH,λl bs hl' hb=>hQ _ _ n _ ⟨os,I.newLst (hb.reps I.tupZ hl) hl'⟩ k⟩
def xR5{ep:Nat}(hd:(d == sysModules)=false)(L:EntAt s.heap d es ep)(O:(es.size:Int)<2^63)
  (h:Q (.int es.size (s.toks+1)) { s with toks:=s.toks+1+1 }):wpAny (model prog w) B (call (.builtin "len") [.ref d]) Q E s:=by
 refine Calls.call_function_entry kind_len plain_len entry_len (args_len1 _) ?_;obtain⟨o,ho,Y,J⟩:=id L;unfold Builtin.«len»
 refine zb (m:=oneArg "len" _) (zd (zb (m:=callSpecial? (.ref d) (Str.ofString "__len__")) (xy (name:=Str.ofString "__len__") L.typeIs F.slot_dict_len
  (call_meetsIn F.slot_dict_len L.typeIs F.entry_dict_len (F.args_dict_len_1 _) (S:=λ_ R s'=>s'=s/\R (.ok (.ret (.int es.size s.toks))) { s with toks:=s.toks+1 }) (.of_wp ?_) ⟨rfl,?_⟩))))
 ·rintro C R s' ⟨rfl,q⟩;show wpAny _ _ (dictSize d >>= _) _ _ s';unfold dictSize;refine zb (zb (xO ho J (zd ?_)));show wpAny _ _ (Builtin.Dict.pendingCount d >>= _) _ _ s';refine zb (wpAny_pendingCount_other hd (wpAny_ret_mkInt ?_));rw[Nat.add_zero];exact q
 ·show wpAny _ _ _ _ _ { s with toks := s.toks + 1 };refine zb (xr (zd (zb (yo ?_))))
  show wpAny _ _ (if ((es.size:Nat):Int)<0 then _ else _) _ _ _
  rw[if_neg q5]
  show wpAny _ _ (if ((es.size:Nat):Int)>=2^63 then _ else _) _ _ _
  rw[if_neg q5]
  exact zb (wpAny_mkInt (zd ⟨_,rfl,h⟩))
def zm0:kG X (.builtin "len") (λxs H Q=>∃a kvs,xs=[.ref a]/\H a=some (.dT kvs)/\Q (.int kvs.length) H):=by
 intro pins s σ H xs us Q I r h;obtain⟨a,kvs,rfl,e,q⟩:=h;obtain⟨u,rfl,Y⟩:=ZH r;cases Y;obtain⟨z,hd,ys,O,o,es,ep,ho,hc,L,J,aa,hn⟩:=zk9 I.hok e
 have hsz:es.size=kvs.length:=by rw[size_of_entries J,O.length]
 have hn:=Vn
 exact xR5 hd ⟨o,ho,hc,L⟩ q5 ⟨.int kvs.length,H,I.tok _,⟨s.toks+1,by rw[hsz]⟩,q⟩
def xp9(i:Nat):TD:=λrho n P=>∃ks es,rho[i]?=some (some (.owT ks es))/\P (.int ks.length) n
@[simp] theorem xB3{i rho n P}:xp9 i rho n P=∃ks es,rho[i]?=some (some (.owT ks es))/\P (.int ks.length) n:=rfl
def UA(h:ks.length=xs.length):(qk ks xs).length=ks.length:=by simp[qk,h]
def zX7{i:Nat}(Y:X.mg "len" = none)(hN:X.N[i]?=some x:=by rfl)(O:Vis X.env.scope x:=by first |exact Or.inl rfl |exact Or.inr (Or.inl rfl) |exact Or.inr (Or.inr rfl))(hd:(x == ("__debug__" : Str))=false:=by decide)
  (L:(x == ("__classdict__" : Str))=false:=by decide) (hg:Gl X "len" := by rfl)
  (he:starEach [.Name x px] X.env=(false,eval (.Name x px) X.env)::starEach [] X.env:=by rfl) (J:(backTo pos (starEach [] X.env)).any (·.1)=false:=by rfl):PD A X (.Call (.Name "len" p) [.Name x px] [] pos) (xp9 i):=by
 exists (Uk zm0 hg Y vZ (qh (qp hN O hd L) jZ he) q9 q9 he J).imp λsg H Q h=>by
   obtain⟨rho,n,P,ds,vs,⟨os,I⟩,⟨ks,es,hi,k⟩,hQ⟩:=h;obtain⟨a,xs,e1,hH,hl,rs,_⟩:=I.ownT hi
   exact⟨.ref a,e1,a,_,rfl,hH,by rw[UA hl];exact hQ _ H n _ ⟨os,I.push (Rep.ofS (d:=.int ks.length) rfl)⟩ k⟩
end
section
variable {X:Cx}{pins:QqL}{σ:St}{H:Hp}{s:Shared}{a b:Addr}{B:Around}{E:QqV}{kvs:List (List Key × V)}{k:List Key}{v:V}
def zl0(hu:B.units+1<cLine)(I:Inv X pins σ H s)(e:H a=some (.dT kvs))(Y:SqT X.K H b (k.map kV))(l:YK kvs k=some v)
  (h:∀w' s',Inv X pins σ H s'->RelV v w'->Q w' s'):wpAny (model X.prog X.w) B (getItem (.ref a) (.ref b)) Q E s:=by
 obtain⟨z,hd,xs,J,dd⟩:=zk9 I.hok e
 obtain⟨w',L,rw'⟩:=RelO.some_of (v:=v) (o:=(atKey xs k).map (·.2)) (by rw[<- l];exact J.val k)
 obtain⟨p,O,rfl⟩:=Option.map_eq_some_iff.mp L;exact wpAny_getItem_heap (tupleKind_room_in1 hu) (Jh I Y) dd O (h _ _ (I.tok _) rw')
def xf5(K:W.Frag)(td ty:TE):TE:=λσ H Q=>td σ H λx H1=>ty σ H1 λy H2=>∃a b kvs k v,x=.ref a/\y=.ref b/\H2 a=some (.dT kvs)/\SqT K H2 b (k.map kV)/\YK kvs k=some v/\Q v H2
def zJ3(hu:X.A.units+1<cLine)(ho:PE X o td)(hi:PE X i ty)(hs:xq9 i):PE X (.Subscript o i pos) (xf5 X.K td ty):=by
 intro pins s σ H Q I h;refine zp4 PySem.F.slot_dict_getitem.lookup hs (thn (ho pins s σ H _ I h) λu s1 ⟨x,H1,I1,O,q1⟩=>thn (hi pins s1 σ H1 _ I1 q1) λiv s2 ⟨y,H2,J,L,a,b,kvs,k,v,ex,ey,e,sq,l,Y⟩=>?_);subst ex ey;cases(show u=Value.ref a from O);cases(show iv=Value.ref b from L);exact⟨(zy2 J (.inr ⟨_,.inl e⟩)).1,zl0 hu J e sq l λw' s3 I3 rw'=>⟨v,H2,I3,rw',Y⟩⟩
end
section
variable {A:AC}{X:Cx}{b:Expr}{tb:TD}{pos:Pos}
def xL4(i:Nat)(tb:TD):TD:=λrho n P=>∃ks es,rho[i]?=some (some (.owT ks es))/\tb rho n λd J=>∃(k:QqP) (c:D),d=.tup [.int k.1,.int k.2]/\atP ks es k=some c/\P c J
@[simp] theorem xJ1{i tb rho n P}:xL4 i tb rho n P=∃ks es,rho[i]?=some (some (.owT ks es))/\tb rho n λd J=>∃(k:QqP) (c:D),d=.tup [.int k.1,.int k.2]/\atP ks es k=some c/\P c J:=rfl
def xk4{i l:Nat}{x:Str}{px:Pos}(hr:Room l X.A)(hK:X.K=A.K)(hb:PD A X b tb)(hs:xq9 b)(hN:X.N[i]?=some x:=by rfl)(hv:Vis X.env.scope x:=by first |exact Or.inl rfl |exact Or.inr (Or.inl rfl) |exact Or.inr (Or.inr rfl))(hd:(x == ("__debug__" : Str))=false:=by decide)
  (L:(x == ("__classdict__" : Str))=false:=by decide):PD A X (.Subscript (.Name x px) b pos) (xL4 i tb):=by
 exists (zJ3 (by have:=hr.un;lia) (qp hN hv hd L) hb hs).imp λsg H Q h=>by
   obtain⟨rho,n,P,ds,vs,⟨os,I⟩,⟨ks,es,hi,ht⟩,hQ⟩:=h;obtain⟨a,xs,Y,hH,hl,rs,_⟩:=I.ownT hi;refine⟨.ref a,Y,rho,n,_,ds,vs,⟨os,I⟩,ht,λv H' n' d ⟨os',J⟩ k=>?_⟩;obtain⟨k,c,rfl,hc,k2⟩:=k;obtain⟨J1,r⟩:=J.pop;obtain⟨a',xs',O,hH',hl',rs',_⟩:=J1.ownT hi;rw[Y] at O;cases O;obtain⟨b',rfl,sq⟩:=Qv r;obtain⟨w,hw',rw'⟩:=rs'.atP hc
   exact⟨a,b',_,kP k,w,rfl,rfl,hH',by rw[hK];exact sq,by rw[QY];exact hw',hQ w H' n' c ⟨os',J1.push rw'⟩ k2⟩
end
abbrev TFT:=List D->Nat->(List (Int × Int)->List D->Nat->Prop)->Prop
def spT(K:W.Frag)(k:Nat)(t:TFT):Sp:=λvs H Q _=>∃(G:QqE) (Z:QqA) (n:Nat) (P:List (Int × Int)->List D->Nat->Prop) (ds:List D),ds.length=k/\Reps K G Z H ds vs/\zF2 G n H/\(∀a,G=some a->Z a)/\ZOk K G Z H/\t ds n P /\
 ∀p H' n' ks es xs,(∀a o,G≠some a->H a=some o->H' a=some o)->zF2 G n' H'->H' p=none->ks.length=xs.length->Reps K G Z H' es xs->P ks es n'->Q (.ref p) (upd H' p (.dT (qk ks xs)))
structure FnT(P:Program)(w:World)(K:W.Frag)(mg:QqM)(base:Heap)(x:Str)(kk k:Nat)(t:TFT):Prop where
 ex:∃f fd ps,FnOk P w K mg base CX0 kk f fd ps (spT K k t)/\mg x=some (.ref f)/\W.keepIn K (.ref f)=true/\Binds K fd ps []
section
variable {A:AC}{X:Cx}{e:Expr}{es:List Expr}{t1:TAD}{pos p pos2:Pos}
def AmO.setOwnT{os:List (Nat × Addr)}{n:Nat}{rho:Rho}{sg:St}{H:Hp}{ds es:List D}{vs xs:List V}{i:Nat}{p:Addr}{ks:List (Int × Int)}(I:AmO A os n rho sg H ds vs)(hi:i<rho.length)(L:H p=none)(hl:ks.length=xs.length)(r:Reps A.K A.G (Zof A os) H es xs) :
  ∃os',AmO A os' n (rho.set i (some (.owT ks es))) (sg.set i (some (.ref p))) (upd H p (.dT (qk ks xs))) ds vs:=by
 have O:∀a u,H a=some u->upd H p (.dT (qk ks xs)) a=some u:=λa u e=>by rw[xX (yd e L)];exact e
 refine⟨(i,p)::os.filter λq=>decide (q.1≠i),?_⟩
 have zz:∀a,H a≠none->Zof A ((i,p)::os.filter λq=>decide (q.1≠i)) a->Zof A os a:=λa ha z=>by
  rcases z with z |⟨q,J,e⟩
  ·exact .inl z
  ·rcases zj.mp J with rfl | J
   ·exact absurd (by rw[<- e];exact L) ha
   ·exact .inr ⟨q,(zy.mp J).1,e⟩
 have h0:A.H0 p=none:=by
  cases q:A.H0 p with
  |none=>rfl
  |some o=>
   by_cases e:A.G=some p
   ·obtain⟨x,y,z,w,_⟩:=I.st p e;rw[w] at L;cases L
   ·have:=I.fr p o e q;rw[this] at L;cases L
 refine⟨by simp[I.len],λj c e=>?_,Reps.mono zz (λa u _ e=>O a u e) _ _ I.pend,?_,λq J=>?_,λa e=>?_,I.gz,λa u h e=>O a u (I.fr a u h e),I.z0⟩
 ·by_cases Y : j = i
  ·subst Y;rw[zU hi] at e;cases e
   exact⟨.ref p,zU (by rw[<- I.len];exact hi),p,xs,rfl,xf,yb,hl,Reps.mono zz (λa u _ e=>O a u e) _ _ r⟩
  ·rw [xg (Ne.symm Y)] at e;obtain⟨u,e1,e2⟩:=I.slot j c e
   exact⟨u,by rw[xg (Ne.symm Y)];exact e1,SlotR.mono zz (λa u _ e=>O a u e) (λa ys m q=>⟨zn _ (zy.mpr ⟨m,by simpa using Y⟩),O a _ q⟩) _ _ e2⟩
 ·refine wF.mpr ⟨λq J => ?_, I.nd.filter _⟩;obtain⟨m1,m2⟩:=zy.mp J
  refine⟨λz=>by simp[<- z] at m2,λz=>(I.fresh q m1).2.2.ne ?_⟩
  have z':p=q.2:=z;rw[<- z'];exact L
 ·rcases zj.mp J with rfl | J
  ·exact⟨h0,λz=>(I.z0.1 p z).ne h0,by show Hot (upd H p _ p);rw[yb];exact Hot.dT⟩
  ·obtain⟨f1,f2,f3⟩:=I.fresh q (zy.mp J).1;exact⟨f1,f2,f3.of λu w=>O _ _ w⟩
 ·obtain⟨x,y,z,q,rr⟩:=I.st a e;exact⟨x,y,z,O _ _ q,rr⟩
def xf8(i k:Nat)(t:TFT)(t1:TAD):TSD:=λF rho n=>i<rho.length/\t1 rho n λes L=>es.length=k/\t es L λks vs J=>F.nx (rho.set i (some (.owT ks vs))) J
@[simp] theorem xy0{i k t t1 F rho n}:xf8 i k t t1 F rho n=(i<rho.length/\t1 rho n λes L=>es.length=k/\t es L λks vs J=>F.nx (rho.set i (some (.owT ks vs))) J):=rfl
def zI2{i kk k:Nat}(F:FnT X.prog X.w X.K X.mg X.base y kk k t)(hr:Room kk X.A)(hK:X.K=A.K)(hN:X.N.Nodup)(hi:X.N[i]?=some x)(hx:Loc X.env.scope x)(ha:PAD A X (e::es) t1)(hg:Gl X y:=by rfl)(ad:(y == ("__debug__" : Str))=false:=by decide)
  (he:starEach (e::es) X.env=(false,eval e X.env)::starEach es X.env:=by rfl) (O:(backTo pos (starEach es X.env)).any (·.1)=false:=by rfl) (hf:X.fn x=true\/X.env.scope.names.lookup x=some .local:=by first |exact .inl rfl |exact .inr rfl |assumption)
  (hs:swapsWith (.Call (.Name y p) (e::es) [] pos) (some (.Name x pos')) pos2.line X.env=pure false:=by rfl):PSD A X (.Assign [.Name x pos'] (.Call (.Name y p) (e::es) [] pos) pos2) (xf8 i k t t1):=by
 obtain⟨f,fd,ps,F,hm,hk,hb⟩:=F.ex
 exists (zc9 hN hi hx (Ul F hr hg hm hk hb .nil zJ9 ha ad he O) hs hf).imp λE sg H h=>by
   obtain⟨rho,n,R,ds,vs,I,⟨hl,ht⟩,ok⟩:=h;refine⟨rho,n,_,ds,vs,I,ht,λws H' n' es' ⟨os,J⟩ aa k=>?_⟩;obtain⟨L,rs⟩:=J.split aa;rw[yh,hK];exact⟨A.G,Zof A os,n',_,es',k.1,rs,L.st,λa z=>.inl (L.gz a z),L.zO,k.2,λp H2 n2 ks ae xs fr st hp Y r q=>ok.nx _ _ _ _ ((L.called fr st).setOwnT hl hp Y r) q⟩
end
def WT(k:QqP):Int:=reduceHash (Builtin.Tuple.tupleHashOf [hashInt k.1,hashInt k.2])
def zN0(k:QqP):(tupleKind (wV P w)).hash (kP k)=WT k:=rfl
theorem Zy:∀{ks ks2:List (Int × Int)}{xs xs2:List V},ks.length=xs.length->qk (ks++ks2) (xs++xs2)=qk ks xs++qk ks2 xs2
 |[],_,[],_,_=>rfl
 |k::ks,ks2,x::xs,xs2,h=>by
  have J:=Zy (ks:=ks) (ks2:=ks2) (xs:=xs) (xs2:=xs2) (by simpa using h)
  simp only[qk,List.cons_append,xF] at J ⊢;rw[J]
theorem Wg:∀{ks:List (Int × Int)}{xs:List V},ks.length=xs.length->(qk ks xs).map (·.1)=ks.map kP
 |[],[],_=>rfl
 |k::ks,x::xs,h=>by
  have J:=Wg (ks:=ks) (xs:=xs) (by simpa using h)
  simp only[qk,xF,zD] at J ⊢;rw[J]
def zH9{kvs:List (List Key × V)}{k:List Key}{v:V}(h:k ∉ kvs.map (·.1)):zm8 kvs k v=kvs++[(k,v)]:=by
 unfold zm8;rw[if_neg];intro z;obtain⟨x,hx,e⟩:=yj.mp z
 exact h (zk.mpr ⟨x,hx,by simpa using e⟩)
theorem Vk:∀(more kvs:List (List Key × V)),((kvs++more).map (·.1)).Nodup->YU kvs more=kvs++more
 |[],kvs,_=>by simp[YU]
 | m :: more, kvs, h => by
  have h0:m.1 ∉ kvs.map (·.1):=by
   rw[zE,wM] at h
   exact λz=>h.2.2 _ z _ (by simp) rfl
  have e:YU kvs (m::more)=YU (zm8 kvs m.1 m.2) more:=rfl
  rw[e,zH9 h0,Vk more (kvs++[(m.1,m.2)]) (by simpa using h)]
  simp
def zL3{ks:List (Int × Int)}(h:ks.Nodup):(ks.map kP).Nodup:=by
 induction ks with
 |nil=>exact nodup_nil
 |cons k ks J=>
  obtain⟨h1,O⟩:=xC.mp h;refine xC.mpr ⟨λz=>?_,J O⟩;obtain⟨y,L,e⟩:=zk.mp z;exact h1 (ze7 e ▸ L)
def zZ9{α β γ:Type}(f:α->γ)(l:List (α × β)):(l.map λx=>f x.1)=(l.map (·.1)).map f:=by simp
def xa0{α β γ:Type}(f:β->γ)(g:α->β)(h:α->γ)(e:∀x,f (g x)=h x)(l:List α):(l.map g).map f=l.map h:=by
 induction l with
 |nil=>rfl
 |cons x l J=>rw[zD,zD,zD,J,e]
def xo6(h:ks.length=xs.length):((qk ks xs).map λJ=>(tupleKind (wV P w)).hash J.1)=ks.map WT:=by
 rw[zZ9 (tupleKind (wV P w)).hash (qk ks xs),Wg h];exact xa0 _ _ _ zN0 ks
def zj5(nd:(ks++ks2).Nodup)(h:ks.length=xs.length)(J:ks2.length=xs2.length):YU (qk ks xs) (qk ks2 xs2)=qk (ks++ks2) (xs++xs2):=by
 rw[Vk _ _ (by rw[<- Zy h,Wg (by rw[zu,zu,h,J])];exact zL3 nd),Zy h]
section
variable {A:AC}{X:Cx}{e:Expr}{es:List Expr}{t1:TAD}{pos p pos2:Pos}
def xf7(i k:Nat)(t:TFT)(t1:TAD):TSD:=λF rho n=>∃ks es,rho[i]?=some (some (.owT ks es))/\t1 rho n λas O=>as.length=k/\t as O λks2 J L=>(ks++ks2).Nodup/\ks.length+ks2.length<=sizeLine/\(ks=[]->(ks2.map WT).Nodup) /\
 F.nx (rho.set i (some (.owT (ks++ks2) (es++J)))) L
@[simp] theorem xx9{i k t t1 F rho n}:xf7 i k t t1 F rho n=∃ks es,rho[i]?=some (some (.owT ks es))/\t1 rho n λas O=>as.length=k/\t as O λks2 J L=>(ks++ks2).Nodup/\ks.length+ks2.length<=sizeLine/\(ks=[]->(ks2.map WT).Nodup) /\
 F.nx (rho.set i (some (.owT (ks++ks2) (es++J)))) L:=rfl
def zI1{i kk k:Nat}(F:FnT X.prog X.w X.K X.mg X.base y kk k t)(hr:Room kk X.A)(hK:X.K=A.K)(ha:PAD A X (e::es) t1)(hN:X.N[i]?=some x:=by rfl)(hv:Vis X.env.scope x:=by first |exact Or.inl rfl |exact Or.inr (Or.inl rfl) |exact Or.inr (Or.inr rfl))
  (hd:(x == ("__debug__" : Str))=false:=by decide) (ai:(x == ("__classdict__" : Str))=false:=by decide) (hg:Gl X y:=by rfl) (ah:(y == ("__debug__" : Str))=false:=by decide)
  (he:starEach (e::es) X.env=(false,eval e X.env)::starEach es X.env:=by rfl) (af:(backTo cp (starEach es X.env)).any (·.1)=false:=by rfl)
  (mm:M1 X (.Name x px) "update" apos (.Call (.Name y p) (e::es) [] cp) cpos:=by exact⟨rfl,rfl,rfl,rfl⟩)
  (ae:swapsWith (.Call (.Attribute (.Name x px) "update" apos) [.Call (.Name y p) (e::es) [] cp] [] cpos) none pos.line X.env=pure false:=by rfl) :
  PSD A X (.Expr (.Call (.Attribute (.Name x px) "update" apos) [.Call (.Name y p) (e::es) [] cp] [] cpos) pos) (xf7 i k t t1):=by
 obtain⟨f,fd,ps,F,hm,hk,hb⟩:=F.ex
 exists (zr8 (zJ1 (by have:=hr.un;lia) (qp hN hv hd ai) (Ul F hr hg hm hk hb .nil zJ9 ha ah he af) mm) ae).imp λE sg H h=>by
   obtain⟨rho,n,R,ds,vs,⟨os,I⟩,⟨ks,es,hi,ht⟩,ok⟩:=h;obtain⟨a,xs,e1,hH,hl,rs,_⟩:=I.ownT hi;refine⟨.ref a,e1,a,rfl,.inr ⟨_,.inl hH⟩,rho,n,_,ds,vs,⟨os,I⟩,ht,λws H' n' es' ⟨os',J⟩ ag k=>?_⟩;obtain⟨J1,rs'⟩:=J.split ag;rw[yh,hK];refine⟨A.G,Zof A os',n',_,es',k.1,rs',J1.st,λa z=>.inl (J1.gz a z),J1.zO,k.2,λp H2 n2 ks2 al xs2 fr st hp L r q=>?_⟩;obtain⟨nd,hz,hh,q⟩:=q;have J2:=J1.called fr st;obtain⟨a4,am,e4,aa,_⟩:=J2.ownT hi;obtain⟨a3,Y,e3,ak,O,ad,up⟩:=(J2.grow (o:=.dT (qk ks2 xs2)) hp).ownT hi;rw[e1] at e3 e4;cases e3;cases e4
   have aj:a≠p:=λz=>by rw[z,hp] at aa;cases aa
   have z1:=UA O;have z2:=UA L
   refine⟨qk ks Y,qk ks2 xs2,p,ak,rfl,aj,yb,by rw[z1,z2];exact hz,λe0=>?_,?_⟩
   ·have e5 : ks = [] := xb.mp (by rw [<- z1, e0]; rfl)
    rw[xo6 L];exact hh e5
   ·rw [zj5 nd O L]
    refine ok.nx _ _ _ _ ⟨os',up (ks++ks2) (es++al) (Y++xs2) (by rw[zu,zu,O,L]) (ad.append ?_)⟩ q
    exact Reps.mono (λ_ _ z=>z) (λa u _ e=>by rw[xX (yd e hp)];exact e) _ _ r
end
def xq7(acc:List (List Key × Addr × V)):List (List Key × V):=acc.map λx=>(x.1,x.2.2)
def xL8(P:Program)(w:World)(ob:Obj)(xs:List (List Key × Addr × Value)):Prop:=ob.ExactDict/\∃es ep,ob.data=.dict es ep/\es.toList=xs.map (entryOfKey (tupleKind (wV P w)))/\(xs.map (·.1)).Nodup
section
variable {X:Cx}{scope:Scope}{own M:List Str}{pins:QqL}{σ:St}{H2:Hp}{s2:Shared}{tg iter kx vx:Expr}{ifs:List Expr}{pos:Pos}{g:TG}{tt:TT}{tk tv:TE}
section
variable {κ:Type}{kf:κ->List Key}
abbrev KF(kf:κ->List Key):List (κ × Addr × V)->List (List Key × Addr × Value)->Prop:=Paired λp q=>kf p.1=q.1/\p.2.1=q.2.1/\RelV p.2.2 q.2.2
def KF.back(r:KF kf acc xs):∀x∈xs,∃p∈acc,kf p.1=x.1/\p.2.1=x.2.1:=by
 induction r with
 |nil=>intro x hx;cases hx
 |@cons p q ps qs J t L=>
  intro x hx
  rcases zj.mp hx with e |hx
  ·subst e;exact⟨p,xf,J.1,J.2.1⟩
  ·obtain⟨p',h1,O⟩:=L x hx;exact⟨p',zn _ h1,O⟩
def KF.keys(r:KF kf acc xs):acc.map (λx=>kf x.1)=xs.map (·.1):=by
 induction r with
 |nil=>rfl
 |@cons p q ps qs L t J=>rw[zD,zD,J,L.1]
def KF.put(r:KF kf acc xs)(k:κ)(b:Addr)(h:RelV v u):KF kf (acc++[(k,b,v)]) (xs++[(kf k,b,u)]):=by
 induction r with
 |nil=>exact .cons ⟨rfl,rfl,h⟩ .nil
 |@cons p q ps qs L t J=>exact .cons L J
abbrev DtO(kf:κ->List Key)(P:Program)(w:World)(acc:List (κ × Addr × V))(ob:Obj):Prop:=∃vs,xL8 P w ob vs/\KF kf acc vs
def xc5{X':Cx}{pf:QqL}{D:Addr}{ob:Obj}{acc:List (κ × Addr × V)}{σ:St}{H:Hp}{s:Shared}{v:V}{y ky:Value}{k:κ}{b:Addr}{z:V}{post:Shared->Prop}(inj:∀a b,kf a=kf b->a=b)(L:X'.A.units<cLine)(I:Inv X' ((D,ob)::pf) σ H s)(f:∀{H:Hp},H D=none->FpOk X' pf H D)(d:DtO kf X'.prog X'.w acc ob)(gz:acc.length<sizeLine)
  (tup:∀x∈acc++[(k,b,v)],(tupleKind (wV X'.prog X'.w)).is s.heap (kf x.1) x.2.1) (J:k ∉ acc.map (·.1)) (ek:z=.ref b) (Y:RelV z ky) (r:RelV v y)
  (c:∀{ob' s'},DtO kf X'.prog X'.w (acc++[(k,b,v)]) ob'->Inv X' ((D,ob')::pf) σ H s'->post s'):wpAny (model X'.prog X'.w) X'.A (dictSet D ky y) (λ_=>post) (λ_ _=>False) s:=by
 subst ek;cases(show ky=Value.ref b from Y);obtain⟨vs,⟨hc,es,ep,h1,h2,h3⟩,rv⟩:=d;have hl:=rv.length;have O:=I.pinAt (.head _)
 have no:atKey vs (kf k)=none:=zg4 (by
  rw[<- rv.keys];intro z;obtain⟨x,hx,e⟩:=zk.mp z
  exact J (zk.mpr ⟨x,hx,inj _ _ e⟩))
 refine wpAny_dictSet_heap (hsz:=by lia) (knd:=tupleKind (wV X'.prog X'.w)) L (tup (k,b,v) (by simp)) ⟨ob,es,ep,O.1,hc,h1,h2,λx hx=>?_,h3⟩ λh' dd' hs=>?_
 ·obtain⟨p,hp,e1,e2⟩:=rv.back x hx;rw[<- e1,<- e2];exact tup p (xv _ hp)
 ·obtain ⟨ob', es', ep', ho', hc', hd', he', hi', hn'⟩ := dd';rw[storedH_new no] at he' hi' hn'
  exact c ⟨_,⟨hc',es',ep',hd',he',hn'⟩,rv.put k b r⟩ (I.bump (t:=s.toks+(tupleKind (wV X'.prog X'.w)).draws (kf k)) (f O.2) hs ho' λv z=>by rw[hd'] at z;cases z)
def Qh(Y:Hp->Addr->κ->Prop)(HD:Addr->List (κ × Addr × V)->HO)(wi:TI)(own:Nat)(g:TG)(tt:TT)(tk tv:TE):TE:=λσ H Q=>wi σ H λJ H1=>∃W:Nat->Nat->List (κ × Addr × V)->Hp->Prop,(∃m,W 0 m [] H1)/\(∀i m acc H,W i m acc H->∀x∈acc,Y H x.2.1 x.1)/\∀i m acc H,W i m acc H ->
 (J.stop i H/\acc.length<=sizeLine/\∀D,H D=none->Q (.ref D) (upd H D (HD D acc))) \/
 (J.go i H /\ acc.length < sizeLine /\ ∀ x H', J.yld i H x H' -> g x (List.replicate own none ++ σ) H' λL H2 => L.drop own = σ /\ tt L H2 λc O =>
  if c=true then tk L O λy H4=>tv L H4 λv H5=>∃k b m',y=.ref b/\k ∉ acc.map (·.1)/\m'<m/\W (i+1) m' (acc++[(k,b,v)]) H5 else ∃m',m'<m/\W (i+1) m' acc O)
variable {X:Cx}{scope:Scope}{own M:List Str}{tg iter kx vx:Expr}{ifs:List Expr}{pos:Pos}{g:TG}{tt:TT}{tk tv:TE}
def KB{wi:TI}{KI:Hp->Addr->κ->Prop}{HD:Addr->List (κ × Addr × V)->HO}(inj:∀a b,kf a=kf b->a=b)(ad:∀{X':Cx} {pins σ H s b k},X'.K=X.K->Inv X' pins σ H s->KI H b k->(tupleKind (wV X'.prog X'.w)).is s.heap (kf k) b)
  (okD:∀{acc H D h ob},acc.length<=sizeLine->(∀x∈acc,KI H x.2.1 x.1)->(D == sysModules)=false->H D=none->h.get? D=some ob->DtO kf X.prog X.w acc ob->ObjOk X.prog X.w (upd H D (HD D acc)) h D (HD D acc))
  (ok:CompOk X scope M) (ae:X.A.units<cLine) (hc:X.calm=true) (hi:PI X tg iter wi) (hg:∀C s2 H2 fp,PG (wa X scope own M C s2 H2 fp) tg g) (ht:∀C s2 H2 fp,PTs (wa X scope own M C s2 H2 fp) ifs tt)
  (af:∀C s2 H2 fp,PE (wa X scope own M C s2 H2 fp) kx tk) (he:∀C s2 H2 fp,PE (wa X scope own M C s2 H2 fp) vx tv) (hs:∀x,foldedSetIterable iter X.env x=pure x:=by intro _;rfl) :
  PE X (.DictComp kx vx [⟨tg,iter,ifs,0⟩] scope pos) (Qh KI HD wi own.length g tt tk tv):=by
 intro pins s σ H Q I h;rw[Vv]
 refine wW (use:=none) rfl hs (Yb (ok.cells I)) ok.kind (λx hx hl=>by rw[ok.uniq x hx,hl]) ?_
 refine thn (hi pins s σ H _ I h) λv s1 h1=>thn h1 λah s2 ⟨it,fp,tn,J,H2,e,I2,T,aa,f2,W,w0,wk,turn⟩=>?_;subst e;refine xl (qN ?_);have Y:=(zf4 (P:=X.prog) (w:=X.w) (H:=H2) s2.heap I2.big).2.1;dsimp only;rw[wc]
 exact UL (ho:=HD) (DO:=DtO kf X.prog X.w) (λ_ _ ⟨_,⟨_,_,_,e,_⟩,_⟩ v z=>by rw[e] at z;cases z) ⟨[],⟨⟨rfl,rfl,rfl⟩,#[],0,rfl,rfl,nodup_nil⟩,.nil⟩ rfl ok hc (hg _ _ _ _) (ht _ _ _ _) (λ_=>vQ) I2 T aa f2 w0 turn (λi m acc H ob h w hz d hn ho=>okD hz (wk _ _ _ _ w) Y hn ho d)
  (λR L turn n s h=>Vw (kx:=kx) (vx:=vx) (iter:=iter) (scope:=scope) (pos:=pos) L turn n h) (λ_ _ h k=>codeAny_compStart_dict h (k _))
  (λpf σ6 H7 s7 i n acc ob I7 d gz fD kd q7 post fin => thn (af _ _ _ _ _ s7 σ6 H7 _ I7 q7) λy s8 ⟨v, H8, I8, r8, q8⟩ => thn (he _ _ _ _ _ s8 σ6 H8 _ I8 q8) λy2 s9 ⟨v2, H9, I9, r9, kk, b, m', ek, O, hm, w8⟩ =>
   xc5 (X':=cxC X scope own M s2 H2 fp) inj ae I9 fD d gz (λx hx=>ad (X':=cxC X scope own M s2 H2 fp) rfl I9 (wk _ _ _ _ w8 x hx)) O ek r8 r9 λd' I'=>fin hm w8 d' (vQ kd) I') (λH' s' m IY q hm ag c2 c1 c3 c4=>⟨m,hm,λh' hs'=>⟨.ref s2.heap.objs.size,H',IY.turned (t':=s'.toks) (λb o hb e=>hs'.extBut b o hb e) ag c2 (.inr c1) c3 c4,rfl,q⟩⟩) rfl
end
section
variable {X:Cx}{scope:Scope}{own M:List Str}{tg iter kx vx:Expr}{ifs:List Expr}{pos:Pos}{g:TG}{tt:TT}{tk tv:TE}
def xD9(r:KF id acc xs):(∀x∈acc,H x.2.1=some (.tup (x.1.map kV)))->KT H (xq7 acc) xs:=by
 induction r with
 |nil=>exact λ_=>.nil
 |@cons p q ps qs J t L=>exact λh=>.cons ⟨J.1,by rw[<- J.2.1];exact h p xf,J.2.2⟩ (L λx hx=>h x (zn _ hx))
abbrev zp0:=Qh (κ:=List Key) (λH b k=>H b=some (.tup (k.map kV))) (λ_ acc=>.dT (xq7 acc))
def zs4(ok:CompOk X scope M)(L:X.A.units<cLine)(Y:X.calm=true)(hi:PI X tg iter wi)(hg:∀C s2 H2 fp,PG (wa X scope own M C s2 H2 fp) tg g)(ht:∀C s2 H2 fp,PTs (wa X scope own M C s2 H2 fp) ifs tt)
  (O:∀C s2 H2 fp,PE (wa X scope own M C s2 H2 fp) kx tk) (he:∀C s2 H2 fp,PE (wa X scope own M C s2 H2 fp) vx tv) (hs:∀x,foldedSetIterable iter X.env x=pure x:=by intro _;rfl) :
  PE X (.DictComp kx vx [⟨tg,iter,ifs,0⟩] scope pos) (zp0 wi own.length g tt tk tv):=
 KB (kf:=id) (λ_ _ e=>e) (λ_ I e=>ze5 I.hok e) (λ{acc H D h ob} hz wk J hn ho ⟨vs,⟨Y,es,ep,h1,h2,h3⟩,rv⟩=>⟨by unfold xq7;rw[zg];exact hz,J,vs,xD9 rv λx hx=>by rw[xX (λz=>by have:=wk x hx;rw[z,hn] at this;cases this)];exact wk x hx,ob,es,ep,ho,Y,h1,h2,h3⟩) ok L Y hi hg ht O he hs
end
end
abbrev TDT:=Rho->Nat->(List (Int × Int)->List D->Nat->Prop)->Prop
def xF7(A:AC)(t:TDT):TE:=λsg H Q=>∃rho n P ds vs,Am A n rho sg H ds vs/\t rho n P /\
 ∀p H' n' ks es xs os,AmO A os n' rho sg H' ds vs->Reps A.K A.G (Zof A os) H' es xs->H' p=none->ks.length=xs.length->P ks es n'->Q (.ref p) (upd H' p (.dT (qk ks xs)))
@[irreducible] def PDT(A:AC)(X:Cx)(e:Expr)(t:TDT):Prop:=PE X e (xF7 A t)
def zg9:List (Int × Int)->List Addr->List V->List (List Key × Addr × V)
 |k::ks,b::bs,x::xs=>(kP k,b,x)::zg9 ks bs xs
 |_,_,_=>[]
theorem zg6:∀{ks:List (Int × Int)}{bs:List Addr}{xs:List V},ks.length=bs.length->ks.length=xs.length->(zg9 ks bs xs).length=ks.length
 |[],[],[],_,_=>rfl
 |k::ks,b::bs,x::xs,h1,J=>by
  show(zg9 ks bs xs).length+1=ks.length+1
  rw[zg6 (by simpa using h1) (by simpa using J)]
theorem JO:∀{ks:List (Int × Int)}{bs:List Addr}{xs:List V},ks.length=bs.length->ks.length=xs.length->(zg9 ks bs xs).map (·.1)=ks.map kP
 |[],[],[],_,_=>rfl
 |k::ks,b::bs,x::xs,h1,J=>by
  show kP k::(zg9 ks bs xs).map (·.1)=kP k::ks.map kP
  rw[JO (by simpa using h1) (by simpa using J)]
theorem zg7:∀{ks:List (Int × Int)}{bs:List Addr}{xs:List V},ks.length=bs.length->ks.length=xs.length->xq7 (zg9 ks bs xs)=qk ks xs
 |[],[],[],_,_=>rfl
 |k::ks,b::bs,x::xs,h1,J=>by
  show(kP k,x)::xq7 (zg9 ks bs xs)=(kP k,x)::qk ks xs
  rw[zg7 (by simpa using h1) (by simpa using J)]
theorem JN:∀{ks:List (Int × Int)}{bs:List Addr}{xs:List V} (k:QqP) (b:Addr) (x:V),ks.length=bs.length->ks.length=xs.length->zg9 (ks++[k]) (bs++[b]) (xs++[x])=zg9 ks bs xs++[(kP k,b,x)]
 |[],[],[],_,_,_,_,_=>rfl
 |k'::ks,b'::bs,x'::xs,k,b,x,h1,J=>by
  show(kP k',b',x')::zg9 (ks++[k]) (bs++[b]) (xs++[x])=(kP k',b',x')::(zg9 ks bs xs++[(kP k,b,x)])
  rw[JN k b x (by simpa using h1) (by simpa using J)]
def Rep.prT_inv{K:W.Frag}{G:QqE}{Z:QqA}{H:Hp}{v:V}{k:QqP}(h:Rep K G Z H (.prT k) v):∃b,v=.ref b/\¬ Z b/\H b=some (.tup [.int k.1,.int k.2]):=by unfold Rep at h;exact h
theorem zg5{K:W.Frag}{G:QqE}{Z:QqA}{H:Hp}:∀{ks:List (Int × Int)}{bs:List Addr}{xs:List V},Reps K G Z H (ks.map D.prT) (bs.map V.ref)->∀x∈zg9 ks bs xs,H x.2.1=some (.tup (x.1.map kV))
 |[],_,_,_,x,hx=>by cases hx
 |_::_,[],_,_,x,hx=>by cases hx
 |_::_,_::_,[],_,x,hx=>by cases hx
 |k::ks,b::bs,y::xs,r,x,hx=>by
  obtain⟨v,r',e,q,t⟩:=Reps.split r;rw[zD] at e;cases e
  rcases zj.mp hx with e |hx
  ·subst e;obtain⟨b',e,_,h⟩:=q.prT_inv;cases e;exact h
  ·exact zg5 t x hx
def zf5(own:Nat)(g:TGD)(tt:TBD)(tk tv:TD)(rho:Rho)(P:List (Int × Int)->List D->Nat->Prop)(items:List D)(n1:Nat):Prop:=items.length<=sizeLine/\∃J:Nat->List (Int × Int)->List D->Nat->Prop,J 0 [] [] n1 /\
 (∀i d ks es n,items[i]?=some d->J i ks es n->g d (replicate own none++rho) λrho'=>rho'.drop own=rho/\tt rho' n λc L=>if c=true then tk rho' L λdk Y=>tv rho' Y λdv O=>∃k,dk=.prT k/\k ∉ ks/\J (i+1) (ks++[k]) (es++[dv]) O else J (i+1) ks es L) /\
 ∀ks es n,J items.length ks es n->P ks es n
def QR(it:TID)(own:Nat)(g:TGD)(tt:TBD)(tk tv:TD):TDT:=λrho n P=>it rho n (zf5 own g tt tk tv rho P)
section
variable {A:AC}{X:Cx}{it:TID}{g:TGD}{tt:TBD}{tk tv:TD}{tg iter kx vx:Expr}{ifs:List Expr}{scope:Scope}{own M:List Str}{pos:Pos}
def zh8{sg:St}{H:Hp}{Q:VK}{m:Nat}(h:xF7 A (QR it m g tt tk tv) sg H Q):zp0 (iOf A it) m (gOf A m g) (VF A tt) (tOf A tk) (tOf A tv) sg H Q:=by
 obtain⟨rho,n,P,ds,vs,I,ht,hQ⟩:=h;refine⟨rho,n,_,ds,vs,I,ht,λJ H' n' items es ws I1 hl hJ k=>?_⟩;obtain⟨hsz,W,w0,turn,fin⟩:=k
 refine⟨λi mm acc H=>mm=items.length-i/\i<=items.length/\∃ks bs L xs n,acc=zg9 ks bs xs/\ks.length=bs.length/\ks.length=xs.length/\ks.length<=i/\xs.length=L.length/\Am A n rho sg H (es++(ks.map D.prT++(L++ds))) (ws++(bs.map V.ref++(xs++vs)))/\W i ks L n,
  ⟨items.length,rfl,xq _,[],[],[],[],n',rfl,rfl,rfl,zo _,rfl,I1,w0⟩,?_,?_⟩
 ·rintro i mm acc H3 ⟨rfl, hi, ks, bs, L, xs, n3, rfl, O, Y, al, ad, ⟨os, I3⟩, w3⟩ x hx;obtain⟨I4,r1⟩:=I3.split hl
  obtain⟨I5,r2⟩:=I4.split (by simpa using O.symm)
  exact zg5 r2 x hx
 rintro i mm acc H3 ⟨rfl,hi,ks,bs,L,xs,n3,rfl,O,Y,al,ad,⟨os,I3⟩,w3⟩;have ax:(zg9 ks bs xs).length=ks.length:=zg6 O Y
 have ag:(bs.map V.ref).length=(ks.map D.prT).length:=by simpa using O.symm
 obtain⟨j1,j2⟩:=hJ n3 rho sg H3 (ks.map D.prT++(L++ds)) (bs.map V.ref++(xs++vs)) i ⟨os,I3⟩
 by_cases aa:i<items.length
 ·refine .inr ⟨(j1 items[i] (by simp [aa])).1, by lia, λx H4 y => ?_⟩
  obtain⟨aw,I4⟩:=(j1 items[i] (by simp[aa])).2 x H4 y
  refine⟨replicate m none++rho,n3,_,items[i],_,_,⟨_,I4.front m⟩,turn i items[i] ks L n3 (by simp[aa]) w3,λrho' sg' ⟨ak,I5⟩ e5 k5=>?_⟩
  obtain⟨k5,k6⟩:=k5
  have e6:sg'.drop m=sg:=by rw[e5,wR (by simp)]
  refine⟨e6,rho',n3,_,_,_,⟨ak,I5⟩,k6,λc H6 n6 ⟨aj,I6⟩ k7=>?_⟩
  cases c with
  |false=>
   obtain⟨ai,I7⟩:=I6.back k5 e6
   exact⟨items.length-(i+1),q5,rfl,aa,ks,bs,L,xs,n6,rfl,O,Y,q5,ad,⟨ai,I7⟩,k7⟩
  | true =>
   rw[if_pos rfl] at k7 ⊢;refine⟨rho',n6,_,_,_,⟨aj,I6⟩,k7,λvk H8 n8 dk I8 k8=>?_⟩;refine⟨rho',n8,_,_,_,I8,k8,λv H9 n9 d ⟨av,I9⟩ k9=>?_⟩;obtain⟨kk,rfl,af,w9⟩:=k9;obtain⟨ae,au⟩:=I9.back k5 e6;obtain⟨ar,rv⟩:=au.pop;obtain⟨aq,rk⟩:=ar.pop;obtain⟨ap,r1⟩:=aq.split hl;obtain⟨ao,r2⟩:=ap.split ag;obtain⟨am,r3⟩:=ao.split ad;obtain⟨b,rfl,_⟩:=rk.prT_inv
   refine⟨kP kk,b,items.length-(i+1),rfl,?_,q5,rfl,aa,ks++[kk],bs++[b],L++[d],xs++[v],n9,(JN kk b v O Y).symm,by simp[O],by simp[Y],by simp;lia,by simp[ad],⟨ae,?_⟩,w9⟩
   ·rw[JO O Y];intro z;obtain⟨y,hy,e⟩:=zk.mp z;exact af (ze7 e ▸ hy)
   ·have ah : Reps A.K A.G (Zof A ae) H9 ((ks ++ [kk]).map D.prT) ((bs ++ [b]).map V.ref) := by
     rw[zE,zE];exact r2.append (.cons rk .nil)
    exact((am.join (r3.append (.cons rv .nil))).join ah).join r1
 ·have e : i = items.length := by lia
  subst e
  refine .inl ⟨j2 (zo _),q5,λp hp=>?_⟩
  obtain⟨I4,r1⟩:=I3.split hl;obtain⟨I5,r2⟩:=I4.split ag;obtain⟨I6,r3⟩:=I5.split ad;dsimp only;rw[zg7 O Y];exact hQ p H3 n3 ks L xs os I6 r3 hp Y (fin ks L n3 w3)
def zt1{l:Nat}(L:Room l X.A)(ok:CompOk X scope M)(O:X.calm=true)(hi:PID A X tg iter it)(hg:∀C J H2 fp,PGD A (wa X scope own M C J H2 fp) own.length tg g)(ht:∀C J H2 fp,PTs (wa X scope own M C J H2 fp) ifs (VF A tt))
  (hk:∀C J H2 fp,PD A (wa X scope own M C J H2 fp) kx tk) (he:∀C J H2 fp,PD A (wa X scope own M C J H2 fp) vx tv) (hs:∀x,foldedSetIterable iter X.env x=pure x:=by intro _;rfl):PDT A X (.DictComp kx vx [⟨tg,iter,ifs,0⟩] scope pos) (QR it own.length g tt tk tv):=by exists (zs4 ok (by have:=L.un;lia) O hi hg ht hk he hs).imp λ_ _ _=>zh8
end
section
variable {A:AC}{X:Cx}{es:List Expr}{t1:TAD}{pos:Pos}
def dPr(t:TAD):TD:=λrho n P=>t rho n λds J=>∃k:Int × Int,ds=[.int k.1,.int k.2]/\P (.prT k) J
@[simp] theorem xQ4{t rho n P}:dPr t rho n P=t rho n λds J=>∃k:Int × Int,ds=[.int k.1,.int k.2]/\P (.prT k) J:=rfl
def xk3{Y}(h:PAD A X es t1):PD A X (.Tuple es Y pos) (dPr t1):=by
 exists (zR1 h).imp λsg H Q h=>by
   obtain⟨rho,n,P,ds,vs,I,ht,hQ⟩:=h;refine⟨rho,n,_,ds,vs,I,ht,λws H' n' es' ⟨os,J⟩ hl k=>?_⟩;obtain⟨k,rfl,q⟩:=k;obtain⟨O,rs⟩:=J.split hl;obtain⟨v1,v2,rfl,r1,r2⟩:=Ku rs;have e1:=r1.int_inv;have e2:=r2.int_inv;subst e1 e2
   refine⟨wS (show 2<=1000 by decide),λp L=>hQ _ _ n' _ ⟨os,(O.grow L).push ?_⟩ q⟩
   unfold Rep;exact⟨p,rfl,λz=>O.zH p z L,yb⟩
end
section
variable {P:Program}{w:World}{K:W.Frag}{mg:QqM}{base:Heap}
def Fun.okT{x J:Str}{st:Stmt}{f:Addr}{fd:FuncData}{N ps:List Str}{k:Nat}{t:TFT}{tb:TDT}{e:Expr}{pos:Pos}(F:Fun K x J st f fd)(S:FnScope N ps (zW st))(hb:vC st=[.Return (some e) pos])
  (body : ∀ (L : Value) (Y : Around) (outer : List Env) (s : Shared) (H : Hp) (E : XK) (G : Option Addr) (Z : Addr -> Prop), Room k (Y.deeper (envOfC J (zW st) s.heap.objs.size f L)) ->
   PDT ⟨K,G,Z,H⟩ (zF1 CX0 P w K mg base N J (zW st) f L Y outer s H E).nox e tb)
  (O:∀ds n Q,ds.length=ps.length->t ds n Q->tb (startD N ds) n Q):FnOk P w K mg base CX0 (k+1) f fd ps (spT K ps.length t):=by
 exists (by
   refine F.ok S (λvs H Q E h=>?_) (λL Y outer s H vs Q E hr h=>?_)
   ·obtain⟨G,Z,n,R,ds,hl,rs,_⟩:=h;rw[rs.length];exact hl
   ·obtain ⟨G, Z, n, R, ds, hl, rs, aa, gz, z0, ht, hQ⟩ := h;rw[hb];refine⟨_,Uj (zQ8 (body L Y outer s H E G Z hr)) zr6,startD N ds,n,R,[],[],⟨[],jD rs aa gz z0⟩,O ds n R hl ht,λp H' n' ks es xs os I r hp ad q=>?_⟩
    exact hQ p H' n' ks es xs I.fr I.st hp ad (Reps.mono (λa _ z=>.inl z) (λ_ _ _ e=>e) _ _ r) q)
end
section
variable {prog:Program}{w:World}{A:Around}{R:Result->Shared->Prop}{I:Addr}{fp wr:List Addr}{n:Nat}{P:Nat->Value->Prop}{St:Nat->Heap->Prop}
def xe2(prog:Program)(w:World)(A:Around)(P:Nat->Value->Prop)(St:Nat->Heap->Prop)(bt:Nat->Nat->Bool):Prop:=
 ∀t i j vi vj (s:Shared) (Q:QqV) (E:QqV),St t s.heap->P i vi->P j vj->Q (.bool (bt i j)) s->wpAny (model prog w) A (richCompare .Lt vi vj) Q E s
def Walks.more{bs:List Addr}{Ok:Heap->Prop}(W:Walks prog w A I fp wr n P St)(L:∀b∈bs,b ∉ wr)(hk:∀h h',Ok h->(∀b∈bs,∀o,h.get? b=some o->h'.get? b=some o)->Ok h'):Walks prog w A I (fp++bs) wr n P (λi h=>St i h/\Ok h) where
 sub:=λb h=>xv _ (W.sub b h)
 frame:=λi h h' st k=>⟨W.frame i h h' st.1 λb m o e=>k b (xv _ m) o e,hk h h' st.2 λb m o e=>k b (zL _ m) o e⟩
 item:=λi s Q E hi st J=>W.item i s Q E hi st.1 λv h' tk O st' k=>J v h' tk O ⟨st',hk _ _ st.2 λb m o e=>k b o (L b m) e⟩ k
 done:=λs Q E st J=>W.done s Q E st.1 J
 self:=λi s Q E st J=>W.self i s Q E st.1 J
def zw1(W:Walks prog w A.in1 I fp wr n P St)(bt:Nat->Nat->Bool)(af:xe2 prog w A.in1 P St bt)(S:Addr)(ah:S ∉ fp):∀(k j:Nat) (s:Shared) (O:Value) (c:Nat),n-(j+1)=k->j+1<=n->St (j+1) s.heap->P (argBest bt j) O ->
  s.heap.get? S=some (seqObj "list" #[O,O] c)->(∀v h' tk,P (argBest bt (n-1)) v->(∀b o,b ∉ wr->b≠S->s.heap.get? b=some o->h'.get? b=some o)->R (.ok (.ret v)) { s with heap:=h',toks:=tk }) ->
  codeAny (model prog w) A (.builtin "min.loop" ⟨[.ref I,.none,.ref S],[]⟩) R s:=by
 have ag:S ∉ wr:=λh=>ah (W.sub _ h)
 have nm:(toString "min" ++ toString ".loop" : String) = "min.loop" := by decide
 intro k
 induction k with
 |zero=>
  intro j s O c hk hj aa Y hS hR
  have ae:j+1=n:=q5
  refine codeAny_builtin F.entry_min_loop ?_;rw[Around.under_plainId F.plain_min_loop _];refine zb (m:=seqItems? (.ref S)) (wz hS rfl (zb (m:=tryCatch (pyNext (.ref I)) _) (wpAny_tryCatch (W.done s _ _ (ae ▸ aa) λh' tk hk'=>?_))));have hS':=hk' S _ ag hS
  refine zb (m:=updateSeq S (λ_=>#[])) (wpAny_updateSeq hS' rfl (zb (yo (zd (hR O _ tk (by rw[<- ae];exact Y) λb o J L e=>(wn _ _ (Ne.symm L)).trans (hk' b o J e))))))
 | succ k ih =>
  intro j s O c hk hj aa Y hS hR
  have ad:j+1<n:=q5
  refine codeAny_builtin F.entry_min_loop ?_;rw[Around.under_plainId F.plain_min_loop _];refine zb (m:=seqItems? (.ref S)) (wz hS rfl (zb (m:=tryCatch (pyNext (.ref I)) _) (wpAny_tryCatch (W.item (j+1) s _ _ ad aa λv h' tk hP hst' hk'=>?_))));have hS':=hk' S _ ag hS;refine zb (m:=tryCatch (holding [v,v] (richCompare .Lt v O >>= _)) _) (wpAny_tryCatch (xr (zb (af (j+1+1) (j+1) (argBest bt j) v O _ _ _ hst' hP Y (zb (xr (wK (zb (yo (zd ?_))))))))))
  cases hb:bt (j+1) (argBest bt j) with
  |true=>
   simp only[if_true];refine zb (wpAny_updateSeq hS' rfl (zb (yo ?_)));rw[nm]
   refine zd ⟨plainId_quiet F.plain_min_loop _,ih (j+1) _ v _ q5 ad (W.frame _ _ _ hst' λb ai o e=>(wn _ _ (λh:S=b=>ah (by rw[h];exact ai))).trans e) (by simp only[argBest,hb,if_true];exact hP) (xI _ hS' rfl) λv' h'' tk'' hP' hk''=>?_⟩
   exact hR v' h'' tk'' hP' λb o J L e=>hk'' b o J L ((wn _ _ (Ne.symm L)).trans (hk' b o J e))
  |false=>
   simp only[zY,if_false];refine zb (yo ?_);rw[nm]
   refine zd ⟨plainId_quiet F.plain_min_loop _,ih (j+1) _ O c q5 ad hst' (by simp only[argBest,hb,zY,if_false];exact Y) hS' λv' h'' tk'' hP' hk''=>?_⟩
   exact hR v' h'' tk'' hP' λb o J L e=>hk'' b o J L (hk' b o J e)
def zj4(W:Walks prog w A.in1 I fp wr n P St)(bt:Nat->Nat->Bool)(L:xe2 prog w A.in1 P St bt)(S:Addr)(J:S ∉ fp)(hn:0<n){c:Nat}(aa:St 0 s.heap)(hS:s.heap.get? S=some (seqObj "list" #[] c))
  (hR:∀v h' tk,P (argBest bt (n-1)) v->(∀b o,b ∉ wr->b≠S->s.heap.get? b=some o->h'.get? b=some o)->R (.ok (.ret v)) { s with heap:=h',toks:=tk }):codeAny (model prog w) A (.builtin "min.loop" ⟨[.ref I,.none,.ref S],[]⟩) R s:=by
 have ae:S ∉ wr:=λh=>J (W.sub _ h)
 have nm:(toString "min" ++ toString ".loop" : String) = "min.loop" := by decide
 refine codeAny_builtin F.entry_min_loop ?_;rw[Around.under_plainId F.plain_min_loop _];refine zb (m:=seqItems? (.ref S)) (wz hS rfl (zb (m:=tryCatch (pyNext (.ref I)) _) (wpAny_tryCatch (W.item 0 s _ _ hn aa λv h' tk hP hst' hk'=>?_))));have hS':=hk' S _ ae hS;refine zb (m:=updateSeq S (λ_=>#[v,v])) (wpAny_updateSeq hS' rfl ?_);rw[nm]
 refine zd ⟨plainId_quiet F.plain_min_loop _,zw1 W bt L S J _ 0 _ v _ rfl hn (W.frame _ _ _ hst' λb ad o e=>(wn _ _ (λh:S=b=>J (by rw[h];exact ad))).trans e) hP (xI _ hS' rfl) λv' h'' tk'' hP' hk''=>?_⟩
 exact hR v' h'' tk'' hP' λb o O Y e=>hk'' b o O Y ((wn _ _ (Ne.symm Y)).trans (hk' b o O e))
def zw0
  (h : wpAny (model prog w) A.in1 (pyIter x) (λit J => ∃ I fp wr n P St bt, it = .ref I /\ Walks prog w A.in1 I fp wr n P St /\ St 0 J.heap /\ (∀ b ∈ fp, b < J.heap.objs.size) /\ 0 < n /\ xe2 prog w A.in1 P St bt /\
   ∀v h' tk,P (argBest bt (n-1)) v->(∀b o,b ∉ wr->J.heap.get? b=some o->h'.get? b=some o)->Q v { J with heap:=h',toks:=tk }) E s):wpAny (model prog w) A (call (.builtin "min") [x]) Q E s:=by
 have nm:(toString "min" ++ toString ".loop" : String) = "min.loop" := by decide
 refine call_function_tree F.kind_min F.plain_min F.entry_min (F.args_min1 _) ?_;refine zb (m:=Builtin.Builtins.bindParams "min" ["key","default"] 0 ⟨[],[]⟩) (wpAny_of_eq (show Builtin.Builtins.bindParams "min" ["key","default"] 0 ⟨[],[]⟩=pure [none,none] from rfl) (zb (zd (zb (wv h (λit J h₂=>?_) λ_ _ e=>e)))));obtain⟨I,fp,wr,n,P,St,bt,rfl,W,O,Y,hn,L,hQ⟩:=h₂;refine zb (xl ?_);rw[nm];refine zd ⟨plainId_quiet F.plain_min_loop _,zj4 W bt L J.heap.objs.size (λhm=>xx _ (Y _ hm)) hn (W.frame _ _ _ O λb _ o e=>zh _ e) (zr _ rfl) λv h' tk hP hk=>?_⟩;exact hQ v h' tk hP λb o aa e=>hk b o aa (zA (zt e)) (zh _ e)
end
def ltP(a b:QqP):Bool:=HT.kD [a.1,a.2] [b.1,b.2]
def kW:ltP a b=true↔a.1<b.1\/(a.1=b.1/\a.2<b.2):=by
 unfold ltP HT.kD HT.kD HT.kD
 by_cases h:a.1=b.1
 ·by_cases J : a.2 = b.2
  ·simp[h,J]
  ·simp[h,J]
 ·simp[h]
def QH(a:QqP):ltP a a=false:=by
 cases h:ltP a a with
 |false=>rfl
 |true=>rw[kW] at h;lia
def Jc(h1:ltP a b=true)(J:ltP b c=true):ltP a c=true:=by
 rw[kW] at *;lia
theorem WC(hi:∀a,bt a a=false)(ht:∀a b c,bt a b=true->bt b c=true->bt a c=true):∀k,argBest bt k<=k/\∀i,i<=k->bt i (argBest bt k)=false
 |0=>⟨zo _,λi h=>by
  have e:i=0:=q5
  subst e;exact hi 0⟩
 | k + 1 => by
  obtain⟨h1,L⟩:=WC hi ht k
  cases J:bt (k+1) (argBest bt k) with
  | true =>
   have e:argBest bt (k+1)=k+1:=by simp only[argBest,J,if_true]
   rw[e];refine⟨zo _,λi h=>?_⟩
   by_cases hk:i=k+1
   ·subst hk;exact hi _
   ·cases O : bt i (k + 1) with
    |false=>rfl
    |true=>
     have z:=ht _ _ _ O J
     rw[L i q5] at z
     cases z
  |false=>
   have e:argBest bt (k+1)=argBest bt k:=by simp only[argBest,J,zY,if_false]
   rw[e]
   refine⟨q5,λi h=>?_⟩
   by_cases hk:i=k+1
   ·subst hk;exact J
   ·exact L i q5
section
variable {X:Cx}{A:AC}
def UQ(h:Heap)(ks:List (Int × Int))(bs:List Addr):Prop:=∀(i:Nat) (k:QqP) (b:Addr),ks[i]?=some k->bs[i]?=some b->∃its:List Value,IsTup h b its.toArray/\Vals [.int k.1,.int k.2] its
def zD0(hc:X.calm=true)(hu:X.A.units+1<cLine):kG X (.builtin "min") (λxs H Q=>∃(p:Addr) (ks:List (Int × Int)) (bs:List Addr),xs=[.ref p]/\SqL X.K H p (bs.map V.ref)/\0<ks.length/\bs.length=ks.length /\
  (∀(i:Nat) (k:QqP) (b:Addr),ks[i]?=some k->bs[i]?=some b->SqT X.K H b [.int k.1,.int k.2])/\∀(j:Nat) (k:QqP) (b:Addr),ks[j]?=some k->bs[j]?=some b->(∀k'∈ks,ltP k' k=false)->Q (.ref b) H):=by
 intro pins s σ H xs us Q I r h;obtain⟨p,ks,bs,rfl,hq,hn,J,ae,q⟩:=h
 cases r with
 | cons r rr =>
  cases rr;cases r;obtain⟨its,rv,pl,_⟩:=I.list hq;have hl:=pl.isList
  have af:p<s.heap.objs.size:=by obtain⟨_,e,_⟩:=hl;exact zt e
  have hsz:its.length=bs.length:=by have:=rv.length;simpa using this.symm
  have aa:∀(i:Nat) (v:Value),its[i]?=some v->∃b,bs[i]?=some b/\v=.ref b:=λi v e=>by
   have hi:i<bs.length:=by rw[<- hsz];exact(zm.mp e).1
   obtain⟨u,L,e2⟩:=rv.get (i:=i) (x:=V.ref bs[i]) (by simp[hi])
   rw[e] at L;cases L;exact⟨bs[i],ze hi,e2⟩
  have ad:UQ s.heap ks bs:=λi k b L e2=>by
   obtain⟨O,r2,p2,_⟩:=I.tuple (ae i k b L e2);exact⟨O,p2,r2⟩
  have keepP:∀{h h':Heap},UQ h ks bs->(∀b∈bs,∀o,h.get? b=some o->h'.get? b=some o)->UQ h' ks bs:=λ{h h'} ok kp i k b L e2=>by
   obtain⟨O,⟨o,ho,t⟩,r2⟩:=ok i k b L e2;exact⟨O,⟨o,kp b (zM e2) o ho,t⟩,r2⟩
  have bsz:∀b∈bs,b<s.heap.objs.size:=λb Y=>by
   obtain⟨i,hi⟩:=List.mem_iff_getElem?.mp Y
   have hi':i<ks.length:=by rw[<- J];exact(zm.mp hi).1
   obtain⟨_,⟨o,ho,_⟩,_⟩:=ad i ks[i] b (ze hi') hi;exact zt ho
  refine zw0 (yz hl ⟨s.heap.objs.size,[s.heap.objs.size,p]++bs,[s.heap.objs.size],its.toArray.size,_,_,λi j=>ltP (ks[i]?.getD (0,0)) (ks[j]?.getD (0,0)),rfl,
   Walks.more (bs:=bs) (Ok:=λh=>UQ h ks bs) (Walks.list (A:=X.A.in1) (I.ok.hd hc) _ p (zA af) _) (λb Y z=>by rw[zB.mp z] at Y;exact xx _ (bsz _ Y)) (λh h' ok kp=>keepP ok kp),
   ⟨⟨⟨_,zr _ rfl,rfl,rfl⟩,hl.push _⟩,keepP ad λb _ o e=>zh _ e⟩,λb Y=>?_,?_,λt i j vi vj s' Q' E' st hi hj hQ=>?_,λv h' tk hP hk=>?_⟩)
  ·rcases xi.mp Y with Y | Y
   ·simp only [zj, zI, or_false] at Y
    rcases Y with rfl |rfl
    ·simp[Heap.push]
    ·exact Nat.lt_trans af (by simp[Heap.push])
   ·exact Nat.lt_trans (bsz b Y) (by simp[Heap.push])
  ·rw[zp,hsz,J];exact hn
  ·obtain ⟨b1, L, rfl⟩ := aa i vi (by simpa using hi)
   obtain⟨b2,e2,rfl⟩:=aa j vj (by simpa using hj)
   have h1:i<ks.length:=by rw[<- J];exact(zm.mp L).1
   have h2:j<ks.length:=by rw[<- J];exact(zm.mp e2).1
   obtain⟨i1,p1,r1⟩:=st.2 i ks[i] b1 (ze h1) L;obtain⟨i2,p2,r2⟩:=st.2 j ks[j] b2 (ze h2) e2;dsimp only at hQ;rw[ze h1,ze h2] at hQ;exact(HT.Vm (ns:=[ks[i].1,ks[i].2]) (ms:=[ks[j].1,ks[j].2]) p1 p2 (kJ r1) (kJ r2) hu hQ:wpAny (model X.prog X.w) X.A.in1 (compareOp .Lt _ _) Q' E' s')
  ·obtain ⟨m1, m2⟩ := WC (bt := λi j => ltP (ks[i]?.getD (0, 0)) (ks[j]?.getD (0, 0))) (λa => QH _) (λa b c x y => Jc x y) (its.toArray.size - 1)
   obtain⟨b,L,rfl⟩:=aa _ v (by simpa using hP)
   generalize argBest (λi j=>ltP (ks[i]?.getD (0,0)) (ks[j]?.getD (0,0))) (its.toArray.size-1)=m at *
   have h1:m<ks.length:=by rw[<- J];exact(zm.mp L).1
   refine⟨.ref b,H,I.kept (zd7 hk),rfl,q m ks[m] b (ze h1) L λk' hk'=>?_⟩;obtain⟨i,hi,rfl⟩:=List.mem_iff_getElem.mp hk'
   have z:=m2 i (by rw[zp,hsz,J];lia)
   rw[ze hi,ze h1] at z;exact z
def Ve{K:W.Frag}{G:QqE}{Z:QqA}{H:Hp}:∀{ks:List (Int × Int)}{xs:List V},Reps K G Z H (ks.map λk=>.tup [.int k.1,.int k.2]) xs->∃bs:List Addr,xs=bs.map V.ref/\bs.length=ks.length /\
  ∀(i:Nat) (k:QqP) (b:Addr),ks[i]?=some k->bs[i]?=some b->Rep K G Z H (.tup [.int k.1,.int k.2]) (.ref b)
 |[],xs,h=>⟨[],h.nil_inv,rfl,λi k b e _=>by simp at e⟩
 | k :: ks, xs, h => by
  obtain⟨v,r,rfl,q,t⟩:=Reps.split h;obtain⟨bs,rfl,O,Y⟩:=Ve t;obtain⟨b,ys,rfl,sq,rs⟩:=q.tup_inv
  refine⟨b::bs,rfl,by rw[zJ,zJ,O],λi k' b' L J=>?_⟩
  cases i with
  |zero=>
   rw[List.getElem?_cons_zero] at L J;cases L;cases J;exact .tup_mk sq rs
  |succ i=>
   rw[List.getElem?_cons_succ] at L J;exact Y i k' b' L J
def xE0:List D->(D->Prop)->Prop:=λes k=>∃ks:List (Int × Int),es=[.lst (ks.map λk=>.tup [.int k.1,.int k.2])]/\0<ks.length/\∀m∈ks,(∀k'∈ks,ltP k' m=false)->k (.tup [.int m.1,.int m.2])
def xd2:ve A (λxs H Q=>∃(p:Addr) (ks:List (Int × Int)) (bs:List Addr),xs=[.ref p]/\SqL A.K H p (bs.map V.ref)/\0<ks.length/\bs.length=ks.length /\
  (∀(i:Nat) (k:QqP) (b:Addr),ks[i]?=some k->bs[i]?=some b->SqT A.K H b [.int k.1,.int k.2])/\∀(j:Nat) (k:QqP) (b:Addr),ks[j]?=some k->bs[j]?=some b->(∀k'∈ks,ltP k' k=false)->Q (.ref b) H) xE0:=by
 rintro os n rho sg H ds vs es ws k Q I rs ⟨ks,rfl,hn,q⟩ hQ;obtain⟨v,rfl,r⟩:=kO rs;obtain⟨a,xs,rfl,sq,Y⟩:=r.lst_inv;obtain⟨bs,rfl,hl,O⟩:=Ve Y;refine⟨a,ks,bs,rfl,sq.sq,hn,hl,λi k b J L=>?_,λj k b J L hm=>hQ _ _ _ ⟨os,I.push (O j k b J L)⟩ (q k (zM J) hm)⟩;obtain⟨b',e,sq'⟩:=Qv (O i k b J L);cases e;exact sq'
end
def JX(x:Nat):Nat:=(x*2147483648)%18446744073709551616+x/8589934592
def zq5{x:Nat}(h:x<18446744073709551616):JX x<18446744073709551616:=by
 unfold JX;lia
def zG9{x y:Nat}(hx:x<18446744073709551616)(hy:y<18446744073709551616)(h:JX x=JX y):x=y:=by
 unfold JX at h;have Y:(x*2147483648)%18446744073709551616=(x%8589934592)*2147483648:=Nat.mul_mod_mul_right 2147483648 x 8589934592;have O:(y*2147483648)%18446744073709551616=(y%8589934592)*2147483648:=Nat.mul_mod_mul_right 2147483648 y 8589934592;rw[Y,O] at h
 have h1:x/8589934592<2147483648:=q5
 have h2:y/8589934592<2147483648:=q5
 generalize hq:x/8589934592=q at *;generalize hq':y/8589934592=q' at *;generalize hr:x%8589934592=r at *;generalize hr':y%8589934592=r' at *
 have L:x=8589934592*q+r:=q5
 have J:y=8589934592*q'+r':=q5
 omega +splitDisjunctions
def zv6{a b:Nat}(ha:a<18446744073709551616)(L:b<18446744073709551616)(h:a*11400714785074694791%18446744073709551616=b*11400714785074694791%18446744073709551616):a=b:=by
 have key:∀c,c<18446744073709551616->(c*11400714785074694791%18446744073709551616)*614540362697595703%18446744073709551616=c:=λc J=>by
  rw[Nat.mod_mul_mod,Nat.mul_assoc]
  have e:11400714785074694791*614540362697595703=18446744073709551616*(11400714785074694791*614540362697595703/18446744073709551616)+1:=q9
  rw[e,Nat.mul_add,Nat.mul_one,<- Nat.mul_assoc,Nat.mul_comm c,Nat.mul_assoc,Nat.mul_add_mod];exact Nat.mod_eq_of_lt J
 rw[<- key a ha,<- key b L,h]
def jz(acc h:Nat):Nat:=JX ((acc+h*14029467366897019727)%18446744073709551616)*11400714785074694791%18446744073709551616
def Uy(acc h:Nat):jz acc h<18446744073709551616:=yu _ q9
def zx1{a b h g:Nat}(e:jz a h=jz b g):(a+h*14029467366897019727)%18446744073709551616=(b+g*14029467366897019727)%18446744073709551616:=
 zG9 (yu _ q9) (yu _ q9) (zv6 (zq5 (yu _ q9)) (zq5 (yu _ q9)) e)
def zL9(m p1 p2 L J:Nat)(a h:Nat):Nat:=(((a+h*p2)%m*L)%m+(a+h*p2)%m/J)*p1%m
def zk6(m J:Nat)(a:Nat):Int:=if a == m-1 then 1546275796 else if a<J then a else(a:Int)-m
def xF4(m p1 p2 Y O L J x:Nat)(hs:List Int):Int:=zk6 m J ((hs.foldl (λa h=>zL9 m p1 p2 O L a (h%(m:Int)).toNat) Y+(hs.length ^^^ (Y ^^^ x)))%m)
def zG1(m p1 p2 Y L J O x:Nat)(h g:Int):xF4 m p1 p2 Y L J O x [h,g]=zk6 m O ((zL9 m p1 p2 L J (zL9 m p1 p2 L J Y (h%(m:Int)).toNat) (g%(m:Int)).toNat+(2 ^^^ (Y ^^^ x)))%m):=rfl
def zG0(hs:List Int):Builtin.Tuple.tupleHashOf hs=xF4 (2^64) 11400714785074694791 14029467366897019727 2870177450012600261 (2^31) (2^33) (2^63) 3527539 hs:=rfl
def zx2(a h:Nat):zL9 18446744073709551616 11400714785074694791 14029467366897019727 2147483648 8589934592 a h=jz a h:=rfl
def zP7(h g:Int):Builtin.Tuple.tupleHashOf [h,g]=zk6 18446744073709551616 9223372036854775808 ((jz (jz 2870177450012600261 (h%18446744073709551616).toNat) (g%18446744073709551616).toNat+2870177450013471924)%18446744073709551616):=by
 rw[zG0,zG1,<- zx2,<- zx2]
 have e1:(2^64:Nat)=18446744073709551616:=q9
 have e2:(2^31:Nat)=2147483648:=q9
 have Y:(2^33:Nat)=8589934592:=q9
 have O:(2^63:Nat)=9223372036854775808:=q9
 rw[e1,e2,Y,O]
 have L:((18446744073709551616:Nat):Int)=18446744073709551616:=q9
 have J:2 ^^^ (2870177450012600261 ^^^ 3527539)=2870177450013471924:=q9
 rw[L,J]
def zN5{a b:Nat}(ha:a<18446744073709551616)(Y:b<18446744073709551616)(h:zk6 18446744073709551616 9223372036854775808 a=zk6 18446744073709551616 9223372036854775808 b):a=b\/a=18446744073709551615\/b=18446744073709551615:=by
 unfold zk6 at h
 by_cases h1:a=18446744073709551615
 ·exact .inr (.inl h1)
 ·by_cases J : b = 18446744073709551615
  ·exact .inr (.inr J)
  ·have O : (a == 18446744073709551616 - 1) = false := by simpa using h1
   have L:(b == 18446744073709551616-1)=false:=by simpa using J
   rw[O,L] at h;simp only[zY,if_false] at h
   split at h<;>split at h<;>lia
def Mid(h:Int):Prop:=-1000000000000000000<h/\h<1000000000000000000
def zq6{x:Nat}(hx:x<18446744073709551616):JX x=(x%8589934592)*2147483648+x/8589934592:=by
 unfold JX;rw[show(x*2147483648)%18446744073709551616=(x%8589934592)*2147483648 from Nat.mul_mod_mul_right 2147483648 x 8589934592]
def zj8{x y:Nat}(hx:x<18446744073709551616)(hy:y<18446744073709551616){r:Int}(h0:0<=r)(h1:r<18446744073709551616)(h:∃k:Int,(JX x:Int)-JX y=r+18446744073709551616*k) :
  ∃Y O:Int,(Y=0\/Y=1)/\(O=0\/O=1)/\∃k:Int,(x:Int)-y=8589934592*(r%2147483648)+r/2147483648+Y-8589934592*O+18446744073709551616*k:=by
 obtain⟨k,h⟩:=h;rw[zq6 hx,zq6 hy] at h
 have hr:r=2147483648*(r/2147483648)+r%2147483648:=q5
 have r1:0<=r%2147483648/\r%2147483648<2147483648:=q5
 have r2:0<=r/2147483648/\r/2147483648<8589934592:=q5
 generalize r/2147483648=B at *;generalize r%2147483648=A at *
 have ex:(x:Int)=8589934592*(x/8589934592:Nat)+(x%8589934592:Nat):=q5
 have ey:(y:Int)=8589934592*(y/8589934592:Nat)+(y%8589934592:Nat):=q5
 have x1:x/8589934592<2147483648:=q5
 have y1:y/8589934592<2147483648:=q5
 have x2:x%8589934592<8589934592:=q5
 have y2:y%8589934592<8589934592:=q5
 generalize x/8589934592=xa at *;generalize y/8589934592=ya at *;generalize x%8589934592=L at *;generalize y%8589934592=J at *
 have e:(L:Int)*2147483648+xa-(J*2147483648+ya)=2147483648*B+A+18446744073709551616*k:=q5
 obtain⟨u,hu⟩:∃u:Int,(xa:Int)-ya-A=2147483648*u:=⟨B+8589934592*k-(L-J),q5⟩
 have aa:u=0\/u=-1:=q5
 have hb:(L:Int)-J=B+8589934592*k-u:=q5
 have ad:k=0\/k=-1:=q5
 exact⟨-u,-k,q5,q5,u,q5⟩
def YA(N M:Nat):∃q:Int,(N:Int)=M*q+((N%M:Nat):Int):=⟨((N/M:Nat):Int),by
 have:=Nat.div_add_mod N M
 rw[<- Int.natCast_mul,<- Int.natCast_add,this]⟩
def zL7{a b n m M p1 p2:Nat}(h:(a*p1%M+n*p2)%M=(b*p1%M+m*p2)%M):∃k:Int,((a:Int)-b)*p1=((m:Int)-n)*p2+M*k:=by
 obtain⟨q3,e3⟩:=YA (a*p1) M;obtain⟨Y,e4⟩:=YA (b*p1) M;obtain⟨O,J⟩:=YA (a*p1%M+n*p2) M;obtain⟨L,e6⟩:=YA (b*p1%M+m*p2) M;rw[h] at J;simp only[Int.natCast_add,Int.natCast_mul] at e3 e4 J e6;generalize ((a*p1%M:Nat):Int)=ra at *;generalize ((b*p1%M:Nat):Int)=rb at *;generalize (((b*p1%M+m*p2)%M:Nat):Int)=rc at *
 exact⟨q3-Y+O-L,by grind⟩
def zy4{d p M k t i q:Int}(h:d*p=t+M*k)(hi:i*p=M*q+1):∃k,d=t*i+M*k:=⟨i*k-q*d,by grind⟩
def xa6{J g h p2 M:Nat}{z k:Int}(e:(((J+g*p2)%M:Nat):Int)-((J+h*p2)%M:Nat)=z+M*k):∃k:Int,((g:Int)-h)*p2=z+M*k:=by
 obtain⟨O,e3⟩:=YA (J+g*p2) M;obtain⟨L,Y⟩:=YA (J+h*p2) M;simp only[Int.natCast_add,Int.natCast_mul] at e3 Y;generalize (((J+g*p2)%M:Nat):Int)=ra at *;generalize (((J+h*p2)%M:Nat):Int)=rb at *
 exact⟨k+O-L,by grind⟩
def zn6{d z M k:Int}(h:d=z+M*k):d%M=z%M:=by rw[h,Int.add_mul_emod_self_left]
def xq5(t:Int):Int:=(t*14029467366897019727*614540362697595703)%18446744073709551616
def Xg(t L J:Int):Int:=((8589934592*(xq5 t%2147483648)+xq5 t/2147483648+L-8589934592*J)*839798700976720815)%18446744073709551616
def Wf{g h n m:Nat}(e:jz (jz 2870177450012600261 g) n=jz (jz 2870177450012600261 h) m):∃L J:Int,(L=0\/L=1)/\(J=0\/J=1)/\((g:Int)-h)%18446744073709551616=Xg ((m:Int)-n) L J:=by
 have e1:=zx1 e;obtain⟨k,e2⟩:=zL7 (a:=JX ((2870177450012600261+g*14029467366897019727)%18446744073709551616)) (b:=JX ((2870177450012600261+h*14029467366897019727)%18446744073709551616)) (n:=n) (m:=m) (M:=18446744073709551616) (p1:=11400714785074694791) (p2:=14029467366897019727) e1
 obtain⟨k2,e3⟩:=zy4 (i:=614540362697595703) (q:=379806830464837242) e2 q9
 have e4:=zn6 e3
 have Y:0<=xq5 ((m:Int)-n)/\xq5 ((m:Int)-n)<18446744073709551616:=⟨wC _ q9,wZ _ q9⟩
 obtain⟨L,J,O,hc2,k3,e5⟩:=zj8 (yu _ q9) (yu _ q9) Y.1 Y.2 ⟨_,by
  have z:=Int.emod_add_mul_ediv ((JX ((2870177450012600261+g*14029467366897019727)%18446744073709551616):Int)-JX ((2870177450012600261+h*14029467366897019727)%18446744073709551616)) 18446744073709551616;rw[show(JX ((2870177450012600261+g*14029467366897019727)%18446744073709551616)-JX ((2870177450012600261+h*14029467366897019727)%18446744073709551616):Int)%18446744073709551616=xq5 ((m:Int)-n) from e4] at z
  exact z.symm⟩
 obtain⟨k4,e6⟩:=xa6 (M:=18446744073709551616) e5
 obtain⟨k5,e7⟩:=zy4 (i:=839798700976720815) (q:=638699622168397319) e6 q9
 exact⟨L,J,O,hc2,zn6 e7⟩
def xv9(e:Int):Int:=if e<9223372036854775808 then e else e-18446744073709551616
def okC(e:Int):Bool:=decide (20000<(xv9 (e%18446744073709551616)+10000)%1000000000000000)
def xq3(k:Nat):Bool:=okC (Xg k 0 0)&&okC (Xg k 0 1)&&okC (Xg k 1 0)&&okC (Xg k 1 1)
def xq2(k:Nat):Bool:=okC (Xg (-k) 0 0+926380684836714815)&&okC (Xg (-k) 0 1+926380684836714815)&&okC (Xg (-k) 1 0+926380684836714815)&&okC (Xg (-k) 1 1+926380684836714815)
def xq6(f:Nat->Bool):Nat->Bool
 |0=>true
 |n+1=>f n&&xq6 f n
theorem za3:∀{n k:Nat},xq6 f n=true->k<n->f k=true
 |0,k,_,h=>by lia
 |n+1,k,e,h=>by
  unfold xq6 at e;rw[zG] at e
  by_cases hk:k=n
  ·rw[hk];exact e.1
  ·exact za3 e.2 q5
def zZ2:xq6 (λk=>xq3 (k+1)) 2000=true:=w5
def zZ1:xq6 xq2 2000=true:=w5
def Qq{k:Int}(h:Mid k):rawHash k=if k=-1 then -2 else k:=by
 obtain⟨h1,L⟩:=h
 have e:((k.natAbs:Nat):Int)%((2^61-1:Nat):Int)=(k.natAbs:Int):=Int.emod_eq_of_lt q5 q5
 unfold rawHash;rw[e];dsimp only
 have J:(if k<0 then -(k.natAbs:Int) else(k.natAbs:Int))=k:=by split<;>lia
 rw[J]
 by_cases hk:k=-1
 ·rw[if_pos (by simpa using hk),if_pos hk]
 ·rw[if_neg (by simpa using hk),if_neg hk]
def Wn{k:Int}(h:Mid k):hashInt k=if k=-1 then -2 else k:=by
 unfold hashInt;rw[Qq h]
 by_cases hk:k=-1
 ·rw[if_pos hk];rfl
 ·rw[if_neg hk,if_neg (by simpa using hk)]
def zq7{a:Nat}(ha:a<18446744073709551616):reduceHash (zk6 18446744073709551616 9223372036854775808 a)=zk6 18446744073709551616 9223372036854775808 a:=by
 have b:-9223372036854775808<=zk6 18446744073709551616 9223372036854775808 a/\zk6 18446744073709551616 9223372036854775808 a<9223372036854775808/\zk6 18446744073709551616 9223372036854775808 a≠-1:=by
  unfold zk6
  by_cases h1:a=18446744073709551615
  ·rw[if_pos (by simpa using h1)];decide
  ·rw [if_neg (by simpa using h1)]
   split<;>lia
 generalize zk6 18446744073709551616 9223372036854775808 a=x at b;unfold reduceHash
 have J:(decide (-(2^63:Int)<=x)&&decide (x<2^63))=true:=by
  rw[zG,ww,ww];lia
 rw[if_pos J,if_neg (by simpa using b.2.2)]
def FormK(k:Int):Prop:=(∃a e:Int,k=1000000000000000*a+e/\-4500<=e/\e<=4500)/\-900000000000000000<k/\k<900000000000000000
def zz5{h E a e:Int}(h1:h=1000000000000000*a+e)(h2:-10000<=e)(Y:e<=10000)(h4:-9000000000000000000<h)(O:h<9000000000000000000)(J:h%18446744073709551616=E%18446744073709551616)(ok:okC E=true):False:=by
 have o:=of_decide_eq_true ok;rw[<- J] at o
 have L:xv9 (h%18446744073709551616)=h:=by unfold xv9;split<;>lia
 rw[L] at o;lia
def zL8{a b:Nat}(ha:a<18446744073709551616)(J:b<18446744073709551616)(h:(a+2870177450013471924)%18446744073709551616=(b+2870177450013471924)%18446744073709551616):a=b:=q5
def FormK.hash{k:Int}(h:FormK k):∃a e:Int,hashInt k=1000000000000000*a+e/\-4501<=e/\e<=4501/\-900000000000000001<hashInt k/\hashInt k<900000000000000001:=by
 obtain⟨⟨a,e,h1,O,L⟩,h4,J⟩:=h
 rw[Wn ⟨q5,q5⟩]
 by_cases hk:k=-1
 ·rw [if_pos hk]
  exact⟨0,-2,q5,q5,q5,q5,q5⟩
 ·rw [if_neg hk]
  exact⟨a,e,h1,q5,q5,q5,q5⟩
def KY{n:Int}(h0:0<=n)(h1:n<2000):(((hashInt n)%18446744073709551616).toNat:Int)=n:=by
 rw[Wn ⟨q5,q5⟩,if_neg q5]
 lia
def zC9{g h:Nat}{t:Nat}{x y:Int}(hx:(g:Int)=x%18446744073709551616)(hy:(h:Int)=y%18446744073709551616){Y O:Int}(aa:Y=0\/Y=1)(hc2:O=0\/O=1)(e:((g:Int)-h)%18446744073709551616=Xg ((t+1:Nat):Int) Y O)(ht:t<2000)
  {a b L J:Int} (h1:x=1000000000000000*a+L) (h2:-4501<=L) (h3:L<=4501) (h4:-900000000000000001<x) (h5:x<900000000000000001) (g1:y=1000000000000000*b+J) (g2:-4501<=J) (g3:J<=4501) (g4:-900000000000000001<y) (g5:y<900000000000000001):False:=by
 have o:=za3 zZ2 ht;unfold xq3 at o;simp only[zG] at o;obtain⟨⟨⟨o1,o2⟩,o3⟩,o4⟩:=o
 have ok:okC (Xg ((t+1:Nat):Int) Y O)=true:=by
  rcases aa with rfl |rfl<;>rcases hc2 with rfl |rfl
  ·exact o1
  ·exact o2
  ·exact o3
  ·exact o4
 refine zz5 (h:=x-y) (a:=a-b) (e:=L-J) q5 q5 q5 q5 q5 ?_ ok
 rw[<- e,hx,hy];lia
def zz1{k l n m:Int}(hk:FormK k)(hl:FormK l)(n0:0<=n)(n1:n<2000)(m0:0<=m)(m1:m<2000)(aa:n≠m):WT (k,n)≠WT (l,m):=λe=>by
 obtain⟨a,O,h1,h2,h3,h4,h5⟩:=hk.hash;obtain⟨b,eb,g1,g2,g3,g4,g5⟩:=hl.hash;have e':reduceHash (Builtin.Tuple.tupleHashOf [hashInt k,hashInt n])=reduceHash (Builtin.Tuple.tupleHashOf [hashInt l,hashInt m]):=e
 rw[zP7,zP7,zq7 (yu _ q9),zq7 (yu _ q9)] at e'
 have en:=KY n0 n1;have em:=KY m0 m1
 have ek:((((hashInt k)%18446744073709551616).toNat:Nat):Int)=hashInt k%18446744073709551616:=Int.toNat_of_nonneg (wC _ q9)
 have el:((((hashInt l)%18446744073709551616).toNat:Nat):Int)=hashInt l%18446744073709551616:=Int.toNat_of_nonneg (wC _ q9)
 generalize (hashInt n%18446744073709551616).toNat=n' at *;generalize (hashInt m%18446744073709551616).toNat=m' at *;generalize (hashInt k%18446744073709551616).toNat=k' at *;generalize (hashInt l%18446744073709551616).toNat=l' at *
 have Y:∀(g L:Nat) (x:Int) (a O:Int),(g:Int)=x%18446744073709551616->L<2000->x=1000000000000000*a+O->-4501<=O->O<=4501->-900000000000000001<x->x<900000000000000001->(jz (jz 2870177450012600261 g) L+2870177450013471924)%18446744073709551616=18446744073709551615->False:=λg L x a O hx hn i1 i2 i3 i4 i5 z=>by
  have z1:jz (jz 2870177450012600261 g) L=15576566623696079691:=by
   have:=Uy (jz 2870177450012600261 g) L;lia
  have z2:jz (jz 2870177450012600261 926380684836714815) 0=15576566623696079691:=w5
  obtain⟨c1,c2,J,hc2,z3⟩:=Wf (z1.trans z2.symm);have o:=za3 zZ1 hn;unfold xq2 at o;simp only[zG] at o;obtain⟨⟨⟨o1,o2⟩,o3⟩,o4⟩:=o
  have et:((0:Nat):Int)-(L:Int)=-(L:Int):=q5
  rw[et] at z3
  have ok:okC (Xg (-(L:Int)) c1 c2+926380684836714815)=true:=by
   rcases J with rfl |rfl<;>rcases hc2 with rfl |rfl
   ·exact o1
   ·exact o2
   ·exact o3
   ·exact o4
  refine zz5 i1 q5 q5 q5 q5 ?_ ok
  rw[<- z3,<- hx]
  have:((926380684836714815:Nat):Int)=926380684836714815:=q9
  rw[this];lia
 rcases zN5 (yu _ q9) (yu _ q9) e' with z |z |z
 ·have z1 := zL8 (Uy ..) (Uy ..) z
  rcases Int.lt_or_gt_of_ne aa with ad |ae
  ·obtain ⟨c1, c2, J, hc2, z3⟩ := Wf z1
   obtain⟨t,ht⟩:∃t:Nat,(m':Int)-n'=((t+1:Nat):Int):=⟨(m-n-1).toNat,q5⟩
   rw[ht] at z3
   exact zC9 ek el J hc2 z3 q5 h1 h2 h3 h4 h5 g1 g2 g3 g4 g5
  ·obtain ⟨c1, c2, J, hc2, z3⟩ := Wf z1.symm
   obtain⟨t,ht⟩:∃t:Nat,(n':Int)-m'=((t+1:Nat):Int):=⟨(n-m-1).toNat,q5⟩
   rw[ht] at z3
   exact zC9 el ek J hc2 z3 q5 g1 g2 g3 g4 g5 h1 h2 h3 h4 h5
 ·exact Y k' n' _ a O ek q5 h1 h2 h3 h4 h5 z
 ·exact Y l' m' _ b eb el q5 g1 g2 g3 g4 g5 z
end L2
namespace HT
section
open PySem.SeqAt
open PySem.AutoSeq1 (wpAny_loadPart')
open PySem.MeetsSeq PySem.MeetsSeq2 PySem.MeetsSeq3
end
section
variable {prog:Program}{w:World}{A:Around}{E:QqV}{s:Shared}
end
end HT
namespace L2
section
variable {X:Cx}{A:AC}
end
end L2
namespace L2
open PySem PySem.Spec PyProof.Rows PySem.SeqAt
section
variable {A:AC}{X:Cx}{pos:Pos}
def zQ3(i j k:Nat)(c:Int):TSD:=λF rho n=>i<rho.length/\j<rho.length/\k<rho.length/\F.nx (((rho.set i (some (.own []))).set j (some (.own []))).set k (some (.int c))) n
@[simp] theorem xr5{i j k c F rho n}:zQ3 i j k c F rho n=(i<rho.length/\j<rho.length/\k<rho.length/\F.nx (((rho.set i (some (.own []))).set j (some (.own []))).set k (some (.int c))) n):=rfl
def zr7{i j k:Nat}{c:Int}{cj:Nat}{kt k2 J}(hc:X.calm=true)(hN:X.N.Nodup)(hi:X.N[i]?=some x)(hj:X.N[j]?=some y)(af:X.N[k]?=some z)(ak:i≠j)(aj:i≠k)(ah:j≠k)
  (hx:X.env.scope.names.lookup x=some .local) (hy:X.env.scope.names.lookup y=some .local) (hz:X.env.scope.names.lookup z=some .local)
  (hk:X.env.blockKind=.function:=by rfl) (hl:py.line=px.line:=by rfl) (ad:pz.line=px.line:=by rfl) (Y:x≠y:=by decide) (O:x≠z:=by decide) (L:y≠z:=by decide) (hf:[Expr.List [] pl,.List [] pm,.Constant (.int c) cj pc].all (foldedForSure 8)=false:=by decide +kernel) (al:[Expr.List [] pl,.List [] pm,.Constant (.int c) cj pc].all (constantsAlone 8)=false:=by decide +kernel) :
  PSD A X (.Assign [.Tuple [.Name x px,.Name y py,.Name z pz] kt pt] (.Tuple [.List [] pl,.List [] pm,.Constant (.int c) cj pc] k2 J) pos) (zQ3 i j k c):=by
 exists (by
   refine(zW6 hc hN hi hj af hx hy hz (qh (Kz jZ) (qh (Kz jZ) (qh KA jZ (sE rfl)) (sE rfl)) (sE rfl)) (zG5 hk hx hy hz hl ad Y O L rfl rfl rfl hf al) rfl).imp λE sg H h=>?_;obtain⟨rho,n,F,ds,vs,⟨os,I⟩,⟨ai,ag,ae,ht⟩,ok⟩:=h;refine⟨xq _,λp hp=>⟨xq _,λp2 aa=>⟨_,_,_,rfl,?_⟩⟩⟩;obtain⟨ao,J2⟩:=I.setOwn (es:=[]) (xs:=[]) ai hp .nil
   obtain⟨am,J3⟩:=J2.setOwn (es:=[]) (xs:=[]) (i:=j) (by simpa using ag) aa .nil
   have J4:=(J3.push (d:=.int c) (v:=.int c) (Rep.ofS rfl)).set (i:=k) (by simpa using ae)
   have e:((sg.set k (some (V.int c))).set j (some (.ref p2))).set i (some (.ref p))=((sg.set i (some (.ref p))).set j (some (.ref p2))).set k (some (V.int c)):=by
    rw[set_comm _ _ (Ne.symm ah),set_comm _ _ (Ne.symm aj),set_comm _ _ (Ne.symm ak)]
   exact e ▸ ok.nx _ _ _ _ ⟨_,J4⟩ ht)
end
def zQ4:RD2:=λd1 d2 k=>∃es,d1=.lst es/\d2=.lst []/\k (.bl (!es.isEmpty))
def zV2(hK:X.K=A.K):kr A (xw8 X) zQ4:=by
 rintro os n rho sg H ds vs d1 d2 v1 v2 k Q I ⟨es,rfl,rfl,q⟩ hQ;obtain⟨I1,Y⟩:=I.pop;obtain⟨I2,r1⟩:=I1.pop;rw[<- hK] at r1 Y
 have L:okE (.lst []) 20=true:=by unfold okE;rfl
 refine⟨es.isEmpty,λpins s σ v u J rx ry B hu=>?_,hQ _ H _ ⟨os,I2.push (Rep.ofS rfl)⟩ q⟩
 cases es with
 |nil=>exact Jm J 20 _ _ v1 v2 v u B L L r1 Y rx ry q5
 |cons e es=>
  obtain⟨a,xs,e1,sq,rs⟩:=r1.lst_inv;obtain⟨b,ys,e2,sq',rs'⟩:=Y.lst_inv;subst e1 e2;have c1:v=.ref a:=rx;have c2:u=.ref b:=ry;subst c1 c2;obtain⟨its,rv,pl,hz⟩:=J.list sq.sq;obtain⟨its',rv',pl',hz'⟩:=J.list sq'.sq
  have n1:its.toArray.size=es.length+1:=by rw[show its.toArray.size=its.length from rfl,<- rv.length,rs.length];rfl
  have n2:its'.toArray.size=0:=by rw[show its'.toArray.size=its'.length from rfl,<- rv'.length,rs'.length];rfl
  have hs:(its.toArray.size != its'.toArray.size)=true:=by rw[n1,n2];simp
  have R:RcAt B s (.ref a) (.ref b) false:=RcAt.lists_lengths (A:=B) pl.isList pl'.isList hs q5
  have N:RcNeAt B s (.ref a) (.ref b) true:=RcNeAt.lists_lengths (A:=B) pl.isList pl'.isList hs q5
  refine⟨?_,R,N⟩
  by_cases O:a=b
  ·subst O;obtain⟨o,m,g1,_,_,g2⟩:=pl;obtain⟨o',m',g3,_,_,g4⟩:=pl';rw[g1] at g3;cases g3;rw[g2] at g4;injection g4 with g5;rw[g5,n2] at n1;cases n1
  ·exact .of_refs O R
@[simp] theorem xr7{d1 d2 k}:zQ4 d1 d2 k=∃es,d1=.lst es/\d2=.lst []/\k (.bl (!es.isEmpty)):=rfl
def Caps.two{i j:Nat}(hk:X.env.kindOf y=some .cell)(L:X.env.kindOf z=some .cell)(hi:X.N[i]?=some y)(O:X.N[j]?=some z)(Y:X.env.cells.lookup y=some a)(hc2:X.env.cells.lookup z=some b)(J:(z == y)=false:=by rfl):Caps X [p,y,z] [(y,a),(z,b)] [i,j]:=by
 have l1:[(y,a),(z,b)].lookup y=some a:=by rw[zV,beq_self_eq_true]
 have l2:[(y,a),(z,b)].lookup z=some b:=by rw[zV,J,zV,beq_self_eq_true]
 refine⟨rfl,λk x e=>?_,λx c e=>?_,λk x e=>?_⟩
 ·rcases k with _ | _ | k
  ·cases e;exact⟨hk,i,rfl,hi⟩
  ·cases e;exact⟨L,j,rfl,O⟩
  ·simp at e
 ·rw [zV] at e
  split at e
  ·rename_i h;cases e;rw[eq_of_beq h];exact Y
  ·rw [zV] at e
   split at e
   ·rename_i h;cases e;rw[eq_of_beq h];exact hc2
   ·cases e
 ·rcases k with _ | _ | k
  ·cases e;exact⟨a,l1⟩
  ·cases e;exact⟨b,l2⟩
  ·simp at e
def zf8{p y z:Str}{a b:Addr}(J:(z == y)=false:=by rfl):∀x∈[p,y,z].drop 1,∃c,[(y,a),(z,b)].lookup x=some c:=λx hx=>by
 have e:x=y\/x=z:=by simpa using hx
 rcases e with rfl |rfl
 ·exact⟨a,by rw[zV,beq_self_eq_true]⟩
 ·exact⟨b,by rw[zV,J,zV,beq_self_eq_true]⟩
end L2
namespace L2
def kL(k:List Int):List Key:=k.map Sum.inl
def QK(k:List Int):(kL k).map kV=k.map V.int:=by unfold kL;rw[zQ];rfl
def zy0(h:kL x=kL y):x=y:=by
 unfold kL at h
 induction x generalizing y with
 |nil=>cases y with |nil=>rfl |cons=>simp at h
 | cons a x J =>
  cases y with
  |nil=>simp at h
  |cons b y=>
   simp only[zD,List.cons.injEq,Sum.inl.injEq] at h;rw[h.1,J h.2]
def zN1(k:List Int):(tupleKind (wV P w)).hash (kL k)=xb9 k:=by
 show reduceHash (Builtin.Tuple.tupleHashOf ((k.map Sum.inl).map (wV P w).hash))=reduceHash (Builtin.Tuple.tupleHashOf (k.map hashInt));rw[zQ];rfl
def JZ:List (List Int)->List Addr->List Value->List (List Key × Addr × Value)
 |k::ks,b::bs,u::us=>(kL k,b,u)::JZ ks bs us
 |_,_,_=>[]
theorem QO:∀(ks:QqI) (bs:List Addr) (us:QqW),xu4 ks bs us=(JZ ks bs us).map (entryOfKey (tupleKind (wV P w)))
 |[],_,_=>rfl
 |_::_,[],_=>rfl
 |_::_,_::_,[]=>rfl
 |k::ks,b::bs,u::us=>by
  have J:=QO (P:=P) (w:=w) ks bs us;show(⟨xb9 k,.ref b,u⟩:DictEntry)::xu4 ks bs us=entryOfKey (tupleKind (wV P w)) (kL k,b,u)::(JZ ks bs us).map (entryOfKey (tupleKind (wV P w)));rw[J]
  congr 1
  unfold entryOfKey;rw[zN1]
theorem Kc:∀{ks:QqI}{bs:List Addr}{us:QqW},ks.length=bs.length->ks.length=us.length->(JZ ks bs us).map (·.1)=ks.map kL
 |[],_,_,_,_=>rfl
 |k::ks,[],_,h,_=>by simp at h
 |k::ks,_::_,[],_,h=>by simp at h
 |k::ks,b::bs,u::us,h1,J=>by
  show kL k::(JZ ks bs us).map (·.1)=kL k::ks.map kL
  rw[Kc (by simpa using h1) (by simpa using J)]
theorem KeysAt.length{K:W.Frag}{Z:QqA}{H:Hp}:∀{ks:QqI}{bs:List Addr},KeysAt K Z H ks bs->ks.length=bs.length
 |[],_,h=>by unfold KeysAt at h;rw[h];rfl
 |k::ks,_,h=>by
  unfold KeysAt at h;obtain⟨b,r,rfl,_,t⟩:=h;rw[zJ,zJ,t.length]
section
variable {X:Cx}{pins:QqL}{σ:St}{H:Hp}{s:Shared}{a b:Addr}{B:Around}{E:QqV}{ks:QqI}{bs:List Addr}{xs:List V}{k:List Int}{v:V}{Z:QqA}
theorem zx5(I:Inv X pins σ H s):∀{ks:QqI}{bs:List Addr}{us:QqW},KeysAt X.K Z H ks bs->∀x∈JZ ks bs us,(tupleKind (wV X.prog X.w)).is s.heap x.1 x.2.1
 |[],_,_,_,x,hx=>by simp[JZ] at hx
 |k::ks,_,[],h,x,hx=>by
  unfold KeysAt at h;obtain⟨b,r,rfl,q,t⟩:=h;simp[JZ] at hx
 |k::ks,_,u::us,h,x,hx=>by
  unfold KeysAt at h;obtain⟨b,r,rfl,q,t⟩:=h
  rcases zj.mp (show x∈(kL k,b,u)::JZ ks r us from hx) with rfl |hx
  ·exact Jh I (by rw[QK];exact q.sq)
  ·exact zx5 (us:=us) I t x hx
def zO1(I:Inv X pins σ H s)(e:H a=some (.ext (QQ a ks bs xs)))(hk:KeysAt X.K Z H ks bs)(L:ks.Nodup)(O:ks.length=xs.length):∃us,Vals xs us/\s.heap.DictOfH (tupleKind (wV X.prog X.w)) a (JZ ks bs us):=by
 obtain⟨⟨_,o,es,ep,us,h1,h2,h3,h4,Y⟩,_,_⟩:=I.hok a _ e
 refine⟨us,h4,o,es,ep,h1,h2,h3,by rw[Y];exact QO ks bs us,zx5 (us:=us) I hk,?_⟩
 rw[Kc hk.length (by rw[O,h4.length])]
 rw[xM] at L ⊢;rw[xE];exact L.imp λJ z=>J (zy0 z)
end
section
variable {A:AC}{X:Cx}{a b:Expr}{ta tb:TD}{pos:Pos}
theorem UF{K:W.Frag}{G:QqE}{Z:QqA}{H:Hp}:∀{k:List Int}{xs:List V},Reps K G Z H (k.map D.int) xs->xs=k.map V.int
 |[],xs,h=>by unfold List.map at h;exact h.nil_inv
 |i::k,xs,h=>by
  obtain⟨v,r,rfl,q,t⟩:=h.split;rw[q.int_inv,UF t];rfl
end
end L2
namespace PySem
open PySem.Sem (wp)
section
variable {prog:Program}{w:World}{K:Type} [DecidableEq K] {knd:KeyKind prog w K}{A:Around}{R:Result->Shared->Prop}
variable {E:QqV}{s:Shared}
end
end PySem
namespace L2
section
variable {K:W.Frag}{Z:QqA}{H:Hp}
end
section
variable {X:Cx}{A:AC}
def AmO.newDcl{os n rho sg H ds vs}(I:AmO A os n rho sg H ds vs)(Y:KeysAt A.K (Zof A os) H ks bs)(r:Reps A.K A.G (Zof A os) H es xs)(L:H p=none):AmO A os n rho sg (upd H p (.ext (QQ p ks bs xs))) (.dcL ks es::ds) (.ref p::vs):=by
 have J:=(I.grow (o:=.ext (QQ p ks bs xs)) L)
 have O:∀a u,H a=some u->upd H p (.ext (QQ p ks bs xs)) a=some u:=λa u e=>by rw[xX (yd e L)];exact e
 refine J.push ?_;unfold Rep;exact⟨p,bs,xs,rfl,⟨λz=>absurd L (I.zH p z),yb⟩,Y.mono (λ_ _ z=>z) (λa u _ e=>O a u e),Reps.mono (λ_ _ z=>z) (λa u _ e=>O a u e) _ _ r⟩
end
section
variable {A:AC}{X:Cx}{e:Expr}{te:TD}{pos:Pos}
end
section
variable {X:Cx}{A:AC}
end
theorem zg3:∀{ks:QqI}{bs:List Addr}{us:QqW}{k:List Int},ks.length=bs.length->ks.length=us.length->(atKey (JZ ks bs us) (kL k)).isSome=decide (k∈ks)
 |[],_,_,_,_,_=>rfl
 |_::_,[],_,_,h,_=>by simp at h
 |_::_,_::_,[],_,_,h=>by simp at h
 |x::ks,b::bs,u::us,k,h1,L=>by
  have J:=zg3 (bs:=bs) (us:=us) (k:=k) (by simpa using h1) (by simpa using L)
  unfold atKey at J ⊢;rw[show JZ (x::ks) (b::bs) (u::us)=(kL x,b,u)::JZ ks bs us from rfl,we]
  by_cases e:x=k
  ·subst e;simp
  ·have:decide ((kL x,b,u).1=kL k)=false:=zN λz=>e (zy0 z);rw[this];have e':¬ k=x:=λz=>e z.symm;simp only[zj,e',false_or];exact J
section
variable {X:Cx}{A:AC}
def xh7(K:W.Frag):R2:=λy x H Q=>∃a b ks bs xs k,∃Z:Addr->Prop,x=.ref a/\y=.ref b/\H a=some (.ext (QQ a ks bs xs))/\KeysAt K Z H ks bs/\ks.Nodup/\ks.length=xs.length/\SqT K H b (k.map V.int)/\Q (.bl (decide (k∈ks))) H
def zY2{n:Nat}(hr:Room n X.A):OpR X (compareOp .In) (xh7 X.K):=by
 intro pins s σ H x y v u Q I rx Y h;obtain⟨a,b,ks,bs,xs,k,Z,rfl,rfl,e,hk,hn,L,sq,q⟩:=h;cases rx;cases Y;obtain⟨us,O,dd⟩:=zO1 I e hk hn L;obtain⟨⟨J,_⟩,_,_⟩:=I.hok a _ e
 refine wpAny_in_heap (tupleKind_room_in1 (by have:=hr.units;lia)) (Jh I (by rw[QK];exact sq)) J dd ?_
 rw[zg3 hk.length (by rw[L,O.length])]
 exact⟨.bl (decide (k∈ks)),H,I.tok _,rfl,q⟩
def xh2:RD2:=λd1 d2 c=>∃ks ds k,d1=.tup (k.map D.int)/\d2=.dcL ks ds/\ks.Nodup/\ks.length=ds.length/\c (.bl (decide (k∈ks)))
def zV3(L:X.K=A.K):kr A (xh7 X.K) xh2:=by
 rintro os n rho sg H ds vs d1 d2 v1 v2 c Q I ⟨ks,es,k,rfl,rfl,hn,hl,q⟩ hQ;obtain⟨I1,J⟩:=I.pop;obtain⟨I2,Y⟩:=I1.pop;unfold Rep at J;obtain⟨a,bs,xs,rfl,⟨hz,hH⟩,kk,rs⟩:=J;obtain⟨b,ys,rfl,sq,O⟩:=Y.tup_inv;have e:=UF O;subst e
 exact⟨a,b,ks,bs,xs,k,_,rfl,rfl,hH,by rw[L];exact kk,hn,by rw[hl,rs.length],by rw[L];exact sq.sq,hQ _ _ _ ⟨os,I2.push (Rep.ofS (d:=.bl _) rfl)⟩ q⟩
end
def xc7(a:Addr)(acc:List (List Int × Addr × V)):Heap->Prop:=QQ a (acc.map (·.1)) (acc.map (·.2.1)) (acc.map (·.2.2))
section
variable {X:Cx}{scope:Scope}{own M:List Str}{pins:QqL}{σ:St}{H2:Hp}{s2:Shared}{tg iter kx vx:Expr}{ifs:List Expr}{pos:Pos}{g:TG}{tt:TT}{tk tv:TE}
section
variable {X:Cx}{scope:Scope}{own M:List Str}{tg iter kx vx:Expr}{ifs:List Expr}{pos:Pos}{g:TG}{tt:TT}{tk tv:TE}
def KL.zip(r:KF kL acc xs):xs=JZ (acc.map (·.1)) (acc.map (·.2.1)) (xs.map (·.2.2))/\Vals (acc.map (·.2.2)) (xs.map (·.2.2)):=by
 induction r with
 |nil=>exact⟨rfl,.nil⟩
 |@cons p q ps qs J t L=>
  obtain⟨a,b,c⟩:=q;refine⟨?_,.cons J.2.2 L.2⟩;show(a,b,c)::qs=(kL p.1,p.2.1,c)::JZ _ _ _;rw[<- L.1,J.1,J.2.1]
def zO0{X:Cx}{H:Hp}{D:Addr}{h:Heap}{ob:Obj}{acc:List (List Int × Addr × V)}{vs:List (List Key × Addr × Value)}(J:(D == sysModules)=false)(ho:h.get? D=some ob)(O:xL8 X.prog X.w ob vs)(rv:KF kL acc vs):ObjOk X.prog X.w H h D (.ext (xc7 D acc)):=by
 obtain⟨hc,es,ep,h1,h2,h3⟩:=O;obtain⟨z1,z2⟩:=KL.zip rv;refine⟨⟨J,ob,es,ep,vs.map (·.2.2),ho,hc,h1,z2,?_⟩,⟨ob,ho⟩,λg1 g2 ⟨f0,o3,Y,aa,L,f1,f2,f3,f4,f5⟩ hk=>⟨f0,o3,Y,aa,L,hk _ f1,f2,f3,f4,f5⟩⟩;rw[h2]
 conv=>lhs;rw[z1]
 exact(QO ..).symm
abbrev zp1(K:W.Frag):=Qh (λH b (k:List Int)=>SqT K H b (k.map V.int)) (λD acc=>.ext (xc7 D acc))
def zs5(ok:CompOk X scope M)(O:X.A.units<cLine)(hc:X.calm=true)(hi:PI X tg iter wi)(hg:∀C s2 H2 fp,PG (wa X scope own M C s2 H2 fp) tg g)(ht:∀C s2 H2 fp,PTs (wa X scope own M C s2 H2 fp) ifs tt)
  (Y:∀C s2 H2 fp,PE (wa X scope own M C s2 H2 fp) kx tk) (he:∀C s2 H2 fp,PE (wa X scope own M C s2 H2 fp) vx tv) (hs:∀x,foldedSetIterable iter X.env x=pure x:=by intro _;rfl) :
  PE X (.DictComp kx vx [⟨tg,iter,ifs,0⟩] scope pos) (zp1 X.K wi own.length g tt tk tv):=
 KB (kf:=kL) (λ_ _=>zy0) (λhK I q=>Jh I (by rw[QK,hK];exact q)) (λ_ _ J _ ho ⟨_,L,rv⟩=>zO0 J ho L rv) ok O hc hi hg ht Y he hs
end
end
def jR(k:List Int):D:=.tup (k.map D.int)
def ZE:List (List Int)->List Addr->List V->List (List Int × Addr × V)
 |k::ks,b::bs,x::xs=>(k,b,x)::ZE ks bs xs
 |_,_,_=>[]
theorem VB:∀{ks:QqI}{bs:List Addr}{xs:List V},ks.length=bs.length->ks.length=xs.length->(ZE ks bs xs).length=ks.length/\(ZE ks bs xs).map (·.1)=ks/\(ZE ks bs xs).map (·.2.1)=bs/\(ZE ks bs xs).map (·.2.2)=xs
 |[],[],[],_,_=>⟨rfl,rfl,rfl,rfl⟩
 |k::ks,b::bs,x::xs,h1,O=>by
  obtain⟨i1,i2,L,J⟩:=VB (ks:=ks) (bs:=bs) (xs:=xs) (by simpa using h1) (by simpa using O)
  refine⟨?_,?_,?_,?_⟩
  ·show(ZE ks bs xs).length+1=_;rw[i1];rfl
  ·show k::(ZE ks bs xs).map (·.1)=_;rw[i2]
  ·show b::(ZE ks bs xs).map (·.2.1)=_;rw[L]
  ·show x::(ZE ks bs xs).map (·.2.2)=_;rw[J]
 |[],_::_,_,h,_=>by simp at h
 |[],[],_::_,_,h=>by simp at h
 |_::_,[],_,h,_=>by simp at h
 |_::_,_::_,[],_,h=>by simp at h
theorem VA:∀{ks:QqI}{bs:List Addr}{xs:List V} (k:List Int) (b:Addr) (x:V),ks.length=bs.length->ks.length=xs.length->ZE (ks++[k]) (bs++[b]) (xs++[x])=ZE ks bs xs++[(k,b,x)]
 |[],[],[],_,_,_,_,_=>rfl
 |k'::ks,b'::bs,x'::xs,k,b,x,h1,J=>by
  show(k',b',x')::ZE (ks++[k]) (bs++[b]) (xs++[x])=(k',b',x')::(ZE ks bs xs++[(k,b,x)])
  rw[VA k b x (by simpa using h1) (by simpa using J)]
 |[],_::_,_,_,_,_,h,_=>by simp at h
 |[],[],_::_,_,_,_,_,h=>by simp at h
 |_::_,[],_,_,_,_,h,_=>by simp at h
 |_::_,_::_,[],_,_,_,_,h=>by simp at h
theorem UB{K:W.Frag}{G:QqE}{Z:QqA}{H:Hp}:∀{ks:QqI}{bs:List Addr},Reps K G Z H (ks.map jR) (bs.map V.ref)->KeysAt K Z H ks bs
 |[],[],_=>rfl
 |[],b::bs,r=>by have:=r.nil_inv;simp at this
 |k::ks,[],r=>by
  obtain⟨v,r',e,_⟩:=Reps.split r;simp at e
 |k::ks,b::bs,r=>by
  obtain⟨v,r',e,q,t⟩:=Reps.split r;rw[zD] at e;cases e;obtain⟨b',ys,L,sq,J⟩:=q.tup_inv;cases L;have e:=UF J;subst e;exact⟨b,bs,rfl,sq,UB t⟩
theorem zg8{K:W.Frag}{Z:QqA}{H:Hp}:∀{ks:QqI}{bs:List Addr}{xs:List V},KeysAt K Z H ks bs->∀x∈ZE ks bs xs,SqT K H x.2.1 (x.1.map V.int)
 |[],_,_,_,x,hx=>by cases hx
 |_::_,[],_,_,x,hx=>by cases hx
 |_::_,_::_,[],_,x,hx=>by cases hx
 |k::ks,b::bs,y::xs,h,x,hx=>by
  unfold KeysAt at h;obtain⟨b',r,e,q,t⟩:=h;cases e
  rcases zj.mp hx with e |hx
  ·subst e;exact q.sq
  ·exact zg8 t x hx
def Xs(own:Nat)(g:TGD)(tt:TBD)(tk tv:TD)(rho:Rho)(P:List (List Int)->List D->Nat->Prop)(items:List D)(n1:Nat):Prop:=items.length<=sizeLine/\∃J:Nat->List (List Int)->List D->Nat->Prop,J 0 [] [] n1 /\
 (∀i d ks es n,items[i]?=some d->J i ks es n->g d (replicate own none++rho) λrho'=>rho'.drop own=rho/\tt rho' n λc L=>if c=true then tk rho' L λdk Y=>tv rho' Y λdv O=>∃k,dk=jR k/\k ∉ ks/\J (i+1) (ks++[k]) (es++[dv]) O else J (i+1) ks es L) /\
 ∀ks es n,J items.length ks es n->P ks es n
def QS(it:TID)(own:Nat)(g:TGD)(tt:TBD)(tk tv:TD):TD:=λrho n P=>it rho n (Xs own g tt tk tv rho λks es J=>P (.dcL ks es) J)
@[simp] theorem xi2{it own g tt tk tv rho n P}:QS it own g tt tk tv rho n P=it rho n (Xs own g tt tk tv rho λks es J=>P (.dcL ks es) J):=rfl
section
variable {A:AC}{X:Cx}{it:TID}{g:TGD}{tt:TBD}{tk tv:TD}{tg iter kx vx:Expr}{ifs:List Expr}{scope:Scope}{own M:List Str}{pos:Pos}
def zh9{m:Nat}(h:tOf A (QS it m g tt tk tv) sg H Q):zp1 A.K (iOf A it) m (gOf A m g) (VF A tt) (tOf A tk) (tOf A tv) sg H Q:=by
 obtain⟨rho,n,P,ds,vs,I,ht,hQ⟩:=h;refine⟨rho,n,_,ds,vs,I,ht,λJ H' n' items es ws I1 hl hJ k=>?_⟩;obtain⟨hsz,W,w0,turn,fin⟩:=k
 refine⟨λi mm acc H=>mm=items.length-i/\i<=items.length/\∃ks bs L xs n,acc=ZE ks bs xs/\ks.length=bs.length/\ks.length=xs.length/\ks.length<=i/\xs.length=L.length/\Am A n rho sg H (es++(ks.map jR++(L++ds))) (ws++(bs.map V.ref++(xs++vs)))/\W i ks L n,
  ⟨items.length,rfl,xq _,[],[],[],[],n',rfl,rfl,rfl,zo _,rfl,I1,w0⟩,?_,?_⟩
 ·rintro i mm acc H3 ⟨rfl, hi, ks, bs, L, xs, n3, rfl, O, aa, ap, ad, ⟨os, I3⟩, w3⟩ x hx;obtain⟨I4,r1⟩:=I3.split hl
  obtain⟨I5,r2⟩:=I4.split (by simpa using O.symm)
  exact zg8 (UB r2) x hx
 rintro i mm acc H3 ⟨rfl,hi,ks,bs,L,xs,n3,rfl,O,aa,ap,ad,⟨os,I3⟩,w3⟩;obtain⟨aA,ag,ao,am⟩:=VB O aa
 have ah:(bs.map V.ref).length=(ks.map jR).length:=by simpa using O.symm
 obtain⟨j1,j2⟩:=hJ n3 rho sg H3 (ks.map jR++(L++ds)) (bs.map V.ref++(xs++vs)) i ⟨os,I3⟩
 by_cases Y:i<items.length
 ·refine .inr ⟨(j1 items[i] (by simp [Y])).1, by lia, λx H4 y => ?_⟩
  obtain⟨az,I4⟩:=(j1 items[i] (by simp[Y])).2 x H4 y
  refine⟨replicate m none++rho,n3,_,items[i],_,_,⟨_,I4.front m⟩,turn i items[i] ks L n3 (by simp[Y]) w3,λrho' sg' ⟨al,I5⟩ e5 k5=>?_⟩
  obtain⟨k5,k6⟩:=k5
  have e6:sg'.drop m=sg:=by rw[e5,wR (by simp)]
  refine⟨e6,rho',n3,_,_,_,⟨al,I5⟩,k6,λc H6 n6 ⟨ak,I6⟩ k7=>?_⟩
  cases c with
  |false=>
   obtain⟨aj,I7⟩:=I6.back k5 e6
   exact⟨items.length-(i+1),q5,rfl,Y,ks,bs,L,xs,n6,rfl,O,aa,q5,ad,⟨aj,I7⟩,k7⟩
  | true =>
   rw[if_pos rfl] at k7 ⊢;refine⟨rho',n6,_,_,_,⟨ak,I6⟩,k7,λvk H8 n8 dk I8 k8=>?_⟩;refine⟨rho',n8,_,_,_,I8,k8,λv H9 n9 d ⟨ay,I9⟩ k9=>?_⟩;obtain⟨kk,rfl,af,w9⟩:=k9;obtain⟨ae,ax⟩:=I9.back k5 e6;obtain⟨aw,rv⟩:=ax.pop;obtain⟨av,rk⟩:=aw.pop;obtain⟨au,r1⟩:=av.split hl;obtain⟨ar,r2⟩:=au.split ah;obtain⟨aq,r3⟩:=ar.split ad;obtain⟨b,ys,rfl,_⟩:=Rep.tup_inv rk
   refine⟨kk,b,items.length-(i+1),rfl,by rw[ag];exact af,q5,rfl,Y,ks++[kk],bs++[b],L++[d],xs++[v],n9,(VA kk b v O aa).symm,by simp[O],by simp[aa],by simp;lia,by simp[ad],⟨ae,?_⟩,w9⟩
   have ai:Reps A.K A.G (Zof A ae) H9 ((ks++[kk]).map jR) ((bs++[b]).map V.ref):=by
    rw[zE,zE];exact r2.append (.cons rk .nil)
   exact((aq.join (r3.append (.cons rv .nil))).join ai).join r1
 ·have e : i = items.length := by lia
  subst e
  refine .inl ⟨j2 (zo _),q5,λp hp=>?_⟩
  obtain⟨I4,r1⟩:=I3.split hl;obtain⟨I5,r2⟩:=I4.split ah;obtain⟨I6,r3⟩:=I5.split ad;dsimp only;unfold xc7;rw[ag,ao,am];exact hQ _ _ n3 _ ⟨os,I6.newDcl (UB r2) r3 hp⟩ (fin ks L n3 w3)
def zt0{l:Nat}(L:Room l X.A)(Y:X.K=A.K)(ok:CompOk X scope M)(O:X.calm=true)(hi:PID A X tg iter it)(hg:∀C J H2 fp,PGD A (wa X scope own M C J H2 fp) own.length tg g)(ht:∀C J H2 fp,PTs (wa X scope own M C J H2 fp) ifs (VF A tt))
  (hk:∀C J H2 fp,PD A (wa X scope own M C J H2 fp) kx tk) (he:∀C J H2 fp,PD A (wa X scope own M C J H2 fp) vx tv) (hs:∀x,foldedSetIterable iter X.env x=pure x:=by intro _;rfl):PD A X (.DictComp kx vx [⟨tg,iter,ifs,0⟩] scope pos) (QS it own.length g tt tk tv):=by exists (zs5 ok (by have:=L.un;lia) O hi hg ht hk he hs).imp λ_ _ _ h=>by rw[Y];exact zh9 h
end
end L2
namespace L2
open PySem PySem.Spec PyProof.Rows PySem.SeqAt
def zN7:∀a b:List Int,eqD (jR a) (jR b)=decide (a=b):=by
 have e:∀a b:List Int,ZB (a.map D.int) (b.map D.int)=decide (a=b):=by
  intro a
  induction a with
  |nil=>intro b;cases b<;>(unfold ZB;rfl)
  | cons x a J =>
   intro b
   cases b with
   |nil=>unfold ZB;rfl
   |cons y b=>
    rw[zD,zD];unfold ZB;rw[J b];show((x == y)&&decide (a=b))=_
    by_cases h1:x=y<;>by_cases L:a=b<;>simp[h1,L]
 intro a b;unfold jR eqD;exact e a b
def zd8(a:List Int):okE (jR a) 20=true:=by
 have e:∀(a:List Int) (k:Nat),Vi (a.map D.int) k=true:=λa k=>by
  induction a with
  |nil=>unfold Vi;rfl
  |cons x a J=>rw[zD];unfold Vi;rw[J];rfl
 unfold jR okE;exact e a 19
section
variable {X:Cx}{A:AC}
def xG7(K:W.Frag):R2:=λx y H Q=>∃(G:QqE) (Z:QqA) (k:List Int) (ks:QqI),Rep K G Z H (jR k) x/\Rep K G Z H (.tup (ks.map jR)) y/\Q (.bl (decide (k∈ks))) H
def xl2{n:Nat}(hr:Room n X.A):OpR X (compareOp .In) (xG7 X.K):=by
 classical
 intro pins s σ H x y v u Q I rx ry h;obtain⟨G,Z,k,ks,r1,r2,q⟩:=h;obtain⟨p,xs,rfl,sp,rr⟩:=r2.tup_inv;cases ry;obtain⟨its,rv,pl,hz⟩:=I.tuple sp.sq;have hu:=hr.units;have af:=rv.length;have ae:=rr.length;rw[zg] at ae
 have at_:∀(i:Nat) (w:Value),its[i]?=some w->∃k',ks[i]?=some k'/\∃t,w=.ref t/\SqT X.K H t (k'.map V.int)/\∃z,Rep X.K G Z H (jR k') z/\RelV z w:=λi w e=>by
  have hi:i<its.length:=(zm.mp e).1
  have Y:ks[i]?=some ks[i]:=ze q5
  obtain⟨z,ad,J⟩:=rr.get (i:=i) (d:=jR ks[i]) (by rw[zw,Y];rfl)
  obtain⟨w',O,L⟩:=rv.get ad;rw[e] at O;cases O;obtain⟨t,ys,rfl,sq,rz⟩:=Rep.tup_inv (show Rep X.K G Z H (.tup (ks[i].map D.int)) z from J);have:=UF rz;subst this;exact⟨_,Y,t,L,sq.sq,_,J,L⟩
 have ed:∀(i:Nat) (w:Value) (k':List Int),its[i]?=some w->ks[i]?=some k'->(decide (∃j,its[j]?=some w/\ks[j]?=some k)=decide (k'=k)):=λi w k' e1 e2=>by
  by_cases hk:k'=k
  ·rw [xh hk]
   exact xh ⟨i,e1,by rw[e2,hk]⟩
  ·rw [zN hk];refine zN ?_;rintro⟨j,e3,e4⟩;obtain⟨k1,f1,t1,g1,s1,_⟩:=at_ i w e1;obtain⟨k2,f2,t2,g2,s2,_⟩:=at_ j w e3;rw[e2] at f1;rw[e4] at f2;cases f1;cases f2;rw[g1] at g2;cases g2;have:=I.tuple_inj s1 s2
   exact hk ((List.map_inj_right (λa b e=>by cases e;rfl)).mp this)
 refine SeqAt.in_tupleAt (λw:Value=>decide (∃j:Nat,its[j]?=some w/\ks[j]?=some k)) pl (λw hw=>?_) ⟨.bl _,H,I,rfl,?_⟩
 ·obtain ⟨i, hi⟩ := List.getElem?_of_mem (show w ∈ its by simpa using hw)
  obtain⟨k',Y,t,ew,sq,z,rz,aa⟩:=at_ i w hi
  have E:=(Jm I 20 (jR k') (jR k) z x w v X.A.in1 (zd8 _) (zd8 _) rz r1 aa rx (by show X.A.units+1+_<cLine;lia)).1
  rw[zN7,<- ed i w k' hi Y] at E;exact E
 ·have : its.toArray.any (λw : Value => decide (∃ j : Nat, its[j]? = some w /\ ks[j]? = some k)) = decide (k ∈ ks) := by
   rw[List.any_toArray,xW,yj,ww]
   constructor
   ·rintro⟨w,_,h⟩;obtain⟨j,_,h⟩:=of_decide_eq_true h;exact zM h
   ·intro h;obtain⟨j,hj⟩:=List.getElem?_of_mem h
    have hj':j<its.length:=by have:=(zm.mp hj).1;lia
    exact⟨its[j],wm hj',xh ⟨j,ze hj',hj⟩⟩
  rw[this];exact q
def xw5:RD2:=λd1 d2 c=>∃(k:List Int) (ks:QqI),d1=jR k/\d2=.tup (ks.map jR)/\c (.bl (decide (k∈ks)))
def xg7(Y:X.K=A.K):kr A (xG7 X.K) xw5:=by
 rintro os n rho sg H ds vs d1 d2 v1 v2 c Q I ⟨k,ks,rfl,rfl,q⟩ O;obtain⟨I1,J⟩:=I.pop;obtain⟨I2,L⟩:=I1.pop;rw[Y];exact⟨_,_,k,ks,L,J,O _ _ _ ⟨os,I2.push (Rep.ofS (d:=.bl _) rfl)⟩ q⟩
end
end L2
set_option maxHeartbeats 1000000
open L2
namespace K49
abbrev qZ0:List Str:=["one","other"]
abbrev qZ1:List Str:=["_law_left_here","_law_house_here"]
abbrev qZ2:List Str:=["ends","pair"]
abbrev qZ3:List Str:=["house","tree","box","kind","k"]
abbrev qZ4:List Str:=["_law_house_here","_law_tree_here","_law_plain_here","_law_kind_here","_law_k"]
abbrev qZ5:List Str:=["_law_left_here","_law_d","_law_things","_law_turn"]
abbrev qZ6:List Str:=["_law_edges","_law_plain_here"]
abbrev qZ7:List Str:=["by_name","trees","plain","kind"]
abbrev qZ8:List Str:=["ends","pair","side"]
abbrev qZ9:List Str:=["path","limits","plain"]
abbrev xC6:List Str:=["_law_found","_law_due"]
abbrev xC5:List Str:=["_law_tree_here","_law_plain_here","_law_path"]
abbrev xC4:List Str:=["_law_edges","_law_place"]
abbrev xC3:List Str:=["_law_house_here","_law_tree_here","_law_kind_here"]
abbrev xC2:List Str:=["tree","waiting","k"]
abbrev xC1:List Str:=["_law_tree_here","_law_plain_here","_law_waits","_law_path"]
abbrev xC0:List Str:=["_law_left_here","_law_house_here","_law_i"]
abbrev xB9:List Str:=["gone","house","tree","box","kind","k"]
abbrev xB8:List Str:=["_law_edges","_law_plain_here","_law_i","_law_side"]
def top(i:Nat):Stmt:=PySem.Challenge.pw_boxlayers_k49_drawn_papers_told.main.body.getD i (.Pass ⟨0,0,0,0⟩)
abbrev End:=Option (Int × Bool)
abbrev Ka:=End × End
def kY:End->D
 |none=>.non
 |some (n,s)=>.tup [.int n,.bl s]
def WV:Option Int->D
 |none=>.non
 |some i=>.int i
def qm(s:Ka):D:=.tup [kY s.1,kY s.2]
def vq(b:List Ka):D:=.tup (b.map qm)
def yF(p:List Int):D:=.tup (p.map D.int)
def Jf:End->Option Int
 |none=>none
 |some (n,s)=>some (if s then n else n+1)
def ze9:End->Option Int
 |none=>none
 |some (n,s)=>some (if s then n else n-1)
def liesT(lo hi:Option Int)(x:Int):Bool:=(match lo with |none=>true |some l=>decide (l<=x))&&(match hi with |none=>true |some g=>decide (x<=g))
@[simp] theorem xu6:kY none=.non:=rfl
@[simp] theorem xu5{n:Int}{s:Bool}:kY (some (n,s))=.tup [.int n,.bl s]:=rfl
def XU(e:End):xG (kY e)=true:=by rcases e with _ |⟨n,s⟩<;>rfl
section
variable {P:Program}{w:World}{K:W.Frag}{mg:QqM}{base:Heap}{f:Addr}{fd:FuncData}
abbrev Yq:Stmt:=top 2
abbrev zm5:List Str:=["low","number","shut"]
def Zh:FnScope zm5 ["low"] (zW Yq):=⟨rfl,rfl,rfl,w5,rfl,w5,w5⟩
def Yh:TF:=λds n Q=>∃e:End,ds=[kY e]/\Q (WV (Jf e)) n
def Qz(F:Fun K "least_of" "least_of" Yq f fd):FnOk P w K mg base CX0 1 f fd ["low"] (spD K 1 Yh):=by
 refine Fun.okD F Zh (λJ Y outer s H E G Z L=>(zx (yU (xR kB kw (zf 0) yV (wg _)) (zF (xp yV)) wI)
  (zx (jo (m:=3) (zf 0) (vy (k:=2) rfl rfl (xn (zZ (i:=1) Zh.nd rfl (lo rfl) q9) (xn (zZ (i:=2) Zh.nd rfl (lo rfl) q9) vb))))
  (zF (xp (Um (kn (zf 2)) (zf 1) (vX (zf 1) zq))))))) ?_
 rintro ds n Q O ⟨e,rfl,q⟩
 rcases e with _ |⟨m,s⟩
 ·simp[startD,kY];exact q
 ·cases s<;>(simp[startD,kY];exact q)
abbrev qA:Stmt:=top 3
abbrev US:List Str:=["high","number","shut"]
def qg:FnScope US ["high"] (zW qA):=⟨rfl,rfl,rfl,w5,rfl,w5,w5⟩
def qw:TF:=λds n Q=>∃e:End,ds=[kY e]/\Q (WV (ze9 e)) n
def WK(F:Fun K "greatest_of" "greatest_of" qA f fd):FnOk P w K mg base CX0 1 f fd ["high"] (spD K 1 qw):=by
 refine Fun.okD F qg (λJ Y outer s H E G Z L=>(zx (yU (xR kB kw (zf 0) yV (wg _)) (zF (xp yV)) wI)
  (zx (jo (m:=3) (zf 0) (vy (k:=2) rfl rfl (xn (zZ (i:=1) qg.nd rfl (lo rfl) q9) (xn (zZ (i:=2) qg.nd rfl (lo rfl) q9) vb))))
  (zF (xp (Um (kn (zf 2)) (zf 1) (jr (zf 1) zq))))))) ?_
 rintro ds n Q O ⟨e,rfl,q⟩
 rcases e with _ |⟨m,s⟩
 ·simp[startD,kY];exact q
 ·cases s<;>(simp[startD,kY];exact q)
abbrev XE:Stmt:=top 6
abbrev zE5:List Str:=["span","low","high"]
def Yl:FnScope zE5 ["span"] (zW XE):=⟨rfl,rfl,rfl,w5,rfl,w5,w5⟩
def Xz:TF:=λds n Q=>∃s:Ka,ds=[qm s]/\Q (.tup [WV (Jf s.1),WV (ze9 s.2)]) n
def zi8(F:Fun K "pair_of" "pair_of" XE f fd)(F_least_of:Fn P w K mg base "least_of" 1 1 Yh)(F_greatest_of:Fn P w K mg base "greatest_of" 1 1 qw):FnOk P w K mg base CX0 2 f fd ["span"] (spD K 1 Xz):=by
 refine Fun.okD F Yl (λL Y outer s H E G Z J=>(zx (jo (m:=3) (zf 0) (vy (k:=2) rfl rfl (xn (zZ (i:=1) Yl.nd rfl (lo rfl) q9) (xn (zZ (i:=2) Yl.nd rfl (lo rfl) q9) vb))))
  (zF (xp (wf (zc (wt F_least_of (J.mono q9) rfl (zc (zf 1) zi)) (zc (wt F_greatest_of (J.mono q9) rfl (zc (zf 2) zi)) zi))))))) ?_
 rintro ds n Q O ⟨s,rfl,q⟩;simp[startD,qm,XU];exact⟨s.1,rfl,s.2,rfl,q⟩
end
def zR0{k:Int}(h0:0<=k)(h1:k<es.length)(h:∀d∈es,R d):Zt (.lst es) (.int k) R:=by
 obtain⟨d,e,m⟩:=zD8 h0 h1;exact zV8.mpr ⟨d,e,h d m⟩
def zs1{js:List Int}{k:Int}{R:D->Prop}(lo hi:Int)(h0:0<=k)(h1:k<js.length)(L:∀j∈js,lo<=j/\j<=hi)(h:∀j:Int,lo<=j->j<=hi->R (.int j)):Zt (.lst (js.map D.int)) (.int k) R:=by
 refine zR0 h0 (by simpa using h1) λd hd=>?_
 obtain⟨j,J,rfl⟩:=zk.mp hd;exact h j (L j J).1 (L j J).2
def jm(c:Nat):(zi3 0 c).length=c:=by unfold zi3;rw[zg,yg]
def XG{c i:Nat}(h:(zi3 0 c)[i]?=some d):i<c/\d=.int (i:Int):=by
 have hi:i<c:=by have:=(zm.mp h).1;rw[jm] at this;exact this
 refine⟨hi,?_⟩;unfold zi3 at h;rw[zw,wO hi] at h;have:=zP h;rw[<- this];simp
def Jv{own:Nat}(items:List D)(L:Nat)(J:D->D->Prop)(hz:items.length<=sizeLine)
  (he:∀(i:Nat) (d:D),items[i]?=some d->∀Q:D->Nat->Prop,(∀e,J d e->Q e L)->g d (replicate own none++rho) λrho'=>rho'.drop own=rho/\te rho' L Q)
  (Y:∀es,Paired J items es->P (.lst es) L):Jx own g xd7 te rho P items L:=by
 refine⟨hz,λi acc n=>Paired J (items.take i) acc/\n=L,⟨.nil,rfl⟩,?_,?_⟩
 ·rintro i d acc n e ⟨h1,rfl⟩;refine he i d e (λe O=>Paired J (items.take (i+1)) (acc++[e])/\O=n) λc hg=>⟨?_,rfl⟩;rw[xm,e];exact Paired.snoc h1 hg
 ·rintro acc n ⟨h1,rfl⟩;rw[xY] at h1;exact Y acc h1
section
variable {P:Program}{w:World}{K:W.Frag}{mg:QqM}{base:Heap}{f:Addr}{fd:FuncData}
abbrev Zq:Stmt:=top 32
abbrev zb3:List Str:=["_law_script","_law_k","_law_cell","_law_digits"]
def qe:FnScope zb3 ["_law_script","_law_k"] (zW Zq):=⟨rfl,rfl,rfl,w5,rfl,w5,w5⟩
def zo6:TF:=λds n Q=>∃(ns:List Int) (j:Int),ds=[wD ns,.int j]/\ns.length<=63/\0<=j/\j<1000/\∀x y:Int,0<=x->0<=y->y<2147483647->Q (.lst [.int x,.int y,.int 0]) n
def zY9(T:Blt mg)(F:Fun K "_law_left" "_law_left" Zq f fd):FnOk P w K mg base CX0 1 f fd ["_law_script","_law_k"] (spD K 2 zo6):=by
 refine Fun.okD F qe (λad A0 outer s H E G Z hr=>(zx (yf (i:=2) qe.nd rfl (lo rfl) zq)
  (zx (yU (xR YZ YX (xZ wE kC T.len vZ (zc (zf 0) zi)) zq (wg _)) (zF (yf (i:=2) qe.nd rfl (lo rfl) (xU xk xT (zf 0) (qX (zf 1) (xZ wE kC T.len vZ (zc (zf 0) zi))) (λ_ _=>rfl)))) wI)
  (zx (yf (i:=3) qe.nd rfl (lo rfl) (jY (qX (xZ zg2 zT0 T.abs zT3 (zc (zf 2) zi)) (KD zq zq)) (yq Wz QT T.int zD4 (zc (qY xD4 xw3 (xZ zg2 zT0 T.abs zT3 (zc (zf 2) zi)) (KD zq zq) (wg _)) zi))))
  (zF (xp (vg (zc (zf 3) (zc (qX (jY (vX (vX (qX (zf 2) zq) (jY (jY zq (zf 1)) (zf 1))) zq) zq) zq) (zc zq zi)))))))))) ?_
 rintro ds n Q hl ⟨ns,j,rfl,Y,J,aa,q⟩;have O:∀{i j:Int},(-(2^64)<i/\i<2^64)->CMul i j:=λh=>.inl h;have cm':∀{i j:Int},(-(2^64)<j/\j<2^64)->CMul i j:=λh=>.inr h
 have h7:0<=7919*j*j:=Int.mul_nonneg q5 J
 have h8:7919*j*j<=7919*j*1000:=Int.mul_le_mul_of_nonneg_left q5 q5
 generalize hS:XF (zc2 3 _) _=S
 have cont:∀(x:Int) (F:EndsD),F.rt=Q->S F [some (wD ns),some (.int j),some (.int x),none] n:=λx F hF=>by
  subst hS;simp[hF]
  have ab:0<=(if x<0 then -x else x):=by split<;>lia
  have L:∀c:Prop,[Decidable c]->(0:Int)<=(if c then 1 else 0)/\(if c then 1 else 0)<(2:Int):=λc _=>by split<;>lia
  refine⟨⟨q9,q9,q9⟩,⟨q9,q9,q9⟩,cm' ⟨?_,?_⟩,O ⟨q9,q9⟩,O ⟨q5,q5⟩,cm' ⟨q9,q9⟩,q _ _ (Int.mul_nonneg (wC _ q9) (L _).1) (wC _ q9) (wZ _ q9)⟩
  ·have:=(L (1000000000000000000<=if x<0 then -x else x)).1;lia
  ·have:=(L (1000000000000000000<=if x<0 then -x else x)).2;lia
 simp[startD,wD]
 split
 ·rename_i h
  refine⟨q5,?_⟩
  obtain⟨d,e,m⟩:=zD8 (xs:=ns.map D.int) (i:=j%ns.length) (wC _ q5) (by simpa using wZ j q5)
  obtain⟨x,_,rfl⟩:=zk.mp m;exact⟨_,e,cont x _ rfl⟩
 ·exact cont 0 _ rfl
abbrev Zp:Stmt:=top 33
abbrev zb2:List Str:=["_law_left_here","_law_many","_law_digit"]
def YL:FnScope zb2 ["_law_left_here","_law_many"] (zW Zp):=⟨rfl,rfl,rfl,w5,rfl,w5,w5⟩
def ZJ:TF:=λds n Q=>∃m:Int,ds=[.st,.int m]/\n=3/\0<m/\m<10000000/\∀k:Int,0<=k->k<m->Q (.int k) n
def zY6(F:Fun K "_law_pick" "_law_pick" Zp f fd):FnOk P w K mg base CX0 1 f fd ["_law_left_here","_law_many"] (spD K 2 ZJ):=by
 refine Fun.okD F YL (λad A0 outer s H E G Z hr=>(zx (yU (xR YZ YX (jt (i:=0) zq (λ_ _=>rfl)) zq (wg _)) (zx (yf (i:=2) YL.nd rfl (lo rfl) (qX (jt (i:=0) zq (λ_ _=>rfl)) (zf 1)))
  (zx (XM (i:=0) (Vh (jt (i:=0) zq (λ_ _=>rfl)) (zf 1)) zq)
  (zF (xp (zf 2))))) wI)
  (zx (XM (i:=0) (vX (jt (i:=0) zq (λ_ _=>rfl)) zq) zq)
  (zx (XM (i:=0) (qX (vX (vX (jY (jt (i:=0) zq (λ_ _=>rfl)) zq) zq) (jt (i:=0) zq (λ_ _=>rfl))) zq) zq)
  (zF (xp (qX (Vh (qX (jY (jt (i:=0) zq (λ_ _=>rfl)) (jt (i:=0) zq (λ_ _=>rfl))) zq) zq) (zf 1)))))))) ?_
 rintro ds n Q hl ⟨m,rfl,rfl,J,aa,q⟩;have Y:∀{i j:Int},(-(2^64)<i/\i<2^64)->CMul i j:=λh=>.inl h;simp[startD];intro z0 h0
 split
 ·intro z hz
  exact⟨J,λz1 L=>⟨⟨J,q5⟩,Int.ediv_nonneg L q5,q _ (wC _ q5) (wZ _ J)⟩⟩
 ·intro z hz
  refine⟨q5,λy hy O=>⟨Y ⟨q5,q5⟩,λx hx=>⟨wC _ q9,wZ _ q9,λy hy O z1 h1 h1'=>⟨Y ⟨q5,q5⟩,⟨q9,q9⟩,J,q _ (wC _ q5) (wZ _ J)⟩⟩⟩⟩
def wb{m:Int}(h0:0<m)(h1:m<10000000)(h:∀k:Int,0<=k->k<m->Q (.int k) 3):ZJ [.st,.int m] 3 Q:=⟨m,rfl,rfl,h0,h1,h⟩
end
abbrev Thing:=Int × List Int × Int
def xB(t:Thing):D:=.tup [.int t.1,yF t.2.1,.int t.2.2]
def wo(d:Nat)(ts:List Thing):D:=.tup [.int d,.tup (ts.map xB)]
def zP4(m x:Int):Prop:=∃a e:Int,x=1000000000000000*a+e/\-m<=e/\e<=m
def jT(x:Int):Prop:=(-100000000000000000<=x/\x<=100000000000000000)/\zP4 500 x
def zj2(x:Int):Prop:=(-100000000000000002<=x/\x<=100000000000000002)/\zP4 502 x
structure GoodT(d:Nat)(ts:List Thing)(top:Int):Prop where
 each:∀t∈ts,0<=t.1/\t.1<top/\t.2.1.length=d/\(∀x∈t.2.1,jT x)/\jT t.2.2
 up:ts.Pairwise λa b=>a.1<b.1
def GoodT.nil(d:Nat)(top:Int):GoodT d [] top:=⟨by simp,.nil⟩
def GoodT.snoc{d:Nat}{x top:Int}(h:GoodT d ts x)(hx:0<=x)(ht:x<top)(O:p.length=d)(hs:∀x∈p,jT x){y:Int}(L:jT y):GoodT d (ts++[(x,p,y)]) top:=by
 refine⟨λt J=>?_,?_⟩
 ·rcases xi.mp J with J | J
  ·have := h.each t J
   exact⟨this.1,q5,this.2.2⟩
  ·rw[zB.mp J];exact⟨hx,ht,O,hs,L⟩
 ·rw [List.pairwise_append]
  refine⟨h.up,by simp,λa ha b Y=>?_⟩
  rw[zB.mp Y];exact(h.each a ha).2.1
def GoodT.more{d:Nat}{x top:Int}(h:GoodT d ts x)(ht:x<=top):GoodT d ts top:=⟨λt J=>by have:=h.each t J;exact⟨this.1,q5,this.2.2⟩,h.up⟩
def GoodT.nodup{d:Nat}{x:Int}(h:GoodT d ts x):(ts.map λt=>t.1).Nodup:=xE.mpr (h.up.imp λ{a b} h=>by lia)
theorem ju{S:Int->Prop}:∀{l es:List D},Paired (λ_ e=>∃x:Int,S x/\e=.int x) l es->∃xs:List Int,es=xs.map D.int/\∀x∈xs,S x
 |_,_,.nil=>⟨[],rfl,by simp⟩
 |_,_,.cons r t=>by
  obtain⟨x,hx,rfl⟩:=r;obtain⟨xs,rfl,h⟩:=ju t
  exact⟨x::xs,rfl,λy J=>by rcases zj.mp J with rfl |J;exact hx;exact h y J⟩
def JQ(s:Int):Prop:=s=1\/s=3\/s=1000000000000000
def zv5{a s:Int}(h1:-40<=a)(J:a<=40)(hs:JQ s):jT (a*s):=by
 rcases hs with rfl |rfl |rfl
 ·exact⟨⟨q5,q5⟩,0,a,q5,q5,q5⟩
 ·exact⟨⟨q5,q5⟩,0,a*3,q5,q5,q5⟩
 ·exact⟨⟨q5,q5⟩,a,0,q5,q5,q5⟩
def xj0{js:List Int}{k:Int}{R:D->Prop}(h0:0<=k)(h1:k<js.length)(h:∀j∈js,R (.int j)):Zt (.lst (js.map D.int)) (.int k) R:=by
 refine zR0 h0 (by simpa using h1) λd hd=>?_
 obtain⟨j,J,rfl⟩:=zk.mp hd;exact h j J
def ZY(p:List Int)(k:Nat):okE (yF p) (k+1)=true:=qi.mpr λd hd=>by
 obtain⟨x,_,rfl⟩:=zk.mp hd;exact jw
def zu7(t:Thing)(k:Nat):okE (xB t) (k+2)=true:=by
 refine qi.mpr λd hd=>?_;simp only[zj,zI,or_false] at hd
 rcases hd with rfl |rfl |rfl
 ·exact jw
 ·exact ZY _ _
 ·exact jw
def QB(ts:List Thing):okE (.lst (ts.map xB)) 20=true:=zZ3.mpr λd hd=>by
 obtain⟨t,_,rfl⟩:=zk.mp hd;exact zu7 t 17
def zy8{d:Nat}(h:R (.int d)):Zt (wo d ts) (.int 0) R:=⟨_,0,_,.inr (.inl rfl),rfl,rfl,h⟩
def Vt{d:Nat}(h:R (.tup (ts.map xB))):Zt (wo d ts) (.int 1) R:=⟨_,1,_,.inr (.inl rfl),rfl,rfl,h⟩
def vz(d:Nat)(ts:List Thing):xG (wo d ts)=true:=id rfl
structure JHs(d:Nat)(wd sc:Int)(i:Nat)(rho:Rho)(n:Nat):Prop where
 e:n=3
 r:∃(ts:List Thing) (x:Int) (a b c:Option D),ts.length=i/\0<=x/\x<=2+41*i/\GoodT d ts x/\rho=[some .st,some (.int d),some (.int wd),some (.int sc),some (.own (ts.map xB)),some (.int x),a,b,c]
section
variable {P:Program}{w:World}{K:W.Frag}{mg:QqM}{base:Heap}{f:Addr}{fd:FuncData}
abbrev jk:Stmt:=top 34
abbrev jH:List Str:=["_law_left_here","_law_d","_law_wide","_law_scale","_law_things","_law_name","_law_k","_law_place","_law_far"]
def yP:FnScope jH ["_law_left_here"] (zW jk):=⟨rfl,rfl,rfl,w5,rfl,w5,w5⟩
def XY:("_law_i" :: jH:List Str).Nodup:=w5
def Qc:TF:=λds n Q=>ds=[.st]/\n=3/\∀(d:Nat) (ts:List Thing),1<=d->d<=4->GoodT d ts 2000->ts.length<=30->Q (wo d ts) 3
def zK6(T:Blt mg)(F:Fun K "_law_house" "_law_house" jk f fd)(Y_pick:Fn P w K mg base "_law_pick" 1 2 ZJ):FnOk P w K mg base CX0 2 f fd ["_law_left_here"] (spD K 1 Qc):=by
 refine Fun.okD F yP (λaA A0 outer s H E G Z J=>(zx (yf (i:=1) yP.nd rfl (lo rfl) (xU xk xT (vg (zc zq (zc zq (zc zq (zc zq (zc zq (zc zq zi))))))) (wt Y_pick (J.mono q9) rfl (zc (zf 0) (zc zq zi))) (λ_ _=>rfl)))
  (zx (jo (m:=9) (wf (zc (xU xk xT (vg (zc zq (zc zq (zc zq (zc zq (zc zq (zc zq zi))))))) (wt Y_pick (J.mono q9) rfl (zc (zf 0) (zc zq zi))) (λ_ _=>rfl)) (zc (xU xk xT (vg (zc zq (zc zq (zc zq (zc (KD zq zq) zi))))) (wt Y_pick (J.mono q9) rfl (zc (zf 0) (zc zq zi))) (λ_ _=>rfl)) zi))) (vy (k:=2) rfl rfl (xn (zZ (i:=2) yP.nd rfl (lo rfl) q9) (xn (zZ (i:=3) yP.nd rfl (lo rfl) q9) vb))))
  (zx (zI4 (i:=4) (j:=5) rfl yP.nd rfl rfl q9 rfl rfl (λZ1 H1=>(wt Y_pick (J.mono q9) rfl (zc (zf 0) (zc zq zi)))))
  (zx (jq (m:=9) PassesOwn.never rfl (kQ T.range (zc (xU xk xT (vg (zc zq (zc zq (zc zq (zc zq (zc zq (zc zq (zc zq (zc zq (zc zq (zc zq zi))))))))))) (wt Y_pick (J.mono q9) rfl (zc (zf 0) (zc zq zi))) (λ_ _=>rfl)) zi)) (zZ (i:=6) yP.nd rfl (lo rfl) q9)
  (zx (yf (i:=7) yP.nd rfl (lo rfl) (yq wH vn T.tuple vo (zc (vB (own:=["_law_i"]) (M:=jH) (vD (by rfl)) rfl (kQ T.range (zc (zf 1) zi)) (λ_ _ _ _=>(zZ (i:=0) XY rfl (lo rfl) q9)) (λ_ _ _ _=>yT) (λ_ _ _ _=>(jY (jr (wt Y_pick (J.mono q9) rfl (zc (zf 1) (zc (vX (jY zq (zf 3)) zq) zi))) (zf 3)) (zf 4)))) zi)))
  (zx (yU (PWD.pt (qI (zr4 (i:=4) J rfl) (qH (xR WJ WH (wt Y_pick (J.mono q9) rfl (zc (zf 0) (zc zq zi))) zq (wg _))))) (zF (yf (i:=7) yP.nd rfl (lo rfl) (xU xk xT (zJ6 (i:=4) (wt Y_pick (J.mono q9) rfl (zc (zf 0) (zc (ZV (i:=4) T.len rfl) zi))) (λ_ _=>rfl)) zq (λ_ _=>rfl)))) wI)
  (zx (yf (i:=8) yP.nd rfl (lo rfl) (xU xk xT (vg (zc (KD zq zq) (zc (zs7 (KD zq zq)) zi))) (wt Y_pick (J.mono q9) rfl (zc (zf 0) (zc zq zi))) (λ_ _=>rfl)))
  (zx (vc (i:=4) (zc (wf (zc (zf 5) (zc (zf 7) (zc (xU xk xT (vg (zc (jr (wt Y_pick (J.mono q9) rfl (zc (zf 0) (zc zq zi))) zq) (zc (jr (wt Y_pick (J.mono q9) rfl (zc (zf 0) (zc zq zi))) zq) (zc (zf 8) zi)))) (wt Y_pick (J.mono q9) rfl (zc (zf 0) (zc zq zi))) (λ_ _=>rfl)) zi)))) zi) rfl)
  (zF (yf (i:=5) yP.nd rfl (lo rfl) (vX (vX (zf 5) zq) (xU xk xT (vg (zc zq (zc zq (zc zq (zc zq (zc zq zi)))))) (wt Y_pick (J.mono q9) rfl (zc (zf 0) (zc zq zi))) (λ_ _=>rfl))))))))))
  (zF (jp 4 (xp (wf (zc (zf 1) (zc (yq wH vn T.tuple vo (zc (zf 4) zi)) zi))))))))))) ?_
 rintro ds n Q hl ⟨rfl,rfl,q⟩;simp[startD]
 refine wb q9 q9 λk h0 h1=>zs1 (js:=[1,2,2,3,3,4]) 1 4 h0 (by simpa using h1) q9 λdd ax aw=>?_
 obtain⟨d,rfl⟩:=xz (show 0<=dd by lia)
 refine wb q9 q9 λk2 h2 h3=>zs1 (js:=[1,2,3,5,9,40]) 1 40 h2 (by simpa using h3) q9 λwd ap ao=>⟨⟨q9,q9,q9⟩,?_⟩
 refine wb q9 q9 λk3 h4 h5=>xj0 (js:=[1,1,3,1000000000000000]) h4 (by simpa using h5) λsc ai=>⟨rfl,?_⟩
 have Y:JQ sc:=by
  simp only[zj,zI,or_false] at ai;unfold JQ;lia
 have ar:1<=sc:=by unfold JQ at Y;lia
 have aq:sc<=1000000000000000:=by unfold JQ at Y;lia
 refine wb q9 q9 λx0 ae al=>⟨wS q9,?_⟩
 refine wb q9 q9 λk4 h6 h7=>zs1 (js:=[0,1,2,3,4,6,8,12,20,30]) 0 30 h6 (by simpa using h7) q9 λc az ay=>?_
 refine⟨c,rfl,q5,q5,JHs d wd sc,⟨rfl,[],x0,none,none,none,rfl,ae,q5,GoodT.nil d _,rfl⟩,?_,?_⟩
 ·rintro i d' rho n' e ⟨rfl, ts, x, u, v, z, aa, af, ad, hg, rfl⟩;obtain⟨hi,rfl⟩:=XG e;generalize hS:XF (zc2 8 _) _=S
  have cont:∀(p:List Int) (F:EndsD),F.nx=JHs d wd sc (i+1)->p.length=d->(∀y∈p,jT y) ->
    S F [some .st,some (.int d),some (.int wd),some (.int sc),some (.own (ts.map xB)),some (.int x),some (.int i),some (yF p),z] 3:=λp F hF hp L=>by
   subst hS;have np:xG (yF p)=true:=id rfl;simp[np,hF]
   refine⟨⟨q9,q9,q9⟩,wb q9 q9 λj1 g0 g1=>xj0 (js:=[100000000000000000,-100000000000000000]) g0 (by simpa using g1) λfr ag=>⟨lt_size q5,?_⟩⟩
   refine wb q9 q9 λw1 g2 g3=>?_
   simp
   refine wb q9 q9 λw2 g4 g5=>?_
   simp
   refine wb q9 q9 λw3 g6 g7=>?_
   have aj:∀R:D->Prop,(∀y:Int,jT y->R (.int y))->Zt (.lst [.int (w1-2),.int (w2-500),.int fr]) (.int w3) R:=λR hR=>zR0 g6 (by simpa using g7) λdd ah=>by
    simp only[zj,zI,or_false] at ah
    rcases ah with rfl |rfl |rfl
    ·exact hR _ ⟨⟨q5,q5⟩,0,w1-2,q5,q5,q5⟩
    ·exact hR _ ⟨⟨q5,q5⟩,0,w2-500,q5,q5,q5⟩
    ·simp only [zj, zI, or_false] at ag
     rcases ag with rfl |rfl
     ·exact hR _ ⟨⟨q9,q9⟩,100,0,q9,q9,q9⟩
     ·exact hR _ ⟨⟨q9,q9⟩,-100,0,q9,q9,q9⟩
   refine aj _ λy hy=>?_
   refine wb q9 q9 λw4 g8 g9=>zs1 (js:=[0,0,1,7,40]) 0 40 g8 (by simpa using g9) q9 λm av au=>?_
   simp
   exact⟨rfl,ts++[(x,p,y)],x+1+m,_,_,_,by simp[aa],q5,q5,hg.snoc af q5 hp L hy,by rw[zE];rfl⟩
  simp
  refine⟨q5,Jv (zi3 0 d) 3 (λ_ e=>∃x:Int,jT x/\e=.int x) (by rw[jm];exact wS q5) (λj d2 e2 Q' hQ'=>?_) (λes hp=>?_)⟩
  ·simp
   refine⟨.inl ⟨q9,q9⟩,wb q5 q5 λk g0 g1=>?_⟩
   simp
   exact⟨.inl ⟨q5,q5⟩,hQ' _ ⟨_,zv5 q5 q5 Y,rfl⟩⟩
  ·have O := hp.length;rw[jm] at O;obtain⟨ps,rfl,L⟩:=ju hp;rw[zg] at O;simp;refine⟨QB ts,?_⟩
   split
   ·exact cont ps _ rfl q5 L
   ·rename_i ak
    have am:0<ts.length:=by
     cases ts with
     |nil=>exact absurd rfl ak
     |cons t r=>simp
    refine wb q9 q9 λk g0 g1=>?_
    simp
    split
    ·refine wb q5 q5 λk4 g5 g6 => ?_
     obtain⟨y,ey,my⟩:=zD8 (xs:=ts.map xB) (i:=k4) g5 (by simp;lia)
     obtain⟨⟨y1,p1,w1⟩,ht',rfl⟩:=zk.mp my;have he:=hg.each _ ht';refine⟨_,rfl,_,ey,?_⟩;refine⟨_,_,yF p1,.inr (.inl rfl),rfl,rfl,?_⟩;exact cont p1 _ rfl he.2.2.1 he.2.2.2.1
    ·exact cont ps _ rfl q5 L
 ·rintro rho n' ⟨rfl, ts, x, u, v, z, aa, af, ad, hg, rfl⟩;rw[jm] at aa ad;simp
  exact q d ts q5 q5 (hg.more q5) q5
abbrev qD:Stmt:=top 35
abbrev qS:List Str:=["_law_left_here","_law_house_here","_law_i","_law_numbers"]
def jW:FnScope qS xC0 (zW qD):=⟨rfl,rfl,rfl,w5,rfl,w5,w5⟩
def Xa:("_law_thing" :: qS:List Str).Nodup:=w5
def ZK:TF:=λds n Q=>∃(d i:Nat) (ts:List Thing),ds=[.st,wo d ts,.int i]/\n=3/\i<d/\GoodT d ts 2000/\ts.length<=30/\∀x:Int,zj2 x->Q (.int x) 3
def zt5(T:Blt mg)(F:Fun K "_law_number" "_law_number" qD f fd)(Y_pick:Fn P w K mg base "_law_pick" 1 2 ZJ):FnOk P w K mg base CX0 2 f fd xC0 (spD K 3 ZK):=by
 refine Fun.okD F jW (λaj A0 outer s H E G Z O=>(zx (yf (i:=3) jW.nd rfl (lo rfl) (qJ KJ Kx (vB (own:=["_law_thing"]) (M:=qS) (vD (by rfl)) rfl (vw rfl (xU xk xT (zf 1) zq (λ_ _=>rfl))) (λC L H2 fp=>(zZ (i:=0) Xa rfl (lo rfl) q9)) (λC L H2 fp=>yT) (λC L H2 fp=>(xU xk xT (xU xk xT (zf 0) zq (λ_ _=>rfl)) (zf 3) (λ_ _=>rfl)))) (vg (zc zq zi))))
  (zF (xp (vX (xU xk xT (zf 3) (wt Y_pick (O.mono q9) rfl (zc (zf 0) (zc (xZ wE kC T.len vZ (zc (zf 3) zi)) zi))) (λ_ _=>rfl)) (xU xk xT (vg (zc zq (zc zq (zc zq (zc zq (zc (zs7 zq) (zc zq zi))))))) (wt Y_pick (O.mono q9) rfl (zc (zf 0) (zc zq zi))) (λ_ _=>rfl))))))) ?_
 rintro ds n Q hl ⟨d,i,ts,rfl,rfl,hi,hg,hz,q⟩;have nh:=vz d ts;simp[startD,nh];refine Vt ?_;simp
 refine yN xB (λt=>.int (t.2.1[i]?.getD 0)) ts (wS q5) (λt ht R hR=>?_) ?_
 ·have Y : xG (xB t) = true := id rfl;have he:=hg.each t ht;simp[Y];refine⟨_,1,_,.inr (.inl rfl),rfl,rfl,?_⟩
  exact⟨_,_,_,.inr (.inl rfl),rfl,qo (by rw[zw,ze q5];rfl),by simpa [ze (show i<t.2.1.length by lia)] using hR⟩
 ·simp
  refine⟨wS q5,wb q5 q5 λk h0 h1=>zR0 h0 (by simpa using h1) λdd J=>?_⟩
  obtain⟨x,hx,rfl⟩:∃x:Int,jT x/\dd=.int x:=by
   rcases xi.mp J with h |h
   ·obtain ⟨t, ht, rfl⟩ := zk.mp h;have he:=hg.each t ht;refine⟨_,?_,rfl⟩
    rw[ze (show i<t.2.1.length by lia)]
    exact he.2.2.2.1 _ (wm _)
   ·rw[zB.mp h];exact⟨0,⟨⟨q9,q9⟩,0,0,q9,q9,q9⟩,rfl⟩
  refine wb q9 q9 λk2 h2 h3=>zs1 (js:=[0,0,0,1,-1,2]) (-1) 2 h2 (by simpa using h3) q9 λm af ae=>?_
  simp;obtain⟨⟨ad,aa⟩,fa,fe,ai,ah,ag⟩:=hx
  exact q _ ⟨⟨q5,q5⟩,fa,fe+m,q5,q5,q5⟩
def jx{d i:Nat}(hi:i<d)(hg:GoodT d ts 2000)(hz:ts.length<=30)(h:∀x:Int,zj2 x->Q (.int x) 3):ZK [.st,wo d ts,.int i] 3 Q:=⟨d,i,ts,rfl,rfl,hi,hg,hz,h⟩
def zZ6(e:End):Prop:=∀x s,e=some (x,s)->zj2 x
def xm3(b:List Ka):Prop:=∀s∈b,zZ6 s.1/\zZ6 s.2
structure JBx(d:Nat)(ts:List Thing)(i:Nat)(rho:Rho)(n:Nat):Prop where
 e:n=3
 r:∃(b:List Ka) (u v y z:Option D),b.length=i/\xm3 b/\rho=[some .st,some (wo d ts),some (.own (b.map qm)),u,v,y,z]
abbrev Yt:Stmt:=top 36
abbrev zm6:List Str:=["_law_left_here","_law_house_here","_law_spans","_law_i","_law_one","_law_other","_law_low"]
def kb:FnScope zm6 qZ1 (zW Yt):=⟨rfl,rfl,rfl,w5,rfl,w5,w5⟩
def zU1:TF:=λds n Q=>∃(d:Nat) (ts:List Thing),ds=[.st,wo d ts]/\n=3/\d<=4/\GoodT d ts 2000/\ts.length<=30/\∀b:List Ka,b.length=d->xm3 b->Q (vq b) 3
def zd2{x k:Int}(hx:zj2 x)(h0:0<=k)(h1:k<4)(h:∀e:End,zZ6 e->R (kY e)):Zt (.lst [.non,.tup [.int x,.bl true],.tup [.int x,.bl false],.tup [.int x,.bl true]]) (.int k) R:=
 zR0 h0 (by simpa using h1) λL J=>by
  simp only[zj,zI,or_false] at J
  rcases J with rfl |rfl |rfl |rfl
  ·exact h none λx s e=>by cases e
  ·exact h (some (x,true)) λx s e=>by cases e;exact hx
  ·exact h (some (x,false)) λx s e=>by cases e;exact hx
  ·exact h (some (x,true)) λx s e=>by cases e;exact hx
def xl7(T:Blt mg)(F:Fun K "_law_box" "_law_box" Yt f fd)(Y_pick:Fn P w K mg base "_law_pick" 1 2 ZJ)(Y_number:Fn P w K mg base "_law_number" 2 3 ZK):FnOk P w K mg base CX0 3 f fd qZ1 (spD K 2 zU1):=by
 refine Fun.okD F kb (λae A0 outer s H E G Z hr=>(zx (Yx (i:=2) kb.nd rfl (lo rfl) zi)
  (zx (jq (m:=7) PassesOwn.never rfl (kQ T.range (zc (xU xk xT (zf 1) zq (λ_ _=>rfl)) zi)) (zZ (i:=3) kb.nd rfl (lo rfl) q9)
  (zx (Xl (i:=4) (j:=5) rfl kb.nd rfl rfl q9 rfl rfl (zc (wt Y_number (hr.mono q9) rfl (zc (zf 0) (zc (zf 1) (zc (zf 3) zi)))) (zc (wt Y_number (hr.mono q9) rfl (zc (zf 0) (zc (zf 1) (zc (zf 3) zi)))) zi)))
  (zx (yU (PWD.pt (qI (xR YZ YX (zf 4) (zf 5) (wg _)) (qH (xR YZ YX (wt Y_pick (hr.mono q9) rfl (zc (zf 0) (zc zq zi))) zq (wg _))))) (zF (Xl (i:=4) (j:=5) rfl kb.nd rfl rfl q9 rfl rfl (zc (zf 5) (zc (zf 4) zi)))) wI)
  (zx (yf (i:=6) kb.nd rfl (lo rfl) (xU xk xT (vg (zc yV (zc (wf (zc (zf 4) (zc YY zi))) (zc (wf (zc (zf 4) (zc YY zi))) (zc (wf (zc (zf 4) (zc YY zi))) zi))))) (wt Y_pick (hr.mono q9) rfl (zc (zf 0) (zc zq zi))) (λ_ _=>rfl)))
  (zF (vc (i:=2) (zc (wf (zc (zf 6) (zc (xU xk xT (vg (zc yV (zc (wf (zc (zf 5) (zc YY zi))) (zc (wf (zc (zf 5) (zc YY zi))) (zc (wf (zc (zf 5) (zc YY zi))) zi))))) (wt Y_pick (hr.mono q9) rfl (zc (zf 0) (zc zq zi))) (λ_ _=>rfl)) zi))) zi) rfl))))))
  (zF (jp 2 (xp (yq wH vn T.tuple vo (zc (zf 2) zi)))))))) ?_
 rintro ds n Q hl ⟨d,ts,rfl,rfl,ad,hg,hz,q⟩;have nh:=vz d ts;simp[startD,nh];refine zy8 ?_
 refine⟨d,rfl,q5,q5,JBx d ts,⟨rfl,[],none,none,none,none,rfl,λs hs=>by simp at hs,rfl⟩,?_,?_⟩
 ·rintro i d' rho n' e ⟨rfl, b, u, v, y, z, hb, hn, rfl⟩;obtain⟨hi,rfl⟩:=XG e
  replace hi:i<d:=by simpa using hi
  generalize hS:XF (zc2 6 _) _=S
  have cont:∀(L J:Int) (F:EndsD),F.nx=JBx d ts (i+1)->zj2 L->zj2 J ->
    S F [some .st,some (wo d ts),some (.own (b.map qm)),some (.int i),some (.int L),some (.int J),z] 3:=λL J F hF h1 h2=>by
   subst hS;simp[hF]
   refine wb q9 q9 λk g0 g1=>zd2 h1 g0 g1 λe1 n1=>?_
   have aa:=XU e1;simp[aa]
   refine⟨lt_size q5,wb q9 q9 λk g0 g1=>zd2 h2 g0 g1 λe2 n2=>?_⟩
   refine⟨rfl,b++[(e1,e2)],_,_,_,_,by simp[hb],λs hs=>?_,by rw[zE];rfl⟩
   rcases xi.mp hs with h |h
   ·exact hn s h
   ·rw[zB.mp h];exact⟨n1,n2⟩
  simp[nh];refine jx hi hg hz λL Y=>?_;refine jx hi hg hz λJ O=>?_;simp
  split
  ·refine wb q9 q9 λk g0 g1 => ?_
   simp
   split
   ·exact cont J L _ rfl O Y
   ·exact cont L J _ rfl Y O
  ·exact cont L J _ rfl Y O
 ·rintro rho n' ⟨rfl, b, u, v, y, z, hb, hn, rfl⟩;rw[jm] at hb;simp
  exact q b (by simpa using hb) hn
end
abbrev Pair:=Option Int × Option Int
def xD(p:Pair):D:=.tup [WV p.1,WV p.2]
def zT(ps:List Pair):D:=.tup (ps.map xD)
def crossedT:Pair->Bool
 |(some l,some g)=>decide (g<l)
 |_=>false
def kj:Pair:=(some 1,some 0)
def yc(ps:List Pair):List Pair:=if ps.any crossedT then ps.map (λ_=>kj) else ps
def Zu(s:Ka):Pair:=(Jf s.1,ze9 s.2)
def vf(b:List Ka):List Pair:=yc (b.map Zu)
@[simp] theorem xp2:WV none=.non:=rfl
@[simp] theorem xp1{i:Int}:WV (some i)=.int i:=rfl
section
variable {P:Program}{w:World}{K:W.Frag}{mg:QqM}{base:Heap}{f:Addr}{fd:FuncData}
abbrev jd:Stmt:=top 7
abbrev JR:List Str:=["pair","least","greatest"]
def qz:FnScope JR ["pair"] (zW jd):=⟨rfl,rfl,rfl,w5,rfl,w5,w5⟩
def qc:TF:=λds n Q=>∃p:Pair,ds=[xD p]/\Q (.bl (crossedT p)) n
def Uq(F:Fun K "is_crossed" "is_crossed" jd f fd):FnOk P w K mg base CX0 1 f fd ["pair"] (spD K 1 qc):=by
 refine Fun.okD F qz (λJ Y outer s H E G Z L=>(zx (jo (m:=3) (zf 0) (vy (k:=2) rfl rfl (xn (zZ (i:=1) qz.nd rfl (lo rfl) q9) (xn (zZ (i:=2) qz.nd rfl (lo rfl) q9) vb))))
  (zF (xp (KG (qY jv jn (zf 1) yV (wg _)) (KG (qY jv jn (zf 2) yV (wg _)) (zd4 (qY YZ YX (zf 1) (zf 2) (wg _))))))))) ?_
 rintro ds n Q O ⟨⟨lo,hi⟩,rfl,q⟩
 rcases lo with _ |lo<;>rcases hi with _ |hi<;>simp[startD,xD]<;>exact q
abbrev XD:Stmt:=top 8
abbrev jE:List Str:=["pairs"]
def zi2:FnScope jE ["pairs"] (zW XD):=⟨rfl,rfl,rfl,w5,rfl,w5,w5⟩
def KW:("pair" :: jE:List Str).Nodup:=w5
def KU:("pair" :: jE:List Str).Nodup:=w5
def ZI:TF:=λds n Q=>∃(ps:List Pair) (d:D),ds=[d]/\(d=.lst (ps.map xD)\/d=zT ps)/\ps.length<=1000/\Q (zT (yc ps)) n
def zi7(T:Blt mg)(G_EMPTY_PAIR:xe4 K mg "EMPTY_PAIR" (.tup [.int 1,.int 0]))(F:Fun K "settled" "settled" XD f fd)(F_is_crossed:Fn P w K mg base "is_crossed" 1 1 qc):FnOk P w K mg base CX0 2 f fd ["pairs"] (spD K 1 ZI):=by
 refine Fun.okD F zi2 (λaa A0 outer s H E G Z hr=>(zx (yU (kn (xZ (zg1 rfl) zS9 T.any zT2 (zc (vB (own:=["pair"]) (M:=jE) (vD (by rfl)) rfl (vw rfl (zf 0)) (λC J H2 fp=>(zZ (i:=0) KW rfl (lo rfl) q9)) (λC J H2 fp=>yT) (λC J H2 fp=>(wt F_is_crossed (hr.mono q9) rfl (zc (zf 0) zi)))) zi))) (zF (xp (yq wH vn T.tuple vo (zc (vB (own:=["pair"]) (M:=jE) (vD (by rfl)) rfl (vw rfl (zf 0)) (λC J H2 fp=>(zZ (i:=0) KU rfl (lo rfl) q9)) (λC J H2 fp=>yT) (λC J H2 fp=>(zs9 G_EMPTY_PAIR rfl))) zi)))) wI)
  (zF (xp (yq wH vn T.tuple vo (zc (zf 0) zi)))))) ?_
 rintro ds n Q hl ⟨ps,d,rfl,hd,hz,q⟩
 have O:xG d=true:=by rcases hd with rfl |rfl<;>rfl
 have hsz:ps.length<=sizeLine:=wS hz;have L:∀R:List D->Prop,R (ps.map xD)->∃es,(d=.lst es\/d=.tup es)/\R es:=λR h=>⟨_,hd,h⟩;simp[startD,O];refine L _ (yN xD (λp=>.bl (crossedT p)) ps hsz (λx hx R Y=>?_) ?_)
 ·simp[xD];exact⟨x,rfl,Y⟩
 ·refine ⟨ps.map crossedT, by rw [zQ]; rfl, ?_⟩
  simp;unfold yc at q
  by_cases h:ps.any crossedT
  ·simp only [h, if_true];rw[if_pos h] at q;refine L _ (yN xD (λp=>.tup [.int 1,.int 0]) ps hsz (λx hx R Y=>?_) ?_)
   ·simp;exact Y
   ·simp
    have e:zT (ps.map λ_=>kj)=.tup (ps.map λ_=>.tup [.int 1,.int 0]):=by unfold zT;rw[zQ];rfl
    rw[e] at q
    simpa using q
  ·rw [if_neg h] at q;simp only[h]
   rcases hd with rfl |rfl
   ·simp;exact q
   ·unfold zT;simp;exact q
abbrev Zi:Stmt:=top 9
abbrev ZF:List Str:=["box"]
def Km:FnScope ZF ["box"] (zW Zi):=⟨rfl,rfl,rfl,w5,rfl,w5,w5⟩
def WO:("span" :: ZF:List Str).Nodup:=w5
def qu:TF:=λds n Q=>∃b:List Ka,ds=[vq b]/\b.length<=1000/\Q (zT (vf b)) n
def KM(F:Fun K "plain_box" "plain_box" Zi f fd)(F_pair_of:Fn P w K mg base "pair_of" 2 1 Xz)(F_settled:Fn P w K mg base "settled" 2 1 ZI):FnOk P w K mg base CX0 3 f fd ["box"] (spD K 1 qu):=by
 refine Fun.okD F Km (λaa A0 outer s H E G Z L=>(zF (xp (wt F_settled (L.mono q9) rfl (zc (vB (own:=["span"]) (M:=ZF) (vD (by rfl)) rfl (vw rfl (zf 0)) (λC J H2 fp=>(zZ (i:=0) WO rfl (lo rfl) q9)) (λC J H2 fp=>yT) (λC J H2 fp=>(wt F_pair_of (L.mono q9) rfl (zc (zf 0) zi)))) zi))))) ?_
 rintro ds n Q hl ⟨b,rfl,hz,q⟩;have O:xG (vq b)=true:=rfl;simp[startD,O];refine⟨b.map qm,.inr rfl,yN qm (λs=>xD (Zu s)) b (wS hz) (λx hx R Y=>?_) ?_⟩
 ·simp[qm];exact⟨x,rfl,Y⟩
 ·exact⟨b.map Zu,_,rfl,.inl (by rw[zQ];rfl),by simpa using hz,q⟩
end
def maxO:Option Int->Option Int->Option Int
 |none,o=>o
 |some a,none=>some a
 |some a,some b=>some (if b > a then b else a)
def minO:Option Int->Option Int->Option Int
 |none,o=>o
 |some a,none=>some a
 |some a,some b=>some (if b<a then b else a)
def commonP(p q:Pair):Pair:=(maxO p.1 q.1,minO p.2 q.2)
def ke(ps qs:List Pair):List Pair:=yc (List.zipWith commonP ps qs)
def yn(ps qs:List Pair):Bool:=match ke ps qs with |[]=>false |p::_=>crossedT p
def Zb(ps qs:List Pair):Bool:=decide (ke ps qs=ps)
def Wp(ps:List Pair)(p:List Int):Bool:=(List.zipWith (λq x=>liesT q.1 q.2 x) ps p).all id
theorem zE2{α β:Type}{f:α->β->Bool}:∀{l:List α}{r:List β},(List.zipWith f l r).all id=true↔∀(i:Nat) a b,l[i]?=some a->r[i]?=some b->f a b=true
 |[],r=>by simp
 |a::l,[]=>by simp
 | a :: l, b :: r => by
  have L:=zE2 (f:=f) (l:=l) (r:=r);simp only[xF,all_cons,zG,L]
  constructor
  ·rintro ⟨h1, O⟩ i x y hx J
   cases i with
   |zero=>simp at hx J;subst hx;subst J;exact h1
   |succ i=>exact O i x y (by simpa using hx) (by simpa using J)
  ·intro h
   exact⟨h 0 a b rfl rfl,λi x y hx J=>h (i+1) x y (by simpa using hx) (by simpa using J)⟩
def WF{α:Type}{f:α->Bool}{l:List α}:l.any f=true↔∃(i:Nat) (a:α),l[i]?=some a/\f a=true:=by
 rw[yj]
 constructor
 ·rintro⟨x,hx,h⟩;obtain⟨i,hi⟩:=List.mem_iff_getElem?.mp hx;exact⟨i,x,hi,h⟩
 ·rintro⟨i,a,hi,h⟩;exact⟨a,zM hi,h⟩
def Zg(ps:List Pair):(yc ps).length=ps.length:=by unfold yc;split<;>simp
def zl5(h:ps.length=qs.length):(ke ps qs).length=ps.length:=by unfold ke;rw[Zg,wu];lia
def vM(h:¬ ps.any crossedT=true):yc ps=ps:=by unfold yc;rw[if_neg h]
def ka(h:ps.any crossedT=true):yc ps=replicate ps.length kj:=by
 unfold yc;rw[if_pos h,<- List.map_const']
def zA4{k:Nat}(h:1<=k):(replicate k kj).any crossedT=true:=WF.mpr ⟨0,kj,by rw[xt];simp;lia,q9⟩
def VV(ps:List Pair):yc (yc ps)=yc ps:=by
 by_cases h:ps.any crossedT=true
 ·rw [ka h]
  by_cases J:(replicate ps.length kj).any crossedT=true
  ·rw[ka J,wA]
  ·rw[vM J]
 ·rw[vM h,vM h]
def Jd{x:Int}(h:liesT q.1 q.2 x=true):crossedT q=false:=by
 obtain⟨lo,hi⟩:=q
 rcases lo with _ |l<;>rcases hi with _ |g<;>simp[liesT,crossedT] at h ⊢
 lia
def Zx(p q:Pair)(x:Int):liesT (commonP p q).1 (commonP p q).2 x=(liesT p.1 p.2 x&&liesT q.1 q.2 x):=by
 obtain⟨a,b⟩:=p;obtain⟨c,d⟩:=q
 have h1:∀l g:Int,decide ((if g > l then g else l)<=x)=(decide (l<=x)&&decide (g<=x)):=λl g=>by
  rw[xW];split<;>simp<;>lia
 have J:∀l g:Int,decide (x<=(if g<l then g else l))=(decide (x<=l)&&decide (x<=g)):=λl g=>by
  rw[xW];split<;>simp<;>lia
 rcases a with _ |a<;>rcases b with _ |b<;>rcases c with _ |c<;>rcases d with _ |d<;>simp only[commonP,liesT,maxO,minO,h1,J] <;>
  (rw[xW];simp<;>try lia)
def zn1{i:Nat}(h:(List.zipWith commonP ps qs)[i]?=some c):∃p q,ps[i]?=some p/\qs[i]?=some q/\c=commonP p q:=by
 rw[List.getElem?_zipWith] at h
 cases J:ps[i]? with
 |none=>rw[J] at h;simp at h
 |some p=>
  cases L:qs[i]? with
  |none=>rw[J,L] at h;simp at h
  |some q=>rw[J,L] at h;exact⟨p,q,rfl,rfl,(by simpa using h.symm)⟩
def VD{i:Nat}(L:ps[i]?=some p)(J:qs[i]?=some q):(List.zipWith commonP ps qs)[i]?=some (commonP p q):=by
 rw[List.getElem?_zipWith,L,J]
def UN{α β:Type}{l:List α}{r:List β}(h:l.length=r.length){i:Nat}{a:α}(e:l[i]?=some a):∃b,r[i]?=some b:=by
 have hi:=(zm.mp e).1
 exact⟨r[i],ze q5⟩
def Wo:Wp ps p=true↔∀(i:Nat) (q:Pair) (x:Int),ps[i]?=some q->p[i]?=some x->liesT q.1 q.2 x=true:=zE2
def qQ(O:ps.length=p.length)(h:Wp ps p=true):¬ ps.any crossedT=true:=by
 intro J;obtain⟨i,q,L,J⟩:=WF.mp J;obtain⟨x,hx⟩:=UN O L;have:=Jd (Wo.mp h i q x L hx);rw[J] at this;cases this
def QN(L:ps.length=p.length)(h1:1<=p.length):Wp (yc ps) p=Wp ps p:=by
 by_cases J:ps.any crossedT=true
 ·have Y : Wp ps p = false := by
   cases h:Wp ps p with
   |false=>rfl
   |true=>exact(qQ L h J).elim
  have O:Wp (yc ps) p=false:=by
   cases h:Wp (yc ps) p with
   |false=>rfl
   |true=>
    refine(qQ (by rw[Zg];exact L) h ?_).elim
    rw[ka J]
    exact zA4 q5
  rw[Y,O]
 ·rw[vM J]
def ze8(h1:ps.length=p.length)(Y:qs.length=p.length):Wp (List.zipWith commonP ps qs) p=(Wp ps p&&Wp qs p):=by
 rw[xW,zG,Wo,Wo,Wo]
 constructor
 ·intro h;refine⟨λi q x L hx=>?_,λi q x L hx=>?_⟩
  ·obtain⟨O,J⟩:=UN (h1.trans Y.symm) L;have:=h i _ x (VD L J) hx;rw[Zx,zG] at this;exact this.1
  ·obtain⟨O,J⟩:=UN (Y.trans h1.symm) L;have:=h i _ x (VD J L) hx;rw[Zx,zG] at this;exact this.2
 ·rintro⟨ha,hb⟩ i q x L hx;obtain⟨q1,O,e1,e2,rfl⟩:=zn1 L;rw[Zx,ha i q1 x e1 hx,hb i O x e2 hx];rfl
def zk4(h1:ps.length=p.length)(J:qs.length=p.length)(h:1<=p.length):Wp (ke ps qs) p=(Wp ps p&&Wp qs p):=by
 unfold ke
 rw[QN (by rw[wu];lia) h,ze8 h1 J]
def WD(O:ps.length=qs.length)(h1:1<=ps.length):yn ps qs=(List.zipWith commonP ps qs).any crossedT:=by
 unfold yn ke
 by_cases J:(List.zipWith commonP ps qs).any crossedT=true
 ·rw [ka J, J]
  obtain⟨k,hk⟩:∃k,(List.zipWith commonP ps qs).length=k+1:=⟨ps.length-1,by rw[wu];lia⟩
  rw[hk];rfl
 ·rw [vM J]
  cases hz:List.zipWith commonP ps qs with
  |nil=>rfl
  | cons c r =>
   rw[hz] at J;show crossedT c=(c::r).any crossedT
   cases h:crossedT c with
   |false=>
    cases L:(c::r).any crossedT with
    |false=>rfl
    |true=>exact(J L).elim
   |true=>exact(J (by simp[h])).elim
def zE0(h1:ps.length=p.length)(L:qs.length=p.length)(h:1<=p.length)(ha:Wp ps p=true)(J:Wp qs p=true):yn ps qs=false:=by
 rw[WD q5 q5]
 have:Wp (List.zipWith commonP ps qs) p=true:=by rw[ze8 h1 L,ha,J];rfl
 have:=qQ (by rw[wu];lia) this
 cases hz:(List.zipWith commonP ps qs).any crossedT with
 |false=>rfl
 |true=>exact(this hz).elim
def zn5(O:bs.length=qs.length)(h:∀(i:Nat) b q,bs[i]?=some b->qs[i]?=some q->commonP b q=b)(Y:¬ bs.any crossedT=true):ke bs qs=bs:=by
 have e:List.zipWith commonP bs qs=bs:=by
  apply List.ext_getElem?;intro i;rw[List.getElem?_zipWith]
  cases L:bs[i]? with
  |none=>simp
  |some b=>
   obtain⟨q,J⟩:=UN O L;rw[J];simp[h i b q L J]
 unfold ke;rw[e,vM Y]
def WX(q:Pair):crossedT (commonP q kj)=true:=by
 obtain⟨a,b⟩:=q
 rcases a with _ |a<;>rcases b with _ |b<;>simp[commonP,maxO,minO,crossedT,kj]<;>(try split)<;>(try split)<;>lia
def zn4(h:ke ps qs=ps):Zb ps qs=true:=by unfold Zb;exact xh h
def ZT(b:List Ka):yc (vf b)=vf b:=VV _
def xD7(o:Option Int)(k:Nat):okE (WV o) k=true:=by cases o<;>simp[okE]
def Xp(p:Pair)(k:Nat):okE (xD p) (k+1)=true:=qi.mpr λd hd=>by
 simp only[zj,zI,or_false] at hd
 rcases hd with rfl |rfl<;>exact xD7 _ _
def xE7(a b:Option Int):eqD (WV a) (WV b)=decide (a=b):=by
 rcases a with _ |a<;>rcases b with _ |b<;>simp[eqD]
 rfl
def zf2(p q:Pair):eqD (xD p) (xD q)=decide (p=q):=by
 obtain⟨a,b⟩:=p;obtain⟨c,d⟩:=q;unfold xD;simp only[eqD,ZB,xE7,Bool.and_true];rw[xW];simp
section
variable {P:Program}{w:World}{K:W.Frag}{mg:QqM}{base:Heap}{f:Addr}{fd:FuncData}
abbrev je:Stmt:=top 10
abbrev JS:List Str:=["one","other"]
def VW:FnScope JS qZ0 (zW je):=⟨rfl,rfl,rfl,w5,rfl,w5,w5⟩
def jb:TF:=λds n Q=>∃a b:Option Int,ds=[WV a,WV b]/\Q (WV (maxO a b)) n
def Ur(T:Blt mg)(F:Fun K "greater_of" "greater_of" je f fd):FnOk P w K mg base CX0 1 f fd qZ0 (spD K 2 jb):=by
 refine Fun.okD F VW (λJ Y outer s H E G Z L=>(zx (yU (PWD.pt (zr2 (xR kB kw (zf 0) yV (wg _)) (Qr (xR kB kw (zf 1) yV (wg _))))) (zF (xp (Um (xR kB kw (zf 0) yV (wg _)) (zf 1) (zf 0)))) wI)
  (zF (xp (xZ (JC rfl) zC1 T.max Vz (zc (zf 0) (zc (zf 1) zi))))))) ?_
 rintro ds n Q O ⟨a,b,rfl,q⟩
 rcases a with _ |a<;>rcases b with _ |b<;>simp[startD]<;>exact q
abbrev Zk:Stmt:=top 11
abbrev za6:List Str:=["one","other"]
def Ko:FnScope za6 qZ0 (zW Zk):=⟨rfl,rfl,rfl,w5,rfl,w5,w5⟩
def Zc:TF:=λds n Q=>∃a b:Option Int,ds=[WV a,WV b]/\Q (WV (minO a b)) n
def KO(T:Blt mg)(F:Fun K "lesser_of" "lesser_of" Zk f fd):FnOk P w K mg base CX0 1 f fd qZ0 (spD K 2 Zc):=by
 refine Fun.okD F Ko (λJ Y outer s H E G Z L=>(zx (yU (PWD.pt (zr2 (xR kB kw (zf 0) yV (wg _)) (Qr (xR kB kw (zf 1) yV (wg _))))) (zF (xp (Um (xR kB kw (zf 0) yV (wg _)) (zf 1) (zf 0)))) wI)
  (zF (xp (xZ (Jz rfl) zB8 T.min JF (zc (zf 0) (zc (zf 1) zi))))))) ?_
 rintro ds n Q O ⟨a,b,rfl,q⟩
 rcases a with _ |a<;>rcases b with _ |b<;>simp[startD]<;>exact q
abbrev qC:Stmt:=top 12
abbrev UU:List Str:=["one","other"]
def WG:FnScope UU qZ0 (zW qC):=⟨rfl,rfl,rfl,w5,rfl,w5,w5⟩
def qx:TF:=λds n Q=>∃p q:Pair,ds=[xD p,xD q]/\Q (xD (commonP p q)) n
def WL(F:Fun K "common_pair" "common_pair" qC f fd)(F_greater_of:Fn P w K mg base "greater_of" 1 2 jb)(F_lesser_of:Fn P w K mg base "lesser_of" 1 2 Zc):FnOk P w K mg base CX0 2 f fd qZ0 (spD K 2 qx):=by
 refine Fun.okD F WG (λL Y outer s H E G Z J=>(zF (xp (wf (zc (wt F_greater_of (J.mono q9) rfl (zc (xU xk xT (zf 0) zq (λ_ _=>rfl)) (zc (xU xk xT (zf 1) zq (λ_ _=>rfl)) zi))) (zc (wt F_lesser_of (J.mono q9) rfl (zc (xU xk xT (zf 0) zq (λ_ _=>rfl)) (zc (xU xk xT (zf 1) zq (λ_ _=>rfl)) zi))) zi)))))) ?_
 rintro ds n Q O ⟨p,p',rfl,q⟩;simp[startD,xD];refine⟨p.1,p'.1,rfl,?_⟩;simp;refine⟨p.2,p'.2,rfl,?_⟩;simp;exact q
def xe5(b:List Pair)(p:List Pair):Kb (b.map xD) (p.map xD)=(b.zip p).map λx=>.tup [xD x.1,xD x.2]:=by
 unfold Kb;rw[List.zipWith_map,yG];rfl
abbrev Uc:Stmt:=top 13
abbrev UV:List Str:=["one","other"]
def zq0:FnScope UV qZ0 (zW Uc):=⟨rfl,rfl,rfl,w5,rfl,w5,w5⟩
def XW:("mine" :: "yours" :: UV:List Str).Nodup:=w5
def VR:TF:=λds n Q=>∃ps qs:List Pair,ds=[zT ps,zT qs]/\ps.length<=1000/\Q (zT (ke ps qs)) n
def zu4(T:Blt mg)(F:Fun K "common" "common" Uc f fd)(F_settled:Fn P w K mg base "settled" 2 1 ZI)(F_common_pair:Fn P w K mg base "common_pair" 2 2 qx):FnOk P w K mg base CX0 3 f fd qZ0 (spD K 2 VR):=by
 refine Fun.okD F zq0 (λaa A0 outer s H E G Z L=>(zF (xp (wt F_settled (L.mono q9) rfl (zc (vB (own:=["mine","yours"]) (M:=UV) (vD (by rfl)) rfl (Qu rfl T.zip (zc (zf 0) (zc (zf 1) zi))) (λC J H2 fp=>(vy (k:=2) rfl rfl (xn (zZ (i:=0) XW rfl (lo rfl) q9) (xn (zZ (i:=1) XW rfl (lo rfl) q9) vb)))) (λC J H2 fp=>yT) (λC J H2 fp=>(wt F_common_pair (L.mono q9) rfl (zc (zf 0) (zc (zf 1) zi))))) zi))))) ?_
 rintro ds n Q hl ⟨ps,qs,rfl,hz,q⟩;have n1:xG (zT ps)=true:=rfl;have n2:xG (zT qs)=true:=rfl;simp[startD,n1,n2];refine(YQ (d1:=zT ps) (d2:=zT qs) rfl rfl).mpr ?_;rw[xe5]
 refine yN (λx=>.tup [xD x.1,xD x.2]) (λx:Pair × Pair=>xD (commonP x.1 x.2)) (ps.zip qs) (zK (by rw[length_zip];lia) (wS (k:=1000) q5)) (λx hx R hR=>?_) ?_
 ·have Y:xG (xD x.1)=true:=rfl;have O:xG (xD x.2)=true:=rfl;simp[Y,O];exact⟨x.1,x.2,rfl,hR⟩
 ·refine ⟨List.zipWith commonP ps qs, _, rfl, .inl ?_, by rw [wu]; lia, q⟩
  have e:List.zipWith commonP ps qs=(ps.zip qs).map λx=>commonP x.1 x.2:=by rw[yG];rfl
  rw[e,zQ];rfl
abbrev Zj:Stmt:=top 14
abbrev za5:List Str:=["one","other"]
def Kn:FnScope za5 qZ0 (zW Zj):=⟨rfl,rfl,rfl,w5,rfl,w5,w5⟩
def qv:TF:=λds n Q=>∃ps qs:List Pair,ds=[zT ps,zT qs]/\1<=ps.length/\ps.length=qs.length/\ps.length<=1000/\Q (.bl (yn ps qs)) n
def KN(F:Fun K "lie_apart" "lie_apart" Zj f fd)(F_is_crossed:Fn P w K mg base "is_crossed" 1 1 qc)(F_common:Fn P w K mg base "common" 3 2 VR):FnOk P w K mg base CX0 4 f fd qZ0 (spD K 2 qv):=by
 refine Fun.okD F Kn (λaa A0 outer s H E G Z L=>(zF (xp (wt F_is_crossed (L.mono q9) rfl (zc (xU xk xT (wt F_common (L.mono q9) rfl (zc (zf 0) (zc (zf 1) zi))) zq (λ_ _=>rfl)) zi))))) ?_
 rintro ds n Q hl ⟨ps,qs,rfl,h1,h2,hz,q⟩;have n1:xG (zT ps)=true:=rfl;have Y:xG (zT qs)=true:=rfl;simp[startD,n1,Y];refine⟨ps,qs,rfl,hz,?_⟩;have J:=zl5 h2;unfold yn at q
 cases O:ke ps qs with
 |nil=>rw[O] at J;simp at J;lia
 |cons c r=>
  rw[O] at q;simp[zT];exact⟨c,rfl,q⟩
def UZ(qs:QqI)(i:Nat):List Int:=qs.map λq=>q[i]?.getD 0
def Ue(m:Nat):zi3 0 m=(List.range m).map λi=>.int (i:Int):=by unfold zi3;simp
theorem qr:∀{ns:List Int},0<ns.length->∃M,M∈ns/\∀a∈ns,M<=a
 |[x],_=>⟨x,by simp,by simp⟩
 |x::y::r,_=>by
  obtain⟨M,h1,J⟩:=qr (ns:=y::r) (by simp)
  by_cases h:x<=M
  ·exact⟨x,by simp,λa ha=>by rcases zj.mp ha with rfl |ha;exact yS _;have:=J a ha;lia⟩
  ·exact⟨M,zn _ h1,λa ha=>by rcases zj.mp ha with rfl |ha;lia;exact J a ha⟩
theorem vR:∀{ns:List Int},0<ns.length->∃M,M∈ns/\∀a∈ns,a<=M
 |[x],_=>⟨x,by simp,by simp⟩
 |x::y::r,_=>by
  obtain⟨M,h1,J⟩:=vR (ns:=y::r) (by simp)
  by_cases h:M<=x
  ·exact⟨x,by simp,λa ha=>by rcases zj.mp ha with rfl |ha;exact yS _;have:=J a ha;lia⟩
  ·exact⟨M,zn _ h1,λa ha=>by rcases zj.mp ha with rfl |ha;lia;exact J a ha⟩
open Classical in
noncomputable def zn0(ns:List Int):Int:=if h:∃M,M∈ns/\∀a∈ns,M<=a then choose h else 0
open Classical in
noncomputable def Uw(ns:List Int):Int:=if h:∃M,M∈ns/\∀a∈ns,a<=M then choose h else 0
def jy(h:∃M,M∈ns/\∀a∈ns,M<=a):zn0 ns∈ns/\∀a∈ns,zn0 ns<=a:=by unfold zn0;rw[dif_pos h];exact Classical.choose_spec h
def kh(h:∃M,M∈ns/\∀a∈ns,a<=M):Uw ns∈ns/\∀a∈ns,a<=Uw ns:=by unfold Uw;rw[dif_pos h];exact Classical.choose_spec h
def Uu{M:Int}(h1:M∈ns)(J:∀a∈ns,M<=a):M=zn0 ns:=by
 obtain⟨L,h4⟩:=jy ⟨M,h1,J⟩;have:=J _ L;have:=h4 _ h1;lia
def QG{M:Int}(h1:M∈ns)(J:∀a∈ns,a<=M):M=Uw ns:=by
 obtain⟨L,h4⟩:=kh ⟨M,h1,J⟩;have:=J _ L;have:=h4 _ h1;lia
def Vq(h:0<ns.length)(q:k (.int (zn0 ns))):xn5 [.lst (ns.map D.int)] k:=⟨ns,rfl,h,λM h1 J=>by rw[Uu h1 J];exact q⟩
def Vr(h:0<ns.length)(q:k (.int (Uw ns))):xn8 [.lst (ns.map D.int)] k:=⟨ns,rfl,h,λM h1 J=>by rw[QG h1 J];exact q⟩
end
def Xu(xs:List D)(b:Nat)(J:b<=xs.length):Ju xs (some (b:Int)) none=xs.drop b:=by
 unfold Ju
 rw[HT.zq2,HT.zc3,Nat.min_eq_left J,List.take_of_length_le (by rw[length_drop];lia)]
def xq0(xs:List D)(e:Nat)(he:e<=xs.length):Ju xs none (some (e:Int))=xs.take e:=by
 unfold Ju;rw[HT.zq2,HT.zc3,Nat.min_eq_left he,List.drop_zero,Nat.sub_zero]
def zI9{α β:Type}{f:α->β}:∀{l:List β}{ts:List α},l.Perm (ts.map f)->∃rs:List α,rs.Perm ts/\l=rs.map f:=by
 intro l ts h;generalize J:ts.map f=m at h
 induction h generalizing ts with
 |nil=>
  cases ts with
  |nil=>exact⟨[],.nil,rfl⟩
  |cons _ _=>simp at J
 | cons x p ih =>
  cases ts with
  |nil=>simp at J
  |cons a ts=>
   obtain⟨e1,Y⟩:=List.cons.inj J;obtain⟨rs,h1,rfl⟩:=ih Y
   exact⟨a::rs,h1.cons a,by rw[<- e1];rfl⟩
 | swap x y l =>
  cases ts with
  |nil=>simp at J
  | cons a ts =>
   cases ts with
   |nil=>simp at J
   |cons b ts=>
    obtain⟨e1,Y⟩:=List.cons.inj J;obtain⟨e3,e4⟩:=List.cons.inj Y
    exact⟨b::a::ts,.swap a b ts,by rw[<- e1,<- e3,<- e4];rfl⟩
 |trans p q O L=>
  obtain⟨r2,h2,rfl⟩:=L J;obtain⟨r1,h1,rfl⟩:=O rfl;exact⟨r1,h1.trans h2,rfl⟩
structure GoodU(d:Nat)(ts:List Thing):Prop where
 each:∀t∈ts,t.2.1.length=d
 nd:(ts.map λt=>t.1).Nodup
def GoodT.u{d:Nat}{x:Int}(h:GoodT d ts x):GoodU d ts:=⟨λt ht=>(h.each t ht).2.2.1,h.nodup⟩
def GoodU.perm{d:Nat}(h:GoodU d ts)(p:rs.Perm ts):GoodU d rs:=⟨λt ht=>h.each t (p.mem_iff.mp ht),(p.map _).nodup_iff.mpr h.nd⟩
def GoodU.sub{d:Nat}(h:GoodU d ts)(p:rs.Sublist ts):GoodU d rs:=⟨λt ht=>h.each t (p.mem ht),(p.map _).nodup h.nd⟩
def kU(t:Thing):Key:=Sum.inl t.1
def byN(ts:List Thing):D:=.dct (ts.map kU) (ts.map xB)
@[simp] theorem xK7(ts:List Thing):xG (byN ts)=true:=id rfl
theorem YB:∀{ts:List Thing}{x:Int},x ∉ ts.map (λt=>t.1)->zN2 (ts.map kU) (Sum.inl x)=false
 |[],x,_=>rfl
 |t::ts,x,h=>by
  have h1:¬ t.1=x:=λe=>h (by simp[e])
  have J:=YB (ts:=ts) (x:=x) λz=>h (zn _ z);show(decide (kU t=Sum.inl x)||zN2 (ts.map kU) (Sum.inl x))=false;rw[J,Bool.or_false];exact zN λe=>h1 (Sum.inl.inj e)
theorem Yc:∀{ts:List Thing}{t:Thing},t∈ts->(ts.map λt=>t.1).Nodup->atK (ts.map kU) (ts.map xB) (Sum.inl t.1)=some (xB t)
 |[],t,h,_=>by simp at h
 | s :: ts, t, h, J => by
  have hn':=xC.mp J
  show(if kU s=Sum.inl t.1 then some (xB s) else atK (ts.map kU) (ts.map xB) (Sum.inl t.1))=_
  rcases zj.mp h with rfl |h
  ·exact if_pos rfl
  ·have : ¬ kU s = Sum.inl t.1 := λe => by
    have e':s.1=t.1:=Sum.inl.inj e;exact hn'.1 (zk.mpr ⟨t,h,e'.symm⟩)
   rw[if_neg this];exact Yc h hn'.2
@[simp] theorem xm2(ps:List Pair):xG (zT ps)=true:=id rfl
@[simp] theorem xm1(p:List Int):xG (yF p)=true:=id rfl
@[simp] theorem xm0(t:Thing):xG (xB t)=true:=id rfl
noncomputable def ja(d:Nat)(qs:QqI):List Pair:=(List.range d).map λi=>(some (zn0 (UZ qs i)),some (Uw (UZ qs i)))
inductive Tr where
 |one (name:Int) (bd:List Pair)
 |two (ns:List Int) (bd:List Pair) (low high:Tr)
def yM:Tr->D
 |.one x bd=>.tup [.tup [.int x],zT bd,.non,.non]
 |.two ns bd l h=>.tup [.tup (ns.map D.int),zT bd,yM l,yM h]
def yX(t:Tr):xG (yM t)=true:=by cases t<;>rfl
section
variable {P:Program}{w:World}{K:W.Frag}{mg:QqM}{base:Heap}{f:Addr}{fd:FuncData}
abbrev km:Stmt:=top 16
abbrev ku:List Str:=["house"]
def Yk:FnScope ku ["house"] (zW km):=⟨rfl,rfl,rfl,w5,rfl,w5,w5⟩
def Zw:("thing" :: ku:List Str).Nodup:=w5
def zT9:TF:=λds n Q=>∃(J:D) (ts:List Thing),ds=[.tup [J,.tup (ts.map xB)]]/\(ts.map λt=>t.1).Nodup/\ts.length<=1000/\Q (byN ts) n
def xl4(T:Blt mg)(F:Fun K "things_by_name" "things_by_name" km f fd):FnOk P w K mg base CX0 1 f fd ["house"] (spD K 1 zT9):=by
 refine Fun.okD F Yk (λaa A0 outer s H E G Z hr=>(zF (xp (zJ7 (own:=["thing"]) (M:=ku) (vD (by rfl)) rfl (vw rfl (xU xk xT (zf 0) zq (λ_ _=>rfl))) (λC L H2 fp=>(zZ (i:=0) Zw rfl (lo rfl) q9)) (λC L H2 fp=>yT) (λC L H2 fp=>(xU xk xT (zf 0) zq (λ_ _=>rfl))) (λC L H2 fp=>(zf 0)))))) ?_
 rintro ds n Q hl ⟨dd,ts,rfl,hn,hz,q⟩;have e1:atI [dd,D.tup (ts.map xB)] 1=some (D.tup (ts.map xB)):=rfl;simp[startD,e1]
 refine⟨by rw[zg];exact wS hz,λi ks es n'=>n'=n/\ks=(ts.take i).map kU/\es=(ts.take i).map xB,⟨rfl,rfl,rfl⟩,?_,?_⟩
 ·rintro i d ks es n' e ⟨rfl, rfl, rfl⟩;rw[zw] at e
  cases J:ts[i]? with
  |none=>rw[J] at e;cases e
  | some t =>
   rw[J] at e;cases e;have nt:xG (xB t)=true:=rfl;simp[nt];have e2:∀R:D->Prop,R (.int t.1)->Zt (xB t) (.int 0) R:=λR h=>⟨_,_,_,.inr (.inl rfl),rfl,rfl,h⟩;refine e2 _ ?_;refine⟨_,rfl,?_,?_⟩
   ·have hk : zN2 ((ts.take i).map kU) (Sum.inl t.1) = false := YB λO => by
     have Y:(ts.take i++[t]).Sublist ts:=by
      have:ts.take i++[t]=ts.take (i+1):=by rw[xm,J];rfl
      rw[this];exact yA ..
     have h4:=(Y.map λt=>t.1).nodup hn;rw[zE,wM] at h4
     exact h4.2.2 _ O _ (by simp) rfl
    unfold Uh;rw[map_take] at hk
    rw[if_neg (by rw[hk];simp),xm,zw,J];rfl
   ·have hk : zN2 ((ts.take i).map kU) (Sum.inl t.1) = false := YB λO => by
     have Y:(ts.take i++[t]).Sublist ts:=by
      have:ts.take i++[t]=ts.take (i+1):=by rw[xm,J];rfl
      rw[this];exact yA ..
     have h4:=(Y.map λt=>t.1).nodup hn;rw[zE,wM] at h4
     exact h4.2.2 _ O _ (by simp) rfl
    unfold zr3;rw[map_take] at hk
    rw[if_neg (by rw[hk];simp),xm,zw,J];rfl
 ·rintro ks es n' ⟨rfl,rfl,rfl⟩;rw[zg,xY];exact q
end
inductive TreeOf(d:Nat):List Thing->Tr->Prop where
  |one {t:Thing}:t.2.1.length=d->TreeOf d [t] (.one t.1 (ja d [t.2.1]))
  |two {ts ls hs:List Thing}{ns:List Int}{low high:Tr}:(ls++hs).Perm ts->ns.Perm (ts.map λt=>t.1)->ns.Pairwise (·<=·)->TreeOf d ls low->TreeOf d hs high->TreeOf d ts (.two ns (ja d (ts.map λt=>t.2.1)) low high)
def TreeOf.ne{d:Nat}(h:TreeOf d ts tr):1<=ts.length:=by
 induction h with
 |one=>simp
 |two p _ _ _ _ h1 J=>have:=p.length_eq;rw[zu] at this;lia
def TreeOf.lens{d:Nat}(h:TreeOf d ts tr):∀t∈ts,t.2.1.length=d:=by
 induction h with
 |one h=>intro t ht;rw[zB.mp ht];exact h
 |two p _ _ _ _ h1 J=>
  intro t ht
  rcases xi.mp (p.mem_iff.mpr ht) with h |h
  ·exact h1 t h
  ·exact J t h
def kF:Tr->List Pair
 |.one _ bd=>bd
 |.two _ bd _ _=>bd
def wG:Tr->List Int
 |.one x _=>[x]
 |.two ns _ _ _=>ns
def TreeOf.bd{d:Nat}(h:TreeOf d ts tr):kF tr=ja d (ts.map λt=>t.2.1):=by cases h<;>rfl
def zl6(ts:List Thing)(i:Nat):List Int:=UZ (ts.map λt=>t.2.1) i
def UK(ts:List Thing)(i:Nat):zl6 ts i=ts.map λt=>t.2.1[i]?.getD 0:=by unfold zl6 UZ;rw[zQ];rfl
noncomputable def loN(ts:List Thing)(i:Nat):Int:=zn0 (zl6 ts i)
noncomputable def hiN(ts:List Thing)(i:Nat):Int:=Uw (zl6 ts i)
def zT4{d i:Nat}(ts:List Thing)(hi:i<d):(ja d (ts.map λt=>t.2.1))[i]?=some (some (loN ts i),some (hiN ts i)):=by
 unfold ja;rw[zw,wO hi];rfl
def vV(d:Nat)(qs:QqI):(ja d qs).length=d:=by unfold ja;rw[zg,yg]
def Xv{i:Nat}(h:1<=ts.length):0<(zl6 ts i).length:=by rw[UK,zg];exact h
def zw6{i:Nat}(h:1<=ts.length){x:Int}(hx:x∈zl6 ts i):loN ts i<=x:=(jy (qr (Xv h))).2 x hx
def zR5{i:Nat}(h:1<=ts.length){x:Int}(hx:x∈zl6 ts i):x<=hiN ts i:=(kh (vR (Xv h))).2 x hx
def zw5{i:Nat}(h:1<=ts.length):loN ts i∈zl6 ts i:=(jy (qr (Xv h))).1
def QM{i:Nat}(h:1<=ts.length):hiN ts i∈zl6 ts i:=(kh (vR (Xv h))).1
def xa2{i:Nat}(h:1<=ts.length):loN ts i<=hiN ts i:=zw6 h (QM h)
def zf7{i:Nat}(h:∀t∈ls,t∈ts){x:Int}(hx:x∈zl6 ls i):x∈zl6 ts i:=by
 rw[UK] at hx ⊢;obtain⟨t,ht,e⟩:=zk.mp hx;exact zk.mpr ⟨t,h t ht,e⟩
def xa1{i:Nat}(h:∀t∈ls,t∈ts)(h1:1<=ls.length)(J:1<=ts.length):loN ts i<=loN ls i/\hiN ls i<=hiN ts i:=
 ⟨zw6 J (zf7 h (zw5 h1)),zR5 J (zf7 h (QM h1))⟩
def xD8(bd pl:List Pair):Str:=if yn bd pl=true then "out" else if Zb bd pl=true then "in" else "cut"
def yW:Tr->Nat
 |.one _ _=>1
 |.two _ _ L J=>1+yW L+yW J
def qb:Tr->Nat
 |.one _ _=>0
 |.two _ _ L J=>1+max (qb L) (qb J)
theorem qt:∀t:Tr,qb t<yW t
 |.one _ _=>by simp[qb,yW]
 |.two _ _ l h=>by have:=qt l;have:=qt h;unfold qb yW;lia
def TreeOf.size{d:Nat}(h:TreeOf d ts tr):yW tr+1=2*ts.length:=by
 induction h with
 |one=>rfl
 |two p _ _ _ _ h1 J=>have:=p.length_eq;rw[zu] at this;unfold yW;lia
def zY4{d:Nat}(hd:1<=d)(hp:p.length=d)(hl:pl.length=d):xD8 (ja d [p]) pl ≠ "cut" := by
 unfold xD8
 by_cases ha:yn (ja d [p]) pl=true
 ·rw[if_pos ha];decide
 ·rw [if_neg ha]
  have hw:Zb (ja d [p]) pl=true:=by
   rw[WD (by rw[vV,hl]) (by rw[vV];exact hd)] at ha
   have pt:∀(i:Nat) (b:Pair),(ja d [p])[i]?=some b->∃x:Int,b=(some x,some x):=λi b O=>by
    unfold ja at O;rw[zw] at O
    by_cases hi:i<d
    ·rw [wO hi] at O;have e1:UZ [p] i=[p[i]?.getD 0]:=rfl
     have m1:zn0 (UZ [p] i)=p[i]?.getD 0:=(Uu (ns:=UZ [p] i) (by rw[e1];simp) (by rw[e1];simp)).symm
     have m2:Uw (UZ [p] i)=p[i]?.getD 0:=(QG (ns:=UZ [p] i) (by rw[e1];simp) (by rw[e1];simp)).symm
     refine⟨p[i]?.getD 0,?_⟩;rw[<- zP O];show(some (zn0 (UZ [p] i)),some (Uw (UZ [p] i)))=_;rw[m1,m2]
    ·rw[List.getElem?_eq_none (by simp;lia)] at O;cases O
   refine zn4 (zn5 (by rw[vV,hl]) (λi b q O hq=>?_) λhc=>?_)
   ·obtain ⟨x, rfl⟩ := pt i b O
    have J:crossedT (commonP (some x,some x) q)=false:=by
     cases Y:crossedT (commonP (some x,some x) q) with
     |false=>rfl
     |true=>exact absurd (WF.mpr ⟨i,_,VD O hq,Y⟩) ha
    obtain⟨a,b⟩:=q
    cases a with
    | none => cases b with
     |none=>rfl
     |some g=>
      simp[commonP,maxO,minO,crossedT] at J ⊢
      by_cases hg:g<x
      ·rw[if_pos hg] at J;lia
      ·exact λh=>absurd h hg
    | some l => cases b with
     |none=>
      simp[commonP,maxO,minO,crossedT] at J ⊢
      by_cases hg:x<l
      ·rw[if_pos hg] at J;lia
      ·exact λh=>absurd h hg
     | some g =>
      simp[commonP,maxO,minO,crossedT] at J ⊢
      constructor
      ·by_cases hg : x < l
       ·rw [if_pos hg] at J
        by_cases L:g<x
        ·rw[if_pos L] at J;lia
        ·rw[if_neg L] at J;lia
       ·exact λh=>absurd h hg
      ·by_cases L : g < x
       ·rw [if_pos L] at J
        by_cases hg:x<l
        ·rw[if_pos hg] at J;lia
        ·rw[if_neg hg] at J;lia
       ·exact λh=>absurd h L
   ·obtain⟨i,b,O,Y⟩:=WF.mp hc;obtain⟨x,rfl⟩:=pt i b O;simp[crossedT] at Y
  rw[if_pos hw];decide
def vL(t:Tr):∃a b,yM t=.tup [.tup ((wG t).map D.int),zT (kF t),a,b]/\xG a=true/\xG b=true:=by
 cases t with
 |one x bd=>exact⟨_,_,rfl,rfl,rfl⟩
 |two ns bd l h=>exact⟨_,_,rfl,yX l,yX h⟩
def ZC(x:List Int × Tr):D:=.tup [.tup (x.1.map D.int),yM x.2]
def vI:List (List Int × Tr)->Nat
 |[]=>0
 |x::r=>yW x.2+vI r
theorem kH:∀(r:List (List Int × Tr)) (x:List Int × Tr),vI (r++[x])=vI r+yW x.2
 |[],x=>by simp[vI]
 |y::r,x=>by show yW y.2+vI (r++[x])=(yW y.2+vI r)+yW x.2;rw[kH r x];lia
def jM(b:List Ka):(vf b).length=b.length:=by unfold vf;rw[Zg,zg]
section
variable {P:Program}{w:World}{K:W.Frag}{mg:QqM}{base:Heap}{f:Addr}{fd:FuncData}
theorem zc1:∀stk:List (List Int × Tr),stk.length<=vI stk
 |[]=>zo _
 |x::r=>by
  have:=zc1 r
  have h:1<=yW x.2:=by cases x.2<;>simp[yW]<;>lia
  unfold vI;rw[zJ];lia
end
def xK8(i:Nat)(t:Thing):SRow:=⟨.n (t.2.1[i]?.getD 0),t.1,[]⟩
structure JBd(d:Nat)(ts:List Thing)(i:Nat)(rho:Rho)(n:Nat)(n0:Nat):Prop where
 e:n=n0
 r:∃(u v:Option D),rho=[some (.lst (ts.map xB)),some (.lst (ts.map λt=>yF t.2.1)),some (.own (((ja d (ts.map λt=>t.2.1)).map xD).take i)),u,v]
section
variable {P:Program}{w:World}{K:W.Frag}{mg:QqM}{base:Heap}{f:Addr}{fd:FuncData}
abbrev qE:Stmt:=top 38
abbrev vW:List Str:=["_law_things","_law_places","_law_edges","_law_i","_law_numbers"]
def vJ:FnScope vW ["_law_things"] (zW qE):=⟨rfl,rfl,rfl,w5,rfl,w5,w5⟩
def Xc:("_law_thing" :: vW:List Str).Nodup:=w5
def Xb:("_law_place" :: vW:List Str).Nodup:=w5
def zU0:TF:=λds n Q=>∃(d:Nat) (ts:List Thing),ds=[.lst (ts.map xB)]/\d<=4/\(∀t∈ts,t.2.1.length=d)/\1<=ts.length/\ts.length<=60/\Q (zT (ja d (ts.map λt=>t.2.1))) n
def xl5(T:Blt mg)(F:Fun K "_law_bounds" "_law_bounds" qE f fd):FnOk P w K mg base CX0 1 f fd ["_law_things"] (spD K 1 zU0):=by
 refine Fun.okD F vJ (λad A0 outer s H E G Z hr=>(zx (XN (i:=1) vJ.nd rfl (lo rfl) (own:=["_law_thing"]) (M:=vW) (vD (by rfl)) rfl (vw rfl (zf 0)) (λC L H2 fp=>(zZ (i:=0) Xc rfl (lo rfl) q9)) (λC L H2 fp=>yT) (λC L H2 fp=>(xU xk xT (zf 0) zq (λ_ _=>rfl))))
  (zx (Yx (i:=2) vJ.nd rfl (lo rfl) zi)
  (zx (jq (m:=5) PassesOwn.never rfl (kQ T.range (zc (xZ wE kC T.len vZ (zc (xU xk xT (zf 1) zq (λ_ _=>rfl)) zi)) zi)) (zZ (i:=3) vJ.nd rfl (lo rfl) q9)
  (zx (XN (i:=4) vJ.nd rfl (lo rfl) (own:=["_law_place"]) (M:=vW) (vD (by rfl)) rfl (vw rfl (zf 1)) (λC L H2 fp=>(zZ (i:=0) Xb rfl (lo rfl) q9)) (λC L H2 fp=>yT) (λC L H2 fp=>(xU xk xT (zf 0) (zf 4) (λ_ _=>rfl))))
  (zF (vc (i:=2) (zc (wf (zc (xZ (JA rfl) zB9 T.min JF (zc (zf 4) zi)) (zc (xZ (JD rfl) zC2 T.max Vz (zc (zf 4) zi)) zi))) zi) rfl))))
  (zF (jp 2 (xp (yq wH vn T.tuple vo (zc (zf 2) zi))))))))) ?_
 rintro ds n Q hl ⟨d,ts,rfl,hd,J,h1,aa,q⟩;generalize O:XF (xw1 2 _) _=Rr;simp[startD]
 refine yN xB (λt=>yF t.2.1) ts (wS q5) (λt ht R O=>?_) ?_
 ·simp;exact⟨_,1,_,.inr (.inl rfl),rfl,rfl,O⟩
 ·subst O;simp
  obtain⟨t0,Y,e0⟩:∃t0 Y,ts=t0::Y:=by cases ts with |nil=>simp at h1 |cons a b=>exact⟨a,b,rfl⟩
  have m0:t0∈ts:=by rw[e0];simp
  have hk:∀k:D->Prop,k (.int d)->zM7 [yF t0.2.1] k:=λk h=>by unfold yF;rw[Ug,zg,J t0 m0];exact h
  refine⟨yF t0.2.1,qo (j:=0) (by rw[e0];rfl),hk _ ⟨d,rfl,q5,q5,?_⟩⟩
  refine⟨λi rho n'=>JBd d ts i rho n' n,⟨rfl,none,none,rfl⟩,?_,?_⟩
  ·rintro i d' rho n' e ⟨rfl, u, v, rfl⟩;obtain⟨hi,rfl⟩:=XG e
   replace hi:i<d:=by simpa using hi
   have ec:(ts.map λt=>D.int (t.2.1[i]?.getD 0))=(UZ (ts.map λt=>t.2.1) i).map D.int:=by unfold UZ;rw[zQ,zQ];rfl
   have hc:0<(UZ (ts.map λt=>t.2.1) i).length:=by unfold UZ;rw[zg,zg];exact h1
   have hb:(ja d (ts.map λt=>t.2.1))[i]?=some (some (zn0 (UZ (ts.map λt=>t.2.1) i)),some (Uw (UZ (ts.map λt=>t.2.1) i))):=by unfold ja;rw[zw,wO hi];rfl
   generalize hS:Qp 2 _=S;simp
   refine yN (λt:Thing=>yF t.2.1) (λt=>.int (t.2.1[i]?.getD 0)) ts (wS q5) (λt ht R O=>?_) ?_
   ·simp;unfold yF;rw[zr0];refine⟨.int (t.2.1[i]?.getD 0),qo ?_,O⟩
    rw[zw,ze (by rw[J t ht];exact hi)]
    rfl
   ·rw [ec];subst hS;simp
    refine⟨lt_size (by rw[vV];lia),Vq hc (Vr hc ⟨rfl,some (.int i),some (.lst ((UZ (ts.map λt=>t.2.1) i).map D.int)),?_⟩)⟩
    rw[xm,zw,hb];rfl
  ·rintro rho n' ⟨rfl, u, v, rfl⟩;rw[jm];simp
   rw[List.take_of_length_le (by rw[zg,vV];exact zo _)]
   exact q
abbrev vO:Stmt:=top 39
abbrev jI:List Str:=["_law_left_here","_law_d","_law_things","_law_turn","_law_names","_law_i","_law_row","_law_cut","_law_low"]
def vh:FnScope jI qZ5 (zW vO):=⟨rfl,rfl,rfl,w5,rfl,w5,w5⟩
def XZ:("_law_thing" :: jI:List Str).Nodup:=w5
def XA:Nat->TF
 |0=>λ_ _ _=>False
 |j+1=>λds n Q=>∃(d:Nat) (ts:List Thing) (k:Int),ds=[.st,.int d,.lst (ts.map xB),.int k]/\n=3/\1<=d/\d<=4/\GoodU d ts/\1<=ts.length/\ts.length<=60/\ts.length<=j+1/\∀tr:Tr,TreeOf d ts tr->Q (yM tr) n
def zK7(T : Blt mg)(F : Fun K "_law_grown" "_law_grown" vO f fd)(am : W.nsIn K mainGlobals "_law_grown" = some (some (.ref f)))(ah : W.tabIn K "_law_grown" = some (c, Pt))(LB : LamBase base mg c Pt)(hm : mg "_law_grown" = some (.ref f))(hk : W.keepIn K (.ref f) = true)(hb : Binds K fd ["_law_left_here", "_law_d", "_law_things", "_law_turn"] [])(Y_pick : Fn P w K mg base "_law_pick" 1 2 ZJ)(Y_bounds : Fn P w K mg base "_law_bounds" 1 1 zU0) : ∀ j : Nat, FnOk P w K mg base CX0 (j + 4) f fd qZ5 (spD K 4 (XA j)) := by
  intro j
  induction j with
  |zero=>exact FnOk.botK λds n Q h=>h
  | succ j ih =>
    have Y_grown:Fn P w K mg base "_law_grown" (j+4) 4 (XA j):=⟨f,fd,_,ih,hm,hk,hb⟩
    have TI:qa K Pt (("_law_grown" ++ ".<locals>.") ++ "<lambda>"):=⟨"_law_grown",by simp[ko],c,ah,rfl⟩
    refine Fun.okL F am ah vh (λA0 outer s H E G Z L=>(zx (yf (i:=4) vh.nd rfl (lo rfl) (yq wH vn T.tuple vo (zc (xZ QW zB7 T.sorted WA (zc (vB (own:=["_law_thing"]) (M:=jI) (vD (by rfl)) rfl (vw rfl (zf 2)) (λ_ _ _ _=>(zZ (i:=0) XZ rfl (lo rfl) q9)) (λ_ _ _ _=>yT) (λ_ _ _ _=>(xU xk xT (zf 0) zq (λ_ _=>rfl)))) zi)) zi)))
    (zx (yU (xR WJ WH (xZ wE kC T.len vZ (zc (zf 2) zi)) zq (wg _)) (zF (xp (wf (zc (zf 4) (zc (wt Y_bounds (L.mono q5) rfl (zc (zf 2) zi)) (zc yV (zc yV zi))))))) wI)
    (zx (yf (i:=5) vh.nd rfl (lo rfl) (xU xk xT (vg (zc (qX (zf 3) (zf 1)) (zc (wt Y_pick (L.mono q5) rfl (zc (zf 0) (zc (zf 1) zi))) zi))) (wt Y_pick (L.mono q5) rfl (zc (zf 0) (zc zq zi))) (λ_ _=>rfl)))
    (zx (yf (i:=6) vh.nd rfl (lo rfl) (Yy (N:=["_law_thing","_law_i"]) (p := "_law_thing") (clos:=[("_law_i",s.heap.objs.size+1)]) (caps:=[5]) (k:=0) TI rfl T.sorted (L.mono q5) (zc (zf 2) zi) LB (Uz (by rfl) zO9) (Caps.one rfl rfl rfl) (λA1 f1 c1 s1 H1 G1 Z1 L=>(wf (zc (xU xk xT (xU xk xT (zf 0) zq (λ_ _=>rfl)) (zf 1) (λ_ _=>rfl)) (zc (xU xk xT (zf 0) zq (λ_ _=>rfl)) zi))))))
    (zx (yU (xR WJ WH (wt Y_pick (L.mono q5) rfl (zc (zf 0) (zc zq zi))) zq (wg _)) (zF (yf (i:=6) vh.nd rfl (lo rfl) (qJ KJ Kx (xD2 rfl (zf 6)) (xD3 rfl (zf 6))))) wI)
    (zx (yf (i:=7) vh.nd rfl (lo rfl) (xU xk xT (vg (zc (Vh (vX (xZ wE kC T.len vZ (zc (zf 6) zi)) zq) zq) (zc (vX zq (wt Y_pick (L.mono q5) rfl (zc (zf 0) (zc (jr (xZ wE kC T.len vZ (zc (zf 6) zi)) zq) zi)))) zi))) (wt Y_pick (L.mono q5) rfl (zc (zf 0) (zc zq zi))) (λ_ _=>rfl)))
    (zx (yf (i:=8) vh.nd rfl (lo rfl) (wt Y_grown L rfl (zc (zf 0) (zc (zf 1) (zc (zs6 rfl (zf 6) Xn (Xm (zf 7))) (zc (vX (zf 3) zq) zi))))))
    (zF (xp (wf (zc (zf 4) (zc (wt Y_bounds (L.mono q5) rfl (zc (zf 2) zi)) (zc (zf 8) (zc (wt Y_grown L rfl (zc (zf 0) (zc (zf 1) (zc (zs6 rfl (zf 6) (Xm (zf 7)) Xn) (zc (vX (zf 3) zq) zi))))) zi))))))))))))))) ?_
    rintro ds n Q hl ⟨d,ts,kt,rfl,rfl,ak,hd,hg,h1,au,hj,q⟩
    have al:(ts.map λt=>D.int t.1)=(ts.map λt=>t.1).map D.int:=by rw[zQ];rfl
    generalize Y:XF (zc2 5 _) _=Rr
    have main:∀(F:EndsD) (ns:List Int),F.rt=Q->2<=ts.length->ns.Perm (ts.map λt=>t.1)->ns.Pairwise (·<=·) ->
        Rr F [some .st,some (.int d),some (.lst (ts.map xB)),some (.int kt),some (.tup (ns.map D.int)),none,none,none,none] 3:=λF ns hF h2 hp hs=>by
      subst Y;generalize ar:XF (zc2 6 _) _=R6;simp
      refine⟨ak,wb q5 q5 λk1 g0 g1=>wb q9 q9 λk2 g2 g3=>?_⟩
      have ad:∀R:D->Prop,(∀i:Nat,i<d->R (.int i))->Zt (.lst [.int (kt%d),.int k1]) (.int k2) R:=λR Y=>zR0 g2 (by simpa using g3) λdd O=>by
        simp only[zj,zI,or_false] at O
        have e0:0<=kt%(d:Int):=wC _ q5
        have e1:kt%(d:Int)<d:=wZ _ q5
        rcases O with rfl |rfl
        · obtain ⟨i, e⟩ := xz e0
          rw[e]
          exact Y i q5
        · obtain ⟨i, e⟩ := xz g0
          rw[e]
          exact Y i q5
      refine ad _ λi hi=>?_;subst ar;generalize aq:XF (sIf _ _ _) _=R7
      have rest:∀(F:EndsD) (us:List Thing),F.rt=Q->us.Perm ts->R7 F [some .st,some (.int d),some (.lst (ts.map xB)),some (.int kt),some (.tup (ns.map D.int)),some (.int i),some (.lst (us.map xB)),none,none] 3:=λF us hF hu=>by
        subst aq;generalize ap:XF (zc2 7 _) _=R8
        have J:∀(F:EndsD) (us:List Thing),F.rt=Q->us.Perm ts->R8 F [some .st,some (.int d),some (.lst (ts.map xB)),some (.int kt),some (.tup (ns.map D.int)),some (.int i),some (.lst (us.map xB)),none,none] 3:=λF us hF hu=>by
          subst ap;have ax:=hu.length_eq;generalize ao:XF (zc2 8 _) _=R9;simp
          refine⟨⟨q9,q9⟩,wb q5 q5 λk1 g0 g1=>?_⟩
          simp
          refine wb q9 q9 λk2 g2 g3=>?_
          have ad:∀R:D->Prop,(∀m:Nat,1<=m->m<ts.length->R (.int m))->Zt (.lst [.int (((us.length:Int)+1)/2),.int (1+k1)]) (.int k2) R:=λR Y=>zR0 g2 (by simpa using g3) λdd O=>by
            simp only[zj,zI,or_false] at O
            rcases O with rfl |rfl
            · obtain ⟨m, e⟩ := xz (show 0 <= ((us.length : Int) + 1) / 2 by lia)
              rw[e]
              exact Y m q5 q5
            · obtain ⟨m, e⟩ := xz (show 0 <= 1 + k1 by lia)
              rw[e]
              exact Y m q5 q5
          refine ad _ λm az ay=>?_;subst ao
          have ag:Ju (us.map xB) none (some (m:Int))=(us.take m).map xB:=by rw[xq0 _ _ (by rw[zg];lia),map_take]
          have af:Ju (us.map xB) (some (m:Int)) none=(us.drop m).map xB:=by rw[Xu _ _ (by rw[zg];lia),List.map_drop]
          have gu:=hg.perm hu
          have aa:∀(vs:List Thing) (R:D->Nat->Prop),vs.Sublist us->1<=vs.length->vs.length<ts.length->(∀tr,TreeOf d vs tr->R (yM tr) 3)->XA j [.st,.int d,.lst (vs.map xB),.int (kt+1)] 3 R:=λvs R hv h3 h4 Y=>by
            cases j with
            |zero=>lia
            |succ j=>exact⟨d,vs,kt+1,rfl,rfl,ak,hd,gu.sub hv,h3,q5,q5,Y⟩
          have lt:(us.take m).length=m:=by rw[yi];lia
          have ld:(us.drop m).length=ts.length-m:=by rw[length_drop];lia
          simp;rw[ag]
          refine aa _ _ (yA ..) q5 q5 λaw ai=>?_
          simp[yX];refine⟨d,ts,rfl,hd,hg.each,h1,au,?_⟩;rw[af]
          refine aa _ _ (List.drop_sublist ..) q5 q5 λav ae=>?_
          rw[hF]
          exact q _ (.two (by rw[List.take_append_drop];exact hu) hp hs ai ae)
        simp
        refine wb q9 q9 λk g0 g1=>?_
        simp
        split
        · rw [UG, UG, <- zE]
          have ul:=hu.length_eq;refine⟨wS ?_,J F _ hF ((Jj us).trans hu)⟩;have z1:=Xq true us;have z2:=Xq false us;simp only[zg];lia
        · exact J F us hF hu
      simp
      refine XB xB (xK8 i) true [.int i] ts (0,[],0) q5 (λt ht=>rfl) hg.nd rfl (λi' j' e=>?_) (λt ht=>?_) λus hu _=>rest _ us hF hu
      · cases i' with
        |zero=>cases e;exact⟨_,rfl,rfl,rfl⟩
        |succ i'=>simp at e
      · simp
        have aj:i<t.2.1.length:=by rw[hg.each t ht];exact hi
        refine⟨_,1,_,.inr (.inl rfl),rfl,rfl,?_⟩
        refine⟨_,_,_,.inr (.inl rfl),rfl,qo (by rw[zw,ze aj];rfl),?_⟩
        refine⟨_,0,_,.inr (.inl rfl),rfl,rfl,?_⟩;unfold xK8;rw[ze aj];rfl
    simp[startD]
    refine yN xB (λt=>.int t.1) ts (wS q5) (λt ht R Y=>?_) ?_
    · simp
      exact⟨_,0,_,.inr (.inl rfl),rfl,rfl,Y⟩
    · rw [al]
      refine⟨ts.map λt=>t.1,rfl,by simp;lia,λns hp hs'=>?_⟩
      simp
      split
      · rename_i h2
        have h2':ts.length=1:=q5
        obtain⟨t,rfl⟩:=List.length_eq_one_iff.mp h2'
        have e1:ns=[t.1]:=by simpa using hp
        subst e1
        refine⟨d,[t],rfl,hd,hg.each,by simp,by simp,?_⟩
        exact q _ (.one (hg.each t (by simp)))
      · rename_i h2
        exact main _ ns rfl q5 hp hs'
abbrev Zn:Stmt:=top 40
abbrev zb0:List Str:=["_law_left_here","_law_house_here"]
def Kr:FnScope zb0 qZ1 (zW Zn):=⟨rfl,rfl,rfl,w5,rfl,w5,w5⟩
def VI:TF:=λds n Q=>∃(d:Nat) (ts:List Thing),ds=[.st,wo d ts]/\n=3/\1<=d/\d<=4/\GoodU d ts/\ts.length<=30/\(ts=[]->Q .non 3)/\(ts≠[]->∀tr:Tr,TreeOf d ts tr->Q (yM tr) 3)
def zK3(T:Blt mg)(F:Fun K "_law_tree" "_law_tree" Zn f fd)(Y_grown:Fn P w K mg base "_law_grown" 34 4 (XA 30)):FnOk P w K mg base CX0 35 f fd qZ1 (spD K 2 VI):=by
 refine Fun.okD F Kr (λY A0 outer s H E G Z L=>(zx (yU (xR (xk7 L) xg6 (xU xk xT (zf 1) zq (λ_ _=>rfl)) (wf zi) (wg _)) (zF (xp yV)) wI)
  (zF (xp (wt Y_grown (L.mono q9) rfl (zc (zf 0) (zc (xU xk xT (zf 1) zq (λ_ _=>rfl)) (zc (yq JE xd3 T.list zD3 (zc (xU xk xT (zf 1) zq (λ_ _=>rfl)) zi)) (zc zq zi))))))))) ?_
 rintro ds n Q hl ⟨d,ts,rfl,rfl,h1,hd,hg,hz,q0,q1⟩;have O:=vz d ts;simp[startD,O];refine Vt ?_;simp
 split
 ·rename_i h;exact q0 h
 ·rename_i h
  have J:1<=ts.length:=by
   cases ts with
   |nil=>exact absurd rfl h
   |cons a b=>simp
  refine zy8 (Vt ?_);simp
  exact⟨d,ts,0,rfl,rfl,h1,hd,hg,J,q5,q5,q1 h⟩
end
def jS(p:QqP)(x:Int):Int:=max 0 (max (p.1-x) (x-p.2))
def kK(bd:List (Int × Int))(pl:List Int):Int:=((bd.zip pl).map λz=>jS z.1 z.2).sum
def Zf(p:QqP)(bd:List (Int × Int))(x:Int)(pl:List Int):kK (p::bd) (x::pl)=jS p x+kK bd pl:=by
 show(((p,x)::bd.zip pl).map λz=>jS z.1 z.2).sum=_;rw[zD,sum_cons];rfl
theorem zc0:∀(bd J:List (Int × Int)) (pl:List Int),bd.length=J.length->(∀(i:Nat) p q,bd[i]?=some p->J[i]?=some q->p.1<=q.1/\q.2<=p.2)->kK bd pl<=kK J pl
 |[],[],pl,_,_=>yS _
 |p::bd,q::J,[],_,_=>by
  have e1:kK (p::bd) []=0:=rfl;have Y:kK (q::J) []=0:=rfl;rw[e1,Y];exact yS _
 |p::bd,q::J,x::pl,L,h=>by
  have ih:=zc0 bd J pl (by simpa using L) λi a b ha O=>h (i+1) a b (by simpa using ha) (by simpa using O)
  obtain⟨h1,h2⟩:=h 0 p q rfl rfl;rw[Zf,Zf];unfold jS;lia
noncomputable def bdI(d:Nat)(ts:List Thing):List (Int × Int):=(List.range d).map λi=>(loN ts i,hiN ts i)
def JY(p:QqP):Pair:=(some p.1,some p.2)
def UM(d:Nat)(ts:List Thing):(bdI d ts).length=d:=by unfold bdI;rw[zg,yg]
def zT5{d i:Nat}(ts:List Thing)(hi:i<d):(bdI d ts)[i]?=some (loN ts i,hiN ts i):=by
 unfold bdI;rw[zw,wO hi];rfl
def zD6(d:Nat)(ts:List Thing):ja d (ts.map λt=>t.2.1)=(bdI d ts).map JY:=by
 unfold ja bdI;rw[zQ];rfl
noncomputable def WS(d:Nat)(kd:QqO)(ts:List Thing):Int:=match kd with
 |some pl=>kK (bdI d ts) pl
 |none=>- Uw (ts.map λt=>t.2.2)
noncomputable def va(ts:List Thing):Int:=zn0 (ts.map λt=>t.1)
noncomputable def yR(d:Nat)(kd:QqO)(ts:List Thing):Int × Int:=(WS d kd ts,va ts)
def vt(h:1<=ts.length):∃t∈ts,t.1=va ts:=by
 have:=(jy (qr (ns:=ts.map λt=>t.1) (by rw[zg];exact h))).1
 obtain⟨t,ht,e⟩:=zk.mp this;exact⟨t,ht,e⟩
def We(h:t∈ts):va ts<=t.1:=
 (jy (qr (ns:=ts.map λt=>t.1) (by rw[zg];exact List.length_pos_of_mem h))).2 _ (zk.mpr ⟨t,h,rfl⟩)
def QJ{d:Nat}(h:∀t∈ls,t∈ts)(h1:1<=ls.length):WS d kd ts<=WS d kd ls:=by
 obtain⟨t0,J⟩:=List.exists_mem_of_length_pos h1;have Y:1<=ts.length:=List.length_pos_of_mem (h t0 J)
 cases kd with
 |some pl=>
  refine zc0 _ _ _ (by rw[UM,UM]) λi p q L O=>?_
  have hi:i<d:=by have:=(zm.mp L).1;rw[UM] at this;exact this
  rw[zT5 ts hi] at L;rw[zT5 ls hi] at O;cases L;cases O;exact xa1 h h1 Y
 |none=>
  have a:=(kh (vR (ns:=ls.map λt=>t.2.2) (by rw[zg];exact h1))).1
  have b:=(kh (vR (ns:=ts.map λt=>t.2.2) (by rw[zg];exact Y))).2
  obtain⟨t,ht,e⟩:=zk.mp a;have:=b t.2.2 (zk.mpr ⟨t,h t ht,rfl⟩);show-Uw _<=- Uw _;lia
def xa8{d:Nat}(h:t∈ts):ltP (yR d kd [t]) (yR d kd ts)=false:=by
 cases e:ltP (yR d kd [t]) (yR d kd ts) with
 |false=>rfl
 | true =>
  rw[kW] at e
  have h1:WS d kd ts<=WS d kd [t]:=QJ (λu hu=>by rw[zB.mp hu];exact h) (by simp)
  have L:va ts<=t.1:=We h
  have J:va [t]=t.1:=by
   obtain⟨u,hu,e⟩:=vt (ts:=[t]) (by simp)
   rw[<- e,zB.mp hu]
  have e':WS d kd [t]<WS d kd ts\/WS d kd [t]=WS d kd ts/\va [t]<va ts:=e;lia
def Vo(t:Thing):va [t]=t.1:=by
 obtain⟨u,hu,e⟩:=vt (ts:=[t]) (by simp)
 rw[<- e,zB.mp hu]
def zw3(h1:ltP a b=false)(J:a.2≠b.2):ltP b a=true:=by
 rw[kW]
 have:¬ (a.1<b.1\/(a.1=b.1/\a.2<b.2)):=λz=>by rw[<- kW,h1] at z;cases z
 lia
def xm5(h1:ltP b a=false)(J:ltP c b=false):ltP c a=false:=by
 cases e:ltP c a with
 |false=>rfl
 |true=>
  have i1:¬ (b.1<a.1\/(b.1=a.1/\b.2<a.2)):=λz=>by rw[<- kW,h1] at z;cases z
  have i2:¬ (c.1<b.1\/(c.1=b.1/\c.2<b.2)):=λz=>by rw[<- kW,J] at z;cases z
  rw[kW] at e;lia
def TreeOf.names{d:Nat}(h:TreeOf d ts tr):(wG tr).Perm (ts.map λt=>t.1)/\(wG tr).Pairwise (·<=·):=by
  cases h with
  |one h=>exact⟨.refl _,by simp[wG]⟩
  |two p J hs _ _=>exact⟨J,hs⟩
def TreeOf.head{d:Nat}(h:TreeOf d ts tr):∃r,wG tr=va ts::r:=by
 obtain⟨J,hs⟩:=h.names
 cases O:wG tr with
 |nil=>
  rw[O] at J;have:=h.ne;have:=J.length_eq;simp at this;lia
 | cons a r =>
  refine⟨r,?_⟩;rw[O] at J hs
  have:a=va ts:=Uu (J.mem_iff.mp (by simp)) λb L=>by
   rcases zj.mp (J.mem_iff.mpr L) with rfl |L
   ·exact yS _
   ·exact(wF.mp hs).1 b L
  rw[this]
def KZ(p:a.Perm b):Uw a=Uw b:=by
 cases ha:a with
 |nil=>
  rw[ha] at p;rw[List.nil_perm.mp p]
 |cons x r=>
  rw[<- ha]
  have h0:0<a.length:=by rw[ha];simp
  obtain⟨L,J⟩:=kh (vR h0);exact QG (p.mem_iff.mp L) λy O=>J y (p.mem_iff.mpr O)
abbrev Qe:=List Thing × Tr
def yL(pl:List Pair)(q:List Qe):List Qe:=q.filter λx=>!yn (kF x.2) pl
def yY(q:List Qe):List Thing:=q.flatMap λx=>x.1
structure QOk(d:Nat)(hs:List Thing)(q:List Qe):Prop where
 tree:∀x∈q,TreeOf d x.1 x.2
 sub:∀t∈yY q,t∈hs
 nd:((yY q).map λt=>t.1).Nodup
def vK:t∈yY q↔∃x∈q,t∈x.1:=by unfold yY;exact List.mem_flatMap
def vd(x:Qe)(q:List Qe):yY (x::q)=x.1++yY q:=by unfold yY;rw[List.flatMap_cons]
def jA(p q:List Qe):yY (p++q)=yY p++yY q:=by unfold yY;rw[List.flatMap_append]
def jQ(h:p.Perm q):(yY p).Perm (yY q):=h.flatMap_right _
def QOk.perm{d:Nat}(h:QOk d hs q)(e:p.Perm q):QOk d hs p:=
 ⟨λx hx=>h.tree x (e.mem_iff.mp hx),λt ht=>h.sub t ((jQ e).mem_iff.mp ht),((jQ e).map _).nodup_iff.mpr h.nd⟩
def QOk.sublist{d:Nat}(h:QOk d hs q)(e:p.Sublist q):QOk d hs p:=by
 have L:(yY p).Sublist (yY q):=by
  clear h
  induction e with
  |slnil=>exact .refl _
  |cons x _ J=>rw[vd];exact J.trans (wP ..)
  |cons_cons x _ J=>rw[vd,vd];exact(List.Sublist.refl _).append J
 exact⟨λx hx=>h.tree x (e.mem hx),λt ht=>h.sub t (L.mem ht),(L.map _).nodup h.nd⟩
def QOk.tail{d:Nat}(h:QOk d hs (x::q)):QOk d hs q:=h.sublist (List.sublist_cons_self ..)
def QOk.apartN{d:Nat}(h:QOk d hs (x::q))(ht:t∈x.1)(hu:u∈yY q):t.1≠u.1:=by
 have:=h.nd;rw[vd,zE,wM] at this;exact this.2.2 _ (zk.mpr ⟨t,ht,rfl⟩) _ (zk.mpr ⟨u,hu,rfl⟩)
theorem QOk.heads{d:Nat}:∀{q:List Qe},QOk d hs q->(q.map λx=>va x.1).Nodup
 |[],_=>nodup_nil
 |x::q,h=>by
  refine xC.mpr ⟨λz=>?_,QOk.heads h.tail⟩;obtain⟨y,J,e⟩:=zk.mp z
  obtain⟨t,ht,O⟩:=vt (h.tree x (by simp)).ne
  obtain⟨u,hu,L⟩:=vt (h.tree y (by simp[J])).ne
  exact h.apartN ht (vK.mpr ⟨y,J,hu⟩) (by rw[O,L];exact e.symm)
def KR{α β γ:Type}{f:α->β}{g:α->γ}{l:List α}(hg:∀a b,f a=f b->g a=g b)(h:(l.map g).Nodup):(l.map f).Nodup:=by
 rw[xM,xE] at h ⊢;exact h.imp λJ e=>J (hg _ _ e)
def QOk.keys{d:Nat}(kd:QqO)(h:QOk d hs q):(q.map λx=>yR d kd x.1).Nodup:=
 KR (g:=λx:Qe=>va x.1) (λa b e=>congrArg Prod.snd e) h.heads
theorem QZ{α β:Type}{f:α->Int × Int}{g:α->β}:∀{q:List α}{x:α},x∈q->(q.map f).Nodup->atP (q.map f) (q.map g) (f x)=some (g x)
 |[],x,h,_=>by simp at h
 |y::q,x,h,J=>by
  obtain⟨h1,L⟩:=xC.mp J
  show(if f y=f x then some (g y) else atP (q.map f) (q.map g) (f x))=_
  rcases zj.mp h with rfl |h
  ·exact if_pos rfl
  ·rw[if_neg λe=>h1 (zk.mpr ⟨x,h,e.symm⟩)];exact QZ h L
def YS{α:Type}(f:α->Int × Int)(q:List α)(k:QqP):List α:=q.filter λy=>decide (f y≠k)
def zA7{α:Type}(f:α->Int × Int)(q:List α)(k:QqP):Xf (q.map f) k=(YS f q k).map f:=by
 unfold Xf YS;rw[List.filter_map];rfl
theorem Jr{α β:Type}(f:α->Int × Int)(g:α->β)(k:QqP):∀q:List α,dropE (q.map f) (q.map g) k=(YS f q k).map g
 |[]=>rfl
 | y :: q => by
  have J:=Jr f g k q
  show(if f y=k then dropE (q.map f) (q.map g) k else g y::dropE (q.map f) (q.map g) k)=_
  by_cases e:f y=k
  ·rw [if_pos e, J];unfold YS
   rw[xo (by simpa using e)]
  ·rw [if_neg e, J];unfold YS
   rw[xj (by simpa using e),zD]
theorem qK{α:Type}{f:α->Int × Int}:∀{q:List α}{x:α},x∈q->(q.map f).Nodup->(x::YS f q (f x)).Perm q
 |[],x,h,_=>by simp at h
 | y :: q, x, h, J => by
  obtain⟨h1,L⟩:=xC.mp J;unfold YS
  rcases zj.mp h with rfl |h
  ·rw[xo (by simp),List.filter_eq_self.mpr λz hz=>by
    simp only[ne_eq,decide_not,Bool.not_eq_eq_eq_not,Bool.not_true,decide_eq_false_iff_not]
    exact λe=>h1 (zk.mpr ⟨z,hz,e⟩)]
  ·have e : f y ≠ f x := λe => h1 (zk.mpr ⟨x, h, e.symm⟩)
   rw[xj (by simpa using e)]
   exact(List.Perm.swap y x _).trans ((qK h L).cons y)
def zd1{d:Nat}{ts:List Thing}(Y:∀t∈ts,t.2.1.length=d){t:Thing}(ht:t∈ts):Wp (ja d (ts.map λt=>t.2.1)) t.2.1=true:=by
 have J:1<=ts.length:=List.length_pos_of_mem ht;refine Wo.mpr λi q x L hx=>?_
 have hi:i<d:=by have:=(zm.mp L).1;rw[vV] at this;exact this
 rw[zT4 ts hi] at L;cases L
 have O:x∈zl6 ts i:=by rw[UK];exact zk.mpr ⟨t,ht,by rw[hx];rfl⟩
 have:=zw6 (i:=i) J O;have:=zR5 (i:=i) J O;simp[liesT];lia
def TreeOf.apart{d:Nat}(h:TreeOf d ts tr)(hd:1<=d)(L:pl.length=d)(ha:yn (kF tr) pl=true):(ts.filter λt=>Wp pl t.2.1)=[]:=by
 rw[List.filter_eq_nil_iff];intro t ht O;have J:=h.lens;rw[h.bd] at ha
 have:=zE0 (ps:=ja d (ts.map λt=>t.2.1)) (qs:=pl) (p:=t.2.1) (by rw[vV,J t ht]) (by rw[L,J t ht]) (by rw[J t ht];exact hd) (zd1 J ht) O
 rw[ha] at this;cases this
def zK1{d:Nat}{t:Thing}(ht:t.2.1.length=d)(hd:1<=d){pl:List Pair}(L:pl.length=d)(ha:yn (ja d [t.2.1]) pl=false):Wp pl t.2.1=true:=by
 have nc:=zY4 hd ht L;unfold xD8 at nc;rw[ha] at nc;simp only[zY,if_false] at nc
 have J:Zb (ja d [t.2.1]) pl=true:=by
  cases h:Zb (ja d [t.2.1]) pl with
  |true=>rfl
  |false=>rw[h] at nc;simp at nc
 have e:ke (ja d [t.2.1]) pl=ja d [t.2.1]:=of_decide_eq_true (by unfold Zb at J;exact J)
 have:=zk4 (ps:=ja d [t.2.1]) (qs:=pl) (p:=t.2.1) (by rw[vV,ht]) (by rw[L,ht]) (by rw[ht];exact hd)
 have z:=zd1 (d:=d) (ts:=[t]) (λu hu=>by rw[zB.mp hu];exact ht) (t:=t) (by simp)
 rw[e,show Wp (ja d [t.2.1]) t.2.1=true from z,Bool.true_and] at this;exact this.symm
def UH(pl:List Pair)(ts:List Thing):List Thing:=ts.filter λt=>Wp pl t.2.1
def kX(pl:List Pair)(a b:List Thing):UH pl (a++b)=UH pl a++UH pl b:=filter_append ..
def Jl(h:a.Perm b):(UH pl a).Perm (UH pl b):=h.filter _
def ltK(d:Nat)(kd:QqO)(a b:Thing):Prop:=ltP (yR d kd [a]) (yR d kd [b])=true
structure DOk(d:Nat)(hs:List Thing)(kd:QqO)(pl:List Pair)(q:List Qe)(acc:List Thing):Prop where
 ok:QOk d hs q
 inb:∀x∈q,yn (kF x.2) pl=false
 perm:(acc++UH pl (yY q)).Perm (UH pl hs)
 up:acc.Pairwise (ltK d kd)
 below:∀a∈acc,∀t∈yY q,ltK d kd a t
theorem UD{d:Nat}{hs:List Thing}{pl:List Pair}(hd:1<=d)(L:pl.length=d):∀{q:List Qe},(∀x∈q,TreeOf d x.1 x.2)->UH pl (yY (yL pl q))=UH pl (yY q)
 |[],_=>rfl
 | x :: q, h => by
  have J:=UD (hs:=hs) hd L (q:=q) λy O=>h y (zn _ O);rw[vd,kX]
  cases ha:yn (kF x.2) pl with
  |true=>
   have e:yL pl (x::q)=yL pl q:=by unfold yL;rw[xo (by simp[ha])]
   have z:UH pl x.1=[]:=(h x (by simp)).apart hd L ha
   rw[e,J,z,yw]
  |false=>
   have e:yL pl (x::q)=x::yL pl q:=by unfold yL;rw[xj (by simp[ha])]
   rw[e,vd,kX,J]
section
variable {d:Nat}{hs:List Thing}{kd:QqO}{pl:List Pair}{q:List Qe}{acc:List Thing}
def DOk.start{tr:Tr}(hd:1<=d)(J:pl.length=d)(h:TreeOf d hs tr)(L:(hs.map λt=>t.1).Nodup):DOk d hs kd pl (yL pl [(hs,tr)]) []:=by
 have ok:QOk d hs [(hs,tr)]:=⟨λx hx=>by rw[zB.mp hx];exact h,λt ht=>by simpa [yY] using ht,by simpa [yY] using L⟩
 refine⟨ok.sublist yJ,λx hx=>by simpa using (zy.mp hx).2,?_,.nil,by simp⟩
 rw[yw,UD (hs:=hs) hd J ok.tree];simp[yY]
def DOk.none(h:hs=[]):DOk d hs kd pl [] []:=by
 subst h
 exact⟨⟨by simp,by simp[yY],by simp[yY]⟩,by simp,by simp[UH,yY],.nil,by simp⟩
def DOk.leaf(hd:1<=d)(hp:pl.length=d)(h:DOk d hs kd pl q acc)(hx:([t],tr)∈q)(hm:∀y∈q,ltP (yR d kd y.1) (yR d kd [t])=false) :
  DOk d hs kd pl (YS (λy:Qe=>yR d kd y.1) q (yR d kd [t])) (acc++[t]):=by
 have L:(([t],tr)::YS (λy:Qe=>yR d kd y.1) q (yR d kd [t])).Perm q:=qK (f:=λy:Qe=>yR d kd y.1) hx (h.ok.keys kd);have O:=h.ok.perm L;have tt:=h.ok.tree _ hx
 have hl:t.2.1.length=d:=tt.lens t (by simp)
 have hf:Wp pl t.2.1=true:=zK1 hl hd hp (by have:=h.inb _ hx;rw[tt.bd] at this;exact this)
 have J:=jQ L;rw[vd] at J;generalize YS (λy:Qe=>yR d kd y.1) q (yR d kd [t])=q' at *;refine⟨O.tail,λx hx'=>h.inb x (L.mem_iff.mp (zn _ hx')),?_,?_,λa ha u hu=>?_⟩
 ·refine List.Perm.trans ?_ h.perm;rw[yC];refine List.Perm.append_left acc ?_;refine List.Perm.trans ?_ (Jl J);rw[kX]
  have e:UH pl [t]=[t]:=by simp[UH,hf]
  show([t]++UH pl (yY q')).Perm (UH pl [t]++UH pl (yY q'));rw[e]
 ·rw [List.pairwise_append]
  refine⟨h.up,by simp,λa ha b hb=>?_⟩
  rw[zB.mp hb]
  exact h.below a ha t (vK.mpr ⟨_,hx,by simp⟩)
 ·have hu' : u ∈ yY q := J.mem_iff.mp (zL _ hu)
  rcases xi.mp ha with ha |ha
  ·exact h.below a ha u hu'
  ·rw [zB.mp ha];obtain⟨y,hy,Y⟩:=vK.mp hu;have i1:=hm y (L.mem_iff.mp (zn _ hy));have i2:=xa8 (d:=d) (kd:=kd) Y;refine zw3 (xm5 i1 i2) ?_;show va [u]≠va [t];rw[Vo,Vo]
   exact λe=>O.apartN (t:=t) (by simp) hu e.symm
def DOk.open{ts ls us:List Thing}{tr lo hi:Tr}(hd:1<=d)(hp:pl.length=d)(h:DOk d hs kd pl q acc)(hx:(ts,tr)∈q)(h1:(ls++us).Perm ts)(h2:TreeOf d ls lo)(h3:TreeOf d us hi) :
  DOk d hs kd pl (YS (λy:Qe=>yR d kd y.1) q (yR d kd ts)++yL pl [(ls,lo),(us,hi)]) acc/\QOk d hs (YS (λy:Qe=>yR d kd y.1) q (yR d kd ts)++[(ls,lo),(us,hi)]):=by
 have Y:((ts,tr)::YS (λy:Qe=>yR d kd y.1) q (yR d kd ts)).Perm q:=qK (f:=λy:Qe=>yR d kd y.1) hx (h.ok.keys kd);have ad:=h.ok.perm Y;have J:=jQ Y;rw[vd] at J;generalize YS (λy:Qe=>yR d kd y.1) q (yR d kd ts)=q' at *
 have e0:yY [(ls,lo),(us,hi)]=ls++us:=by simp[yY]
 have L:(yY (q'++[(ls,lo),(us,hi)])).Perm (yY q):=by
  rw[jA,e0];exact((List.Perm.append_left _ h1).trans List.perm_append_comm).trans J
 have O:QOk d hs (q'++[(ls,lo),(us,hi)]):=⟨λx hx'=>by
   rcases xi.mp hx' with hx' |hx'
   ·exact ad.tree x (zn _ hx')
   ·simp only [zj, zI, or_false] at hx'
    rcases hx' with rfl |rfl
    ·exact h2
    ·exact h3,λt ht=>h.ok.sub t (L.mem_iff.mp ht),(L.map _).nodup_iff.mpr h.ok.nd⟩
 have aa:(q'++yL pl [(ls,lo),(us,hi)]).Sublist (q'++[(ls,lo),(us,hi)]):=(List.Sublist.refl _).append yJ;refine⟨⟨O.sublist aa,λx hx'=>?_,?_,h.up,λa ha t ht=>?_⟩,O⟩
 ·rcases xi.mp hx' with hx' | hx'
  ·exact h.inb x (Y.mem_iff.mp (zn _ hx'))
  ·simpa using (zy.mp hx').2
 ·refine List.Perm.trans (List.Perm.append_left acc ?_) h.perm;rw[jA,kX,UD (hs:=hs) hd hp (λx hx'=>O.tree x (zL _ hx')),<- kX,<- jA];exact Jl L
 ·refine h.below a ha t (L.mem_iff.mp ?_);obtain⟨x,hx',ht'⟩:=vK.mp ht;exact vK.mpr ⟨x,aa.mem hx',ht'⟩
end
def yZ:Option (List Int)->D
 |some pl=>.tup [.str "near",yF pl]
 |none=>.tup [.str "best"]
@[simp] theorem zi9(k:QqO):xG (yZ k)=true:=by cases k<;>rfl
def wOf(hs:List Thing)(x:Int):Int:=((hs.find? λt=>t.1 == x).map λt=>t.2.2).getD 0
theorem zn8:∀{hs:List Thing}{t:Thing},t∈hs->(hs.map λt=>t.1).Nodup->wOf hs t.1=t.2.2
 |[],t,h,_=>by simp at h
 | s :: hs, t, h, J => by
  have hn':=xC.mp J;unfold wOf;rw[we]
  rcases zj.mp h with rfl |h
  ·rw[beq_self_eq_true];rfl
  ·have ne : (s.1 == t.1) = false := by
    rw[beq_eq_false_iff_ne];intro e;exact hn'.1 (zk.mpr ⟨t,h,e.symm⟩)
   rw[ne];exact zn8 h hn'.2
def xp4(J:(hs.map λt=>t.1).Nodup)(ht:t∈hs)(h:R (xB t)):xr2 (byN hs) (.int t.1) R:=by
 unfold byN;refine⟨_,_,Sum.inl t.1,xB t,rfl,rfl,Yc ht J,h⟩
theorem zb9:∀(bd:List (Int × Int)) (pl:List Int),((pl.zip bd).map λz=>max (z.2.1-z.1) (max 0 (z.1-z.2.2)))=(bd.zip pl).map λz=>jS z.1 z.2
 |[],pl=>by simp
 |_::_,[]=>by simp
 |p::bd,x::pl=>by
  rw[wX,wX,zD,zD,zb9 bd pl]
  congr 1
  unfold jS;show max (p.1-x) (max 0 (x-p.2))=max 0 (max (p.1-x) (x-p.2));lia
def zz0{a:Int}:atI ((a::r).map D.int) 0=some (.int a):=qo (j:=0) rfl
section
variable {P:Program}{w:World}{K:W.Frag}{mg:QqM}{base:Heap}{f:Addr}{fd:FuncData}
abbrev Yn:Stmt:=top 18
abbrev YG:List Str:=["place","limits"]
def Qj:FnScope YG ["place","limits"] (zW Yn):=⟨rfl,rfl,rfl,w5,rfl,w5,w5⟩
def qO:("number" :: "least" :: "greatest" :: YG:List Str).Nodup:=w5
def Ye:TF:=λds n Q=>∃(pl:List Int) (bd:List (Int × Int)),ds=[yF pl,zT (bd.map JY)]/\pl.length<=1000/\Q (.int (kK bd pl)) n
def Qx(T:Blt mg)(T2:Blt2 mg)(F:Fun K "steps_to" "steps_to" Yn f fd):FnOk P w K mg base CX0 1 f fd ["place","limits"] (spD K 2 Ye):=by
 refine Fun.okD F Qj (λY A0 outer s H E G Z hr=>(zF (xp (xZ (zg0 rfl) zS8 T2.sum zT1 (zc (vB (own:=["number","least","greatest"]) (M:=YG) (vD (by rfl)) rfl (Qu rfl T.zip (zc (zf 0) (zc (zf 1) zi))) (λC J H2 fp=>(vy (k:=2) rfl rfl (xn (zZ (i:=0) qO rfl (lo rfl) q9) (xn (vy (k:=2) rfl rfl (xn (zZ (i:=1) qO rfl (lo rfl) q9) (xn (zZ (i:=2) qO rfl (lo rfl) q9) vb))) vb)))) (λC J H2 fp=>yT) (λC J H2 fp=>(xZ (JB rfl) zC0 T.max Vz (zc (jr (zf 1) (zf 0)) (zc zq (zc (jr (zf 0) (zf 2)) zi)))))) zi))))) ?_
 rintro ds n Q hl ⟨pl,bd,rfl,hz,q⟩
 have O:Kb (pl.map D.int) ((bd.map JY).map xD)=(pl.zip bd).map λz=>.tup [.int z.1,xD (JY z.2)]:=by
  unfold Kb;rw[zQ,List.zipWith_map,yG];rfl
 simp[startD];refine(YQ (d1:=yF pl) (d2:=zT (bd.map JY)) rfl rfl).mpr ?_;rw[O]
 refine yN (λz:Int × (Int × Int)=>.tup [.int z.1,xD (JY z.2)]) (λz=>.int (max (z.2.1-z.1) (max 0 (z.1-z.2.2)))) (pl.zip bd) (zK (by rw[length_zip];lia) (wS (k:=1000) q5)) (λz hz R L=>?_) ?_
 ·simp[xD,JY];exact L
 ·have e : ((pl.zip bd).map λz => D.int (max (z.2.1 - z.1) (max 0 (z.1 - z.2.2)))) = ((bd.zip pl).map λz => jS z.1 z.2).map D.int := by
   rw[<- zb9,zQ];rfl
  exact⟨(bd.zip pl).map (λz:(Int × Int) × Int=>jS z.1 z.2),by rw[e],q⟩
abbrev Ua:Stmt:=top 19
abbrev UR:List Str:=["by_name","tree","kind","names","limits","low","high"]
def jc:FnScope UR ["by_name","tree","kind"] (zW Ua):=⟨rfl,rfl,rfl,w5,rfl,w5,w5⟩
def QC:("name" :: UR:List Str).Nodup:=w5
def VP:TF:=λds n Q=>∃(d:Nat) (hs ts:List Thing) (tr:Tr) (kd:QqO),ds=[byN hs,yM tr,yZ kd]/\(hs.map λt=>t.1).Nodup/\TreeOf d ts tr/\(∀t∈ts,t∈hs)/\ts.length<=1000/\(∀pl,kd=some pl->pl.length<=1000)/\Q (.prT (yR d kd ts)) n
def zu1(T:Blt mg)(F:Fun K "key_by" "key_by" Ua f fd)(F_steps_to:Fn P w K mg base "steps_to" 1 2 Ye):FnOk P w K mg base CX0 2 f fd ["by_name","tree","kind"] (spD K 3 VP):=by
 refine Fun.okD F jc (λaa A0 outer s H E G Z hr=>(zx (jo (m:=7) (zf 1) (vy (k:=4) rfl rfl (xn (zZ (i:=3) jc.nd rfl (lo rfl) q9) (xn (zZ (i:=4) jc.nd rfl (lo rfl) q9) (xn (zZ (i:=5) jc.nd rfl (lo rfl) q9) (xn (zZ (i:=6) jc.nd rfl (lo rfl) q9) vb))))))
  (zx (yU (xR WJ WH (xU xk xT (zf 2) zq (λ_ _=>rfl)) qW (wg _)) (zF (xp (xk3 (zc (wt F_steps_to (hr.mono q9) rfl (zc (xU xk xT (zf 2) zq (λ_ _=>rfl)) (zc (zf 4) zi))) (zc (xU xk xT (zf 3) zq (λ_ _=>rfl)) zi))))) wI)
  (zF (xp (xk3 (zc (zs7 (xZ (JD rfl) zC2 T.max Vz (zc (vB (own:=["name"]) (M:=UR) (vD (by rfl)) rfl (vw rfl (zf 3)) (λ_ _ _ _=>(zZ (i:=0) QC rfl (lo rfl) q9)) (λ_ _ _ _=>yT) (λ_ _ _ _=>(xU xk xT (xk5 (xb7 hr) (zf 1) (zf 0) (λ_ _=>rfl)) zq (λ_ _=>rfl)))) zi))) (zc (xU xk xT (zf 3) zq (λ_ _=>rfl)) zi)))))))) ?_
 rintro ds n Q hl ⟨d,hs,ts,tr,kd,rfl,hn,ht,J,hz,hk,q⟩;obtain⟨ta,tb,et,na,nb⟩:=vL tr;obtain⟨r,O⟩:=ht.head;obtain⟨L,_⟩:=ht.names
 have Y:atI ((wG tr).map D.int) 0=some (.int (va ts)):=by rw[O];exact zz0
 rw[et];simp[startD,na,nb]
 cases kd with
 |some pl=>
  refine⟨_,0,_,.inr (.inl rfl),rfl,rfl,?_⟩;simp;refine⟨_,1,_,.inr (.inl rfl),rfl,rfl,?_⟩
  refine⟨pl,bdI d ts,by rw[ht.bd,zD6],hk pl rfl,?_⟩
  exact⟨_,Y,(yR d (some pl) ts).1,(yR d (some pl) ts).2,⟨rfl,rfl⟩,q⟩
 | none =>
  refine⟨_,0,_,.inr (.inl rfl),rfl,rfl,?_⟩;simp
  rw[if_neg q9]
  refine yN D.int (λx=>.int (wOf hs x)) (wG tr) (wS (by rw[L.length_eq,zg];lia)) (λx hx R hR=>?_) ?_
  ·obtain⟨u,hu,rfl⟩:=zk.mp (L.mem_iff.mp hx);simp;refine xp4 hn (J u hu) ?_;refine⟨_,2,_,.inr (.inl rfl),rfl,rfl,?_⟩;rw[zn8 (J u hu) hn] at hR;exact hR
  ·have e : ((wG tr).map λx => D.int (wOf hs x)) = ((wG tr).map (wOf hs)).map D.int := by rw [zQ]; rfl
   have e2:Uw ((wG tr).map (wOf hs))=Uw (ts.map λt=>t.2.2):=by
    refine(KZ (L.map (wOf hs))).trans ?_;rw[zQ]
    congr 1
    exact yI λt ht=>zn8 (J t ht) hn
   rw[e]
   refine Vr (by rw[zg,O];simp) ?_
   rw[e2];simp;exact⟨_,Y,(yR d none ts).1,(yR d none ts).2,⟨rfl,rfl⟩,q⟩
end
noncomputable def ksQ(d:Nat)(kd:QqO)(q:List Qe):List (Int × Int):=q.map λx=>yR d kd x.1
def esQ(q:List Qe):List D:=q.map λx=>yM x.2
def zk2{pl:List Pair}{q:List Qe}{i:Nat}{x:Qe}(h:q[i]?=some x):yL pl (q.take (i+1))=yL pl (q.take i)++(if yn (kF x.2) pl=true then [] else [x]):=by
 unfold yL;rw[xm,h,filter_append]
 congr 1
 show List.filter _ [x]=_
 cases ha:yn (kF x.2) pl<;>simp[ha]
inductive Reach(d:Nat)(kd:QqO)(pl:List Pair)(k:Nat)(q0:List Qe):Nat->List Qe->List Thing->Prop where
 |start:Reach d kd pl k q0 0 q0 []
 |leaf {n:Nat}{q:List Qe}{acc:List Thing}{t:Thing}{bd:List Pair}:Reach d kd pl k q0 n q acc->acc.length<k->([t],Tr.one t.1 bd)∈q->(∀y∈q,ltP (yR d kd y.1) (yR d kd [t])=false)->Reach d kd pl k q0 (n+1) (YS (λy:Qe=>yR d kd y.1) q (yR d kd [t])) (acc++[t])
 | opn {n : Nat} {q : List Qe} {acc ts ls us : List Thing} {ns : List Int} {bd : List Pair} {lo hi : Tr} : Reach d kd pl k q0 n q acc -> acc.length < k -> (ts, Tr.two ns bd lo hi) ∈ q -> (∀ y ∈ q, ltP (yR d kd y.1) (yR d kd ts) = false) -> (ls ++ us).Perm ts -> TreeOf d ls lo -> TreeOf d us hi ->
   Reach d kd pl k q0 (n+1) (YS (λy:Qe=>yR d kd y.1) q (yR d kd ts)++yL pl [(ls,lo),(us,hi)]) acc
def Reach.dok{d:Nat}{k n:Nat}(hd:1<=d)(L:pl.length=d)(h0:DOk d hs kd pl q0 [])(h:Reach d kd pl k q0 n q acc):DOk d hs kd pl q acc:=by
 induction h with
 |start=>exact h0
 |leaf _ _ hx O J=>exact J.leaf hd L hx O
 |opn _ _ hx O h1 h2 Y J=>exact(J.open hd L hx h1 h2 Y).1
def qU(o:Option Tr)(hs:List Thing)(pl:List Pair)(k:Nat):List Qe:=match o with
 |none=>[]
 |some tr=>if k=0 then [] else yL pl [(hs,tr)]
def Reach.zero{d:Nat}{n:Nat}(h:Reach d kd pl 0 q0 n q acc):n=0/\q=q0/\acc=[]:=by
 cases h with
 |start=>exact⟨rfl,rfl,rfl⟩
 |leaf _ h=>lia
 |opn _ h=>lia
def LtQ(d:Nat)(kd:QqO)(a b:Qe):Prop:=ltP (yR d kd a.1) (yR d kd b.1)=true
def Xx(rs:List Qe):D:=.tup (rs.map λx=>.tup ((wG x.2).map D.int))
def zh0(d:Nat)(kd:QqO)(hs:List Thing):Prop:=∀ls us:List Thing,(∀t∈ls,t∈hs)->(∀t∈us,t∈hs)->1<=ls.length->1<=us.length->va ls≠va us->WT (yR d kd ls)≠WT (yR d kd us)
def zq3{a b:Int}{x y:Int}(h:SRow.lt ⟨.n a,x,r⟩ ⟨.n b,y,r'⟩=true):ltP (a,x) (b,y)=true:=by
 unfold SRow.lt at h;rw[kW]
 by_cases e:a=b
 ·subst e;simp at h;exact .inr ⟨rfl,h⟩
 ·simp only[SKey.n.injEq,e,if_false,SKey.lt,ww] at h;exact .inl h
def yH(q:List Qe):Nat:=(q.map λx=>yW x.2).sum
def qy(h:p.Perm q):yH p=yH q:=by
 unfold yH
 induction h with
 |nil=>rfl
 |cons x _ J=>simp only[zD,sum_cons,J]
 |swap x y l=>simp only[zD,sum_cons];lia
 |trans _ _ h1 L=>exact h1.trans L
def ZO(p q:List Qe):yH (p++q)=yH p+yH q:=by unfold yH;rw[zE,List.sum_append]
def Vc(h:p.Sublist q):yH p<=yH q:=by
 induction h with
 |slnil=>exact zo _
 |cons x _ J=>simp[yH] at J ⊢;lia
 |cons_cons x _ J=>simp[yH] at J ⊢;lia
section
variable {P:Program}{w:World}{K:W.Frag}{mg:QqM}{base:Heap}{f:Addr}{fd:FuncData}
abbrev Qn:Stmt:=top 20
abbrev za7:List Str:=["by_name","trees","plain","kind"]
def zG7:FnScope za7 qZ7 (zW Qn):=⟨rfl,rfl,rfl,w5,rfl,w5,w5⟩
def zj3:("tree" :: za7:List Str).Nodup:=w5
def VO:TFT:=λds n R=>∃(d:Nat) (hs:List Thing) (kd:QqO) (pl:List Pair) (q:List Qe),ds=[byN hs,.lst (esQ q),zT pl,yZ kd]/\1<=d/\d<=1000/\pl.length=d/\QOk d hs q/\q.length<=2/\(hs.map λt=>t.1).Nodup/\hs.length<=60/\(∀p,kd=some p->p.length<=1000) /\
 R (ksQ d kd (yL pl q)) (esQ (yL pl q)) n
def QOk.len{d:Nat}(h:QOk d hs q)(hz:hs.length<=60)(hx:x∈q):x.1.length<=1000:=by
 have h1:(x.1.map λt=>t.1).Nodup:=by
  have hs':x.1.Sublist (yY q):=by
   clear h
   induction q with
   |nil=>simp at hx
   |cons y q L=>
    rw[vd]
    rcases zj.mp hx with rfl |hx
    ·exact List.sublist_append_left ..
    ·exact(L hx).trans (wP ..)
  exact(hs'.map _).nodup h.nd
 have O:x.1.Nodup:=by
  rw[xM,xE] at h1;rw[xM];exact h1.imp λJ e=>J (congrArg _ e)
 have:=O.length_le_of_subset (l₂:=hs) λt ht=>h.sub t (vK.mpr ⟨x,hx,ht⟩);lia
def zK5(T:Blt mg)(F:Fun K "keyed" "keyed" Qn f fd)(F_lie_apart:Fn P w K mg base "lie_apart" 4 2 qv)(F_key_by:Fn P w K mg base "key_by" 2 3 VP):FnOk P w K mg base CX0 6 f fd qZ7 (spT K 4 VO):=by
 refine Fun.okT (k:=5) F zG7 rfl (λak A0 outer s H E G Z hr=>(zt1 hr (own:=["tree"]) (M:=za7) (vD (by rfl)) rfl (vw rfl (zf 1)) (λC O H2 fp=>(zZ (i:=0) zj3 rfl (lo rfl) q9)) (λC O H2 fp=>(Xk (Ui (kn (wt F_lie_apart (hr.mono q9) rfl (zc (xU xk xT (zf 0) zq (λ_ _=>rfl)) (zc (zf 3) zi))))))) (λC O H2 fp=>(wt F_key_by (hr.mono q9) rfl (zc (zf 1) (zc (zf 0) (zc (zf 4) zi))))) (λC O H2 fp=>(zf 0)))) ?_
 rintro ds n R hl ⟨d,hs,kd,pl,q,rfl,ai,ah,ag,ok,af,hn,hz,hk,hR⟩;simp[startD,QR,zf5];have aa:(esQ q).length=q.length:=zg ..
 refine⟨wS q5,λi ks es n'=>n'=n/\ks=ksQ d kd (yL pl (q.take i))/\es=esQ (yL pl (q.take i)),⟨rfl,rfl,rfl⟩,?_,?_⟩
 ·rintro i dd ks es n' e ⟨rfl, rfl, rfl⟩;unfold esQ at e;rw[zw] at e
  cases hx:q[i]? with
  |none=>rw[hx] at e;cases e
  | some x =>
   rw[hx] at e;cases e;have hm:x∈q:=zM hx;have tt:=ok.tree x hm;obtain⟨ta,tb,et,na,nb⟩:=vL x.2;have nx:=yX x.2
   have aj:(kF x.2).length=d:=by rw[tt.bd,vV]
   have ad:∀R:D->Prop,R (zT (kF x.2))->Zt (yM x.2) (.int 1) R:=λR h=>by
    rw[et];exact⟨_,1,_,.inr (.inl rfl),rfl,rfl,h⟩
   have ae:(x.1++yY (q.take i)).Perm (yY (q.take i)++x.1):=List.perm_append_comm;have Y:QOk d hs (q.take (i+1)):=ok.sublist (yA ..)
   have L:yR d kd x.1 ∉ ksQ d kd (yL pl (q.take i)):=λz=>by
    obtain⟨y,hy,e⟩:=zk.mp z;have:=Y.keys kd;rw[xm,hx,zE,wM] at this
    exact this.2.2 _ (zk.mpr ⟨y,(zy.mp hy).1,rfl⟩) _ (zk.mpr ⟨x,by simp,rfl⟩) e
   have J:=zk2 (pl:=pl) hx
   refine JL nx (ad _ ⟨kF x.2,pl,rfl,q5,q5,q5,?_⟩)
   simp
   cases ha:yn (kF x.2) pl with
   |true=>
    rw[ha,if_pos rfl,yh] at J;rw[J];simp
   |false=>
    rw[ha,if_neg (by simp)] at J
    simp;refine JL nx ⟨d,hs,x.1,x.2,kd,rfl,hn,tt,λt ht=>ok.sub t (vK.mpr ⟨x,hm,ht⟩),ok.len hz hm,hk,?_⟩;refine JL nx ⟨(yR d kd x.1).1,(yR d kd x.1).2,rfl,L,?_⟩;refine⟨rfl,?_,?_⟩
    ·rw[J];unfold ksQ;rw[zE];rfl
    ·rw[J];unfold esQ;rw[zE];rfl
 ·rintro ks es n' ⟨rfl,rfl,rfl⟩;rw[aa,xY];exact hR
abbrev jf:Stmt:=top 21
abbrev jF:List Str:=["gone","house","tree","box","kind","k","by_name","plain","names","looks","waiting","part_names","limits","low","high"]
def yp:FnScope jF xB9 (zW jf):=⟨rfl,rfl,rfl,w5,rfl,w5,w5⟩
def XV:("key" :: jF:List Str).Nodup:=w5
def Qg:TF:=λds n R=>∃(d:Nat) (hs:List Thing) (o:Option Tr) (b:List Ka) (kd:QqO) (k:Nat),ds=[.dct [] [],wo d hs,(o.map yM).getD .non,vq b,yZ kd,.int k]/\1<=d/\d<=1000/\b.length=d/\(hs.map λt=>t.1).Nodup/\hs.length<=60/\(∀p,kd=some p->p.length<=1000) /\
 (o=none->hs=[])/\(∀tr,o=some tr->TreeOf d hs tr)/\zh0 d kd hs/\∀(n':Nat) (q rs:List Qe) (acc:List Thing),Reach d kd (vf b) k (qU o hs (vf b) k) n' q acc->(q=[]\/acc.length=k)->acc.length<=k->rs.Perm q->rs.Pairwise (LtQ d kd)->R (.tup [.tup (acc.map λt=>.int t.1),.int n',Xx rs]) n
structure JDr(d:Nat)(hs:List Thing)(kd:QqO)(pl:List Pair)(k n:Nat)(q0:List Qe)(g0 g1 g2 g3 g4 g6 g7:Option D)(m:Nat)(rho:Rho)(n':Nat):Prop where
 e:n'=n
 r:∃(q:List Qe) (acc:List Thing) (looks:Nat) (z1 z2 z3 z4:Option D),m=yH q/\Reach d kd pl k q0 looks q acc/\acc.length<=k /\
  rho=[g0,g1,g2,g3,g4,some (.int k),g6,g7,some (.own (acc.map λt=>.int t.1)),some (.int looks),some (.owT (ksQ d kd q) (esQ q)),z1,z2,z3,z4]
def zK9(T:Blt mg)(F:Fun K "drawn_past" "drawn_past" jf f fd)(F_things_by_name:Fn P w K mg base "things_by_name" 1 1 zT9)(F_plain_box:Fn P w K mg base "plain_box" 3 1 qu)(F_keyed:FnT P w K mg base "keyed" 6 4 VO):FnOk P w K mg base CX0 7 f fd xB9 (spD K 6 Qg):=by
 refine Fun.okD F yp (λaQ A0 outer s H E G Z Y=>(zx (yf (i:=6) yp.nd rfl (lo rfl) (wt F_things_by_name (Y.mono q9) rfl (zc (zf 1) zi)))
  (zx (yf (i:=7) yp.nd rfl (lo rfl) (wt F_plain_box (Y.mono q9) rfl (zc (zf 3) zi)))
  (zx (Yx (i:=8) yp.nd rfl (lo rfl) zi)
  (zx (yf (i:=9) yp.nd rfl (lo rfl) zq)
  (zx (zI2 (i:=10) F_keyed (Y.mono q9) rfl yp.nd rfl (lo rfl) (zc (zf 6) (zc (Um (PWD.pt (zr2 (xR kB kw (zf 2) yV (wg _)) (Qr (xR WJ WH (zf 5) zq (wg _))))) (vg zi) (vg (zc (zf 2) zi))) (zc (zf 7) (zc (zf 4) zi)))))
  (zx (XJ PassesOwn.never (PWD.pt (qI (xR YZ YX (zX7 (i:=10) T.len) zq (wg _)) (qH (xR zK0 zH3 (ZV (i:=8) T.len rfl) (zf 5) (wg _)))))
  (zx (zI3 (i:=10) (m:=15) Y rfl (xZ (zD0 rfl (xb7 Y)) xd2 T.min JF (zc (zd5 (i:=10) Y T.list) zi)) (vy (k:=4) rfl rfl (xn (zZ (i:=11) yp.nd rfl (lo rfl) q9) (xn (zZ (i:=12) yp.nd rfl (lo rfl) q9) (xn (zZ (i:=13) yp.nd rfl (lo rfl) q9) (xn (zZ (i:=14) yp.nd rfl (lo rfl) q9) vb))))))
  (zx (zI5 xo2 (i:=9) yp.nd rfl (lo rfl) zq)
  (zF (yU (xR YZ YX (xZ wE kC T.len vZ (zc (zf 11) zi)) zq (wg _)) (zF (zI1 (i:=10) F_keyed (Y.mono q9) rfl (zc (zf 6) (zc (vg (zc (zf 13) (zc (zf 14) zi))) (zc (zf 7) (zc (zf 4) zi)))))) (zF (yU (xR (zt4 (xb7 Y)) xg8 (xU xk xT (zf 11) zq (λ_ _=>rfl)) (zf 0) (by with_unfolding_all rfl)) (zF (vc (i:=8) (zc (xU xk xT (zf 11) zq (λ_ _=>rfl)) zi) rfl)) wI)))))))
  (zF (jp 8 (xp (wf (zc (yq wH vn T.tuple vo (zc (zf 8) zi)) (zc (zf 9) (zc (yq wH vn T.tuple vo (zc (vB (own:=["key"]) (M:=jF) (vD (by rfl)) rfl (vw rfl (xZ (zl7 Y) (zO6 rfl) T.sorted WA (zc (zd5 (i:=10) Y T.list) zi))) (λ_ _ _ _=>(zZ (i:=0) XV rfl (lo rfl) q9)) (λ_ _ _ _=>yT) (λ_ _ _ _=>(xU xk xT (xk4 (i:=11) Y rfl (zf 0) (λ_ _=>rfl)) zq (λ_ _=>rfl)))) zi)) zi)))))))))))))) ?_
 generalize hB:XF (zU8 10 _ _) _=B;generalize hS:xg3 8 _=Sr;generalize hW:XF (zq1 _ _) _=Wl;rintro ds n R hl ⟨d,hs,o,b,kd,k,rfl,ad,ar,hb,hn,hz,hk,aC,aB,hH,hR⟩;have nh:=vz d hs;have nb:xG (vq b)=true:=rfl
 have no:xG ((o.map yM).getD .non)=true:=by cases o with |none=>rfl |some t=>exact yX t
 have aa:(vf b).length=d:=by rw[jM];exact hb
 generalize aA:vf b=pl at *
 have fin:∀(F:EndsD) (q:List Qe) (acc:List Thing) (J:Nat) (z1 z2 z3 z4:Option D),F.rt=R->QOk d hs q->acc.length<=60->(∀rs:List Qe,rs.Perm q->rs.Pairwise (LtQ d kd)->R (.tup [.tup (acc.map λt=>.int t.1),.int J,Xx rs]) n) ->
   Sr F [some (.dct [] []),some (wo d hs),some ((o.map yM).getD .non),some (vq b),some (yZ kd),some (.int k),some (byN hs),some (zT pl),some (.own (acc.map λt=>.int t.1)),some (.int J),some (.owT (ksQ d kd q) (esQ q)),z1,z2,z3,z4] n:=λF q acc J z1 z2 z3 z4 hF ok aP ht=>by
  subst hS
  have aN:q.length<=60:=by
   have h1:=ok.heads
   have h2:(q.map λx=>va x.1).length<=(hs.map λt=>t.1).length:=h1.length_le_of_subset λa ha=>by
    obtain⟨x,hx,rfl⟩:=zk.mp ha;obtain⟨t,ht,e⟩:=vt (ok.tree x hx).ne;exact zk.mpr ⟨t,ok.sub t (vK.mpr ⟨x,hx,ht⟩),e⟩
   rw[zg,zg] at h2;lia
  simp[hF]
  refine⟨q.map λx=>⟨.n (WS d kd x.1),va x.1,[]⟩,true,?_,by rw[zg];lia,?_,?_,λrows hp hs'=>⟨_,.inl rfl,?_⟩⟩
  ·unfold ksQ;rw[zQ,zQ];rfl
  ·intro x hx;obtain⟨_,_,rfl⟩:=zk.mp hx;rfl
  ·rw[zQ];exact ok.heads
  ·obtain ⟨rs, ak, rfl⟩ := zI9 hp;rw[zQ]
   refine yN (SRow.d∘λx:Qe=>(⟨.n (WS d kd x.1),va x.1,[]⟩:SRow)) (λx=>.tup ((wG x.2).map D.int)) rs (wS (by rw[ak.length_eq];lia)) (λx hx R' hR'=>?_) ?_
   ·have e:(SRow.d∘λx:Qe=>(⟨.n (WS d kd x.1),va x.1,[]⟩:SRow)) x=.tup [.int (yR d kd x.1).1,.int (yR d kd x.1).2]:=rfl;have al:=QZ (f:=λx:Qe=>yR d kd x.1) (g:=λx=>yM x.2) (ak.mem_iff.mp hx) (ok.keys kd);obtain⟨ta,tb,et,na,aL⟩:=vL x.2;rw[e];simp;refine⟨_,_,⟨rfl,rfl⟩,_,_,⟨rfl,rfl⟩,_,al,?_⟩;show Zt (yM x.2) _ _;rw[et];exact⟨_,0,_,.inr (.inl rfl),rfl,rfl,hR'⟩
   ·simp;refine ht rs ak ?_;rw[xE] at hs';exact hs'.imp λ{a b} h=>zq3 h
 have loop:∀(F:EndsD) (q0:List Qe),F.rt=R->q0=qU o hs pl k->(1<=k->DOk d hs kd pl q0 [])->(k=0->q0=[]) ->
   Wl F [some (.dct [] []),some (wo d hs),some ((o.map yM).getD .non),some (vq b),some (yZ kd),some (.int k),some (byN hs),some (zT pl),some (.own []),some (.int 0),some (.owT (ksQ d kd q0) (esQ q0)),none,none,none,none] n:=λF q0 hF az h1 h0=>by
  subst hW;simp;refine⟨JDr d hs kd pl k n q0 _ _ _ _ _ _ _,⟨yH q0,rfl,q0,[],0,none,none,none,none,rfl,.start,xq _,rfl⟩,?_⟩;rintro m rho n' ⟨rfl,q,acc,J,z1,z2,z3,z4,rfl,ae,aq,rfl⟩;have hD:1<=k->DOk d hs kd pl q acc:=λh=>ae.dok ad aa (h1 h)
  have L:QOk d hs q:=by
   by_cases e:k=0
   ·subst e;obtain⟨_,e2,_⟩:=ae.zero
    rw[e2,h0 rfl];exact⟨by simp,by simp[yY],by simp[yY]⟩
   ·exact(hD q5).ok
  have ai:acc.length<=60:=by
   by_cases e:k=0
   ·lia
   ·have h2 := (hD q5).perm.length_eq
    have h3:(UH pl hs).length<=hs.length:=wB ..;rw[zu] at h2;lia
  have kl:(ksQ d kd q).length=q.length:=zg ..;have ag:acc.length=k\/q=[]->∀rs:List Qe,rs.Perm q->rs.Pairwise (LtQ d kd)->R (.tup [.tup (acc.map λt=>.int t.1),.int J,Xx rs]) n':=λh rs p1 p2=>hR J q rs acc (az ▸ ae) h.symm aq p1 p2;simp;rw[kl]
  split
  ·rename_i ao
   split
   ·rename_i aF
    have D0:=hD q5
    have hlt':acc.length<k:=aF;subst hB;simp
    refine⟨ksQ d kd q,_,⟨rfl,rfl⟩,ksQ d kd q,rfl,by rw[kl];exact ao,λmk aE ap=>?_⟩
    obtain⟨⟨ts,tr⟩,hx,rfl⟩:=zk.mp aE;have tt:TreeOf d ts tr:=L.tree _ hx;have al:atP (ksQ d kd q) (esQ q) (yR d kd ts)=some (yM tr):=QZ (f:=λx:Qe=>yR d kd x.1) (g:=λx=>yM x.2) hx (L.keys kd);have aI:Xf (ksQ d kd q) (yR d kd ts)=ksQ d kd (YS (λy:Qe=>yR d kd y.1) q (yR d kd ts)):=zA7 ..;have aJ:dropE (ksQ d kd q) (esQ q) (yR d kd ts)=esQ (YS (λy:Qe=>yR d kd y.1) q (yR d kd ts)):=Jr ..;have hmin':∀y∈q,ltP (yR d kd y.1) (yR d kd ts)=false:=λy hy=>ap _ (zk.mpr ⟨y,hy,rfl⟩);have hsz:yH ((ts,tr)::YS (λy:Qe=>yR d kd y.1) q (yR d kd ts))=yH q:=qy (qK (f:=λy:Qe=>yR d kd y.1) hx (L.keys kd))
    have hsz:yW tr+yH (YS (λy:Qe=>yR d kd y.1) q (yR d kd ts))=yH q:=by rw[<- hsz];simp[yH]
    have leaf:∀t bd,ts=[t]->tr=.one t.1 bd->Reach d kd pl k q0 (J+1) (YS (λy:Qe=>yR d kd y.1) q (yR d kd ts)) (acc++[t]):=λt bd e e2=>by subst e e2;exact ae.leaf hlt' hx hmin'
    have au:∀ns bd lo hi ls us,tr=.two ns bd lo hi->(ls++us).Perm ts->TreeOf d ls lo->TreeOf d us hi->Reach d kd pl k q0 (J+1) (YS (λy:Qe=>yR d kd y.1) q (yR d kd ts)++yL pl [(ls,lo),(us,hi)]) acc:=λns bd lo hi ls us e a1 a2 a3=>by subst e;exact ae.opn hlt' hx hmin' a1 a2 a3
    have opn:=fun(ls us:List Thing) (lo hi:Tr) h1 h2 h3=>D0.open (ls:=ls) (us:=us) (lo:=lo) (hi:=hi) ad aa hx h1 h2 h3;refine⟨(yR d kd ts).1,(yR d kd ts).2,rfl,yM tr,al,?_⟩;rw[show((yR d kd ts).1,(yR d kd ts).2)=yR d kd ts from rfl,aI,aJ];generalize YS (λy:Qe=>yR d kd y.1) q (yR d kd ts)=q' at *
    cases tt with
    |@one t ht=>
     have D1:=leaf t _ rfl rfl
     have h6:acc.length<sizeLine:=lt_size q5
     simp[yM];rw[if_pos (show atK [] [] (Sum.inl t.1)=(none:Option D) from rfl)];have s1:yW (.one t.1 (ja d [t.2.1]))=1:=rfl
     exact⟨h6,yH q',q5,rfl,q',acc++[t],J+1,_,_,_,_,rfl,D1,by rw[zu];simp;lia,by rw[zE];rfl⟩
    | @two ts ls us ns lo hi p hp aM t1 t2 =>
     obtain⟨D1,av⟩:=opn ls us lo hi p t1 t2;have R1:=au _ _ lo hi ls us rfl p t1 t2;have nl:=yX lo;have ax:=yX hi
     have aO:ns.length=ts.length:=by rw[hp.length_eq,zg]
     have h2:1<ns.length:=by
      have:=t1.ne;have:=t2.ne;have:=p.length_eq;rw[zu] at this;lia
     simp[yM,nl,ax]
     rw[if_pos q5]
     have af:QOk d hs (q'++yL pl [(ls,lo),(us,hi)]):=D1.ok;have okT:QOk d hs [(ls,lo),(us,hi)]:=av.sublist (wP ..);have s1:yW (.two ns (ja d (ts.map λt=>t.2.1)) lo hi)=1+yW lo+yW hi:=rfl;have s2:yH (yL pl [(ls,lo),(us,hi)])<=yH [(ls,lo),(us,hi)]:=Vc yJ
     have s3:yH [(ls,lo),(us,hi)]=yW lo+yW hi:=by simp[yH]
     have aH:=af.keys kd
     have aG:(q'++yL pl [(ls,lo),(us,hi)]).length<=60:=by
      have h3:=af.heads
      have h4:((q'++yL pl [(ls,lo),(us,hi)]).map λx=>va x.1).length<=(hs.map λt=>t.1).length:=h3.length_le_of_subset λa ha=>by
       obtain⟨x,hx,rfl⟩:=zk.mp ha;obtain⟨t,ht,e⟩:=vt (af.tree x hx).ne;exact zk.mpr ⟨t,af.sub t (vK.mpr ⟨x,hx,ht⟩),e⟩
      rw[zg,zg] at h4;lia
     have am:((ksQ d kd (yL pl [(ls,lo),(us,hi)])).map WT).Nodup:=by
      have z:((ksQ d kd [(ls,lo),(us,hi)]).map WT).Nodup:=by
       have ah:∀t∈ls++us,t∈hs:=λt ht=>okT.sub t (by simpa [yY] using ht)
       have aD:va ls≠va us:=by
        have:=okT.heads
        simpa using this
       have:=hH ls us (λt ht=>ah t (xv _ ht)) (λt ht=>ah t (zL _ ht)) t1.ne t2.ne aD
       simpa [ksQ] using this
      exact((List.filter_sublist.map _).map _).nodup z
     have ay:ksQ d kd q'++ksQ d kd (yL pl [(ls,lo),(us,hi)])=ksQ d kd (q'++yL pl [(ls,lo),(us,hi)]):=by unfold ksQ;rw[zE]
     have aK:esQ q'++esQ (yL pl [(ls,lo),(us,hi)])=esQ (q'++yL pl [(ls,lo),(us,hi)]):=by unfold esQ;rw[zE]
     refine⟨_,_,⟨rfl,rfl⟩,d,hs,kd,pl,[(ls,lo),(us,hi)],rfl,ad,ar,aa,okT,by simp,hn,hz,hk,?_⟩
     dsimp only;rw[ay,aK]
     refine⟨aH,wS ?_,λ_=>am,yH (q'++yL pl [(ls,lo),(us,hi)]),by rw[ZO];lia,rfl,_,acc,J+1,_,_,_,_,rfl,R1,aq,rfl⟩
     have l1:(ksQ d kd q').length=q'.length:=zg ..;have l2:(ksQ d kd (yL pl [(ls,lo),(us,hi)])).length=(yL pl [(ls,lo),(us,hi)]).length:=zg ..;rw[l1,l2,<- zu];lia
   ·exact fin _ _ _ _ _ _ _ _ hF L ai (ag (.inl q5))
  ·exact fin _ _ _ _ _ _ _ _ hF L ai (ag (.inr (xb.mp q5)))
 simp[startD,nh,nb,no]
 refine⟨_,hs,rfl,hn,q5,⟨b,rfl,q5,?_⟩⟩
 rw[aA];have aj:∀(q:List Qe) (R':List (Int × Int)->List D->Nat->Prop),QOk d hs q->q.length<=2->R' (ksQ d kd (yL pl q)) (esQ (yL pl q)) n->VO [byN hs,.lst (esQ q),zT pl,yZ kd] n R':=λq R' h1 h2 h3=>⟨d,hs,kd,pl,q,rfl,ad,ar,aa,h1,h2,hn,hz,hk,h3⟩
 have O:QOk d hs []:=⟨by simp,by simp[yY],by simp[yY]⟩
 cases o with
 |none=>
  simp
  exact aj [] _ O (by simp) (loop _ [] rfl rfl (λ_=>.none (aC rfl)) λ_=>rfl)
 | some tr =>
  have ni:kE (yM tr)=false:=by cases tr<;>rfl
  have nt:=yX tr;have tt:=aB tr rfl;simp[ni,nt]
  split
  ·rename_i h0
   exact aj [] _ O (by simp) (loop _ [] rfl (by simp[qU,h0]) (λh=>by lia) λ_=>rfl)
  ·rename_i h0
   have aw:QOk d hs [(hs,tr)]:=⟨λx hx=>by rw[zB.mp hx];exact tt,λt ht=>by simpa [yY] using ht,by simpa [yY] using hn⟩
   exact aj [(hs,tr)] _ aw (by simp) (loop _ _ rfl (by simp[qU,h0]) (λ_=>.start ad aa tt hn) λh=>absurd h h0)
abbrev Qo:Stmt:=top 22
abbrev xe1:List Str:=["house","tree","box","kind","k"]
def zG8:FnScope xe1 qZ3 (zW Qo):=⟨rfl,rfl,rfl,w5,rfl,w5,w5⟩
def Qd:TF:=λds n R=>∃(d:Nat) (hs:List Thing) (o:Option Tr) (b:List Ka) (kd:QqO) (k:Nat),ds=[wo d hs,(o.map yM).getD .non,vq b,yZ kd,.int k]/\1<=d/\d<=1000/\b.length=d/\(hs.map λt=>t.1).Nodup/\hs.length<=60/\(∀p,kd=some p->p.length<=1000) /\
 (o=none->hs=[])/\(∀tr,o=some tr->TreeOf d hs tr)/\zh0 d kd hs/\∀(n':Nat) (q rs:List Qe) (acc:List Thing),Reach d kd (vf b) k (qU o hs (vf b) k) n' q acc->(q=[]\/acc.length=k)->acc.length<=k->rs.Perm q->rs.Pairwise (LtQ d kd)->R (.tup [.tup (acc.map λt=>.int t.1),.int n',Xx rs]) n
def zK8(F:Fun K "drawn" "drawn" Qo f fd)(F_drawn_past:Fn P w K mg base "drawn_past" 7 6 Qg):FnOk P w K mg base CX0 8 f fd qZ3 (spD K 5 Qd):=by
 refine Fun.okD F zG8 (λaa A0 outer s H E G Z Y=>(zF (xp (wt F_drawn_past (Y.mono q9) rfl (zc zX8 (zc (zf 0) (zc (zf 1) (zc (zf 2) (zc (zf 3) (zc (zf 4) zi)))))))))) ?_
 rintro ds n R hl ⟨d,hs,o,b,kd,k,rfl,h⟩;have L:=vz d hs;have O:xG (vq b)=true:=rfl
 have J:xG ((o.map yM).getD .non)=true:=by cases o with |none=>rfl |some t=>exact yX t
 simp[startD,L,O,J];exact⟨d,hs,o,b,kd,k,rfl,h⟩
end
def QI(h:a.Perm b)(h1:1<=a.length):va a=va b:=by
 obtain⟨t,ht,e⟩:=vt h1
 obtain⟨u,hu,J⟩:=vt (ts:=b) (by rw[<- h.length_eq];exact h1)
 have i1:=We (h.mem_iff.mpr hu);have i2:=We (h.mem_iff.mp ht);lia
def zx6{d:Nat}(h:a.Perm b)(h1:1<=a.length):yR d kd a=yR d kd b:=by
 have i1:WS d kd b<=WS d kd a:=QJ (λt ht=>h.mem_iff.mp ht) h1
 have i2:WS d kd a<=WS d kd b:=QJ (λt ht=>h.mem_iff.mpr ht) (by rw[<- h.length_eq];exact h1)
 unfold yR
 rw[QI h h1,show WS d kd a=WS d kd b by lia]
def ofN(hs:List Thing)(tr:Tr):List Thing:=hs.filter λt=>decide (t.1∈wG tr)
noncomputable def kT(d:Nat)(kd:QqO)(hs:List Thing)(tr:Tr):Int × Int:=yR d kd (ofN hs tr)
def YT{hs:List Thing}(L:(hs.map λt=>t.1).Nodup):hs.Nodup:=by
 rw[xM,xE] at L;rw[xM];exact L.imp λJ e=>J (congrArg _ e)
def zb5{hs:List Thing}(hn:(hs.map λt=>t.1).Nodup){t u:Thing}(ht:t∈hs)(hu:u∈hs)(e:t.1=u.1):t=u:=by
 have h:=Yc ht hn;have h2:=Yc hu hn;rw[e,h2] at h;have J:xB u=xB t:=zP h;obtain⟨a,p,w⟩:=t;obtain⟨b,q,v⟩:=u;unfold xB yF at J;injection J with J;injection J with Y J;injection J with O J;injection J with L _;injection Y with Y;injection O with O;injection L with L
 have x4:q=p:=by
  have inj:∀a b:List Int,a.map D.int=b.map D.int->a=b:=λa=>by
   induction a with
   |nil=>intro b h;cases b with |nil=>rfl |cons=>simp at h
   | cons x a ih =>
    intro b h
    cases b with
    |nil=>simp at h
    |cons y b=>
     simp only[zD,List.cons.injEq,D.int.injEq] at h;rw[h.1,ih b h.2]
  exact inj q p O
 have x1':b=a:=Y;have x3':v=w:=L;rw[x1',x3',x4]
def TreeOf.ofN{d:Nat}(h:TreeOf d ts tr)(Y:(hs.map λt=>t.1).Nodup)(J:∀t∈ts,t∈hs)(L:(ts.map λt=>t.1).Nodup):(ofN hs tr).Perm ts:=by
 refine(List.perm_ext_iff_of_nodup (List.filter_sublist.nodup (YT Y)) (YT L)).mpr λt=>?_;obtain⟨O,_⟩:=h.names
 constructor
 ·intro ht;obtain⟨h1,h2⟩:=zy.mp ht;obtain⟨u,hu,e⟩:=zk.mp (O.mem_iff.mp (of_decide_eq_true h2));rw[<- zb5 Y (J u hu) h1 e];exact hu
 ·intro ht;exact zy.mpr ⟨J t ht,xh (O.mem_iff.mpr (zk.mpr ⟨t,ht,rfl⟩))⟩
def TreeOf.keyOf{d:Nat}(h:TreeOf d ts tr)(O:(hs.map λt=>t.1).Nodup)(J:∀t∈ts,t∈hs)(L:(ts.map λt=>t.1).Nodup):kT d kd hs tr=yR d kd ts:=by
 have p:=h.ofN O J L
 exact zx6 p (by rw[p.length_eq];exact h.ne)
def QOk.keyOf{d:Nat}(h:QOk d hs q)(O:(hs.map λt=>t.1).Nodup)(hx:x∈q):kT d kd hs x.2=yR d kd x.1:=by
 have J:x.1.Sublist (yY q):=by
  clear h
  induction q with
  |nil=>simp at hx
  |cons y q L=>
   rw[vd]
   rcases zj.mp hx with rfl |hx
   ·exact List.sublist_append_left ..
   ·exact(L hx).trans (wP ..)
 exact(h.tree x hx).keyOf O (λt ht=>h.sub t (J.mem ht)) ((J.map _).nodup h.nd)
def QOk.sub1{d:Nat}(h:QOk d hs q)(hx:x∈q):(∀t∈x.1,t∈hs)/\(x.1.map λt=>t.1).Nodup:=by
 have J:x.1.Sublist (yY q):=by
  clear h
  induction q with
  |nil=>simp at hx
  |cons y q L=>
   rw[vd]
   rcases zj.mp hx with rfl |hx
   ·exact List.sublist_append_left ..
   ·exact(L hx).trans (wP ..)
 exact⟨λt ht=>h.sub t (J.mem ht),(J.map _).nodup h.nd⟩
section
variable {d:Nat}{kd:QqO}{hs:List Thing}{pl:List Pair}{k n:Nat}{all:List Tr}{front:(Int × Int)->List Tr}{q:List Qe}{acc:List Thing}{P:List Tr}
end
def belowP(p:Pair)(hi:Int):Bool:=match p.1 with |none=>false |some l=>decide (hi<l)
def JP(p:Pair)(lo:Int):Bool:=match p.2 with |none=>false |some g=>decide (g<lo)
def zE8(lo hi:Int)(q:Pair)(s:Nat):Bool:=if q=kj then true else if s=0 then belowP q hi else JP q lo
def Uo(bd pl:List Pair)(i s:Nat):Bool:=match bd[i]?,pl[i]? with
 |some (some a,some b),some q=>zE8 a b q s
 |_,_=>false
def Qw(bd pl:List Pair)(k:Nat):Bool:=Uo bd pl (k/2) (k%2)
def VC(bd:List Pair):Prop:=∀(i:Nat) (b:Pair),bd[i]?=some b->∃lo hi:Int,b=(some lo,some hi)/\lo<=hi
def Xo{i s:Nat}{lo hi:Int}(h1:bd[i]?=some (some lo,some hi))(J:pl[i]?=some q):Uo bd pl i s=zE8 lo hi q s:=by unfold Uo;rw[h1,J]
def Qa(bd pl:List Pair):List (Nat × Nat):=(List.range pl.length).flatMap λi=>([0,1].filter λs=>Uo bd pl i s).map λs=>(i,s)
theorem zn7(f:Nat->Nat->Bool):∀n:Nat,((List.range n).flatMap λi=>([0,1].filter λs=>f i s).map λs=>(i,s))=((List.range (2*n)).filter λk=>f (k/2) (k%2)).map λk=>(k/2,k%2)
 |0=>rfl
 |n+1=>by
  have e:2*(n+1)=2*n+1+1:=q5
  have Y:(2*n)/2=n:=q5
  have O:(2*n)%2=0:=q5
  have L:(2*n+1)/2=n:=q5
  have J:(2*n+1)%2=1:=q5
  rw[e,range_succ,range_succ,range_succ,List.flatMap_append,zn7 f n]
  cases h0:f n 0<;>cases h1:f n 1<;>simp[Y,O,L,J,h0,h1]
def qf(bd pl:List Pair):Option Nat:=(List.range (2*pl.length)).find? (Qw bd pl)
def zh2{k:Nat}(h:qf bd pl=some k):∃r,Qa bd pl=(k/2,k%2)::r:=by
 unfold Qa;rw[zn7];unfold qf at h;rw[<- List.head?_filter] at h
 cases J:(List.range (2*pl.length)).filter (Qw bd pl) with
 |nil=>rw[J] at h;cases h
 |cons a r=>
  rw[J] at h;cases h;have hf':((List.range (2*pl.length)).filter λk=>Uo bd pl (k/2) (k%2))=k::r:=J;rw[hf'];exact⟨_,rfl⟩
def zF5(bd pl:List Pair):(Qa bd pl).length<=2*pl.length:=by
 unfold Qa;rw[zn7,zg]
 exact zK (wB ..) (by rw[yg];exact zo _)
def zk5{k:Nat}(h:qf bd pl=some k):((List.range (2*pl.length)).map (Qw bd pl))[k]?=some true/\(∀m,m<k->((List.range (2*pl.length)).map (Qw bd pl))[m]?=some false):=by
 obtain⟨h1,O,L⟩:=List.find?_range_eq_some.mp h;have hk:k<2*pl.length:=xV.mp O
 refine⟨by rw[zw,wO hk];simp[h1],λm J=>?_⟩
 rw[zw,wO q5]
 have:=L m J;simp at this;simp[this]
def ZP(hs:yc pl=pl){i:Nat}(h:pl[i]?=some q)(J:crossedT q=true):q=kj:=by
 have ha:pl.any crossedT=true:=WF.mpr ⟨i,q,h,J⟩;rw[ka ha] at hs;rw[<- hs,xt] at h
 split at h
 ·exact(zP h).symm
 ·cases h
def Wx{lo hi:Int}(L:lo<=hi)(J:crossedT q=true->q=kj):crossedT (commonP (some lo,some hi) q)=true↔∃s:Nat,s<2/\zE8 lo hi q s=true:=by
 by_cases he:q=kj
 ·subst he
  refine⟨λ_=>⟨0,q9,by simp[zE8]⟩,λ_=>WX _⟩
 ·have hq' : crossedT q = false := by
   cases h:crossedT q with
   |false=>rfl
   |true=>exact absurd (J h) he
  have e:∀s:Nat,zE8 lo hi q s=if s=0 then belowP q hi else JP q lo:=λs=>by unfold zE8;rw[if_neg he]
  have O:(∃s:Nat,s<2/\zE8 lo hi q s=true)↔(belowP q hi=true\/JP q lo=true):=by
   constructor
   ·rintro ⟨s, hs, h⟩;rw[e] at h
    split at h
    ·exact .inl h
    ·exact .inr h
   ·rintro (h | h)
    ·exact⟨0,q9,by rw[e];exact h⟩
    ·exact⟨1,q9,by rw[e];exact h⟩
  rw[O];obtain⟨a,b⟩:=q
  rcases a with _ |a<;>rcases b with _ |b<;>simp[commonP,maxO,minO,crossedT,belowP,JP] at hq' ⊢<;>(try split)<;>(try split)<;>lia
def JM(hl:bd.length=pl.length)(h1:1<=bd.length)(hE:VC bd)(hs:yc pl=pl):yn bd pl=true↔∃k,k<2*pl.length/\Qw bd pl k=true:=by
 rw[WD hl h1,WF]
 constructor
 ·rintro ⟨i, c, hc, hx⟩;obtain⟨b,q,O,J,rfl⟩:=zn1 hc;obtain⟨lo,hi,rfl,L⟩:=hE i b O;obtain⟨s,aa,ho⟩:=(Wx L (ZP hs J)).mp hx;have hi':=(zm.mp J).1
  refine⟨2*i+s,q5,?_⟩
  have e1:(2*i+s)/2=i:=q5
  have e2:(2*i+s)%2=s:=q5
  unfold Qw;rw[e1,e2,Xo O J];exact ho
 ·rintro ⟨k, hk, ho⟩
  have Y:k/2<pl.length:=q5
  have O:bd[k/2]?=some bd[k/2]:=ze q5
  have J:pl[k/2]?=some pl[k/2]:=ze Y;obtain⟨lo,hi,eb,L⟩:=hE _ _ O;rw[eb] at O;unfold Qw at ho;rw[Xo O J] at ho
  exact⟨k/2,_,VD O J,(Wx L (ZP hs J)).mpr ⟨k%2,q5,ho⟩⟩
def WE(J:bd.length=pl.length)(h1:1<=bd.length)(L:VC bd)(hs:yc pl=pl)(ha:yn bd pl=true):∃k,qf bd pl=some k:=by
 obtain⟨k,hk,ho⟩:=(JM J h1 L hs).mp ha
 cases h:qf bd pl with
 |some k=>exact⟨k,rfl⟩
 |none=>
  unfold qf at h;rw[List.find?_eq_none] at h;exact absurd ho (h k (xV.mpr hk))
def zE1(J:bd.length=pl.length)(h1:1<=bd.length)(O:VC bd)(hs:yc pl=pl):((List.range (2*pl.length)).map (Qw bd pl)).any id=yn bd pl:=by
 rw[xW,JM J h1 O hs,yj]
 constructor
 ·rintro⟨b,L,e⟩;obtain⟨k,hk,rfl⟩:=zk.mp L;exact⟨k,xV.mp hk,e⟩
 ·rintro⟨k,hk,e⟩;exact⟨_,zk.mpr ⟨k,xV.mpr hk,rfl⟩,e⟩
abbrev xT1:=List Int × Option Nat
def qR(x:xT1):D:=match x.2 with
 |none=>.tup [.tup (x.1.map D.int),.str "in"]
 |some k=>.tup [.tup (x.1.map D.int),.str "out",.int ((k/2:Nat):Int),.int ((k%2:Nat):Int)]
def Xw{d:Nat}{ts:List Thing}(h:1<=ts.length):VC (ja d (ts.map λt=>t.2.1)):=λi b J=>by
 have hi:i<d:=by have:=(zm.mp J).1;rw[vV] at this;exact this
 rw[zT4 ts hi] at J;exact⟨_,_,(zP J).symm,xa2 h⟩
def TreeOf.deep{d:Nat}(h:TreeOf d ts tr):qb tr<ts.length:=by
 induction h with
 |one=>exact Nat.zero_lt_one
 |@two ts ls hs ns L J p _ _ h1 O i1 i2=>
  have:=p.length_eq;rw[zu] at this;show 1+max (qb L) (qb J)<ts.length;lia
@[simp] theorem xu1(p:Pair):xG (xD p)=true:=id rfl
def jN{i:Nat}(h:ps[i]?=some q)(J:R (xD q)):Zt (zT ps) (.int i) R:=by
 unfold zT;rw[zr0]
 exact⟨_,qo (by rw[zw,h];rfl),J⟩
def xq1{own:Nat}{g1:TGD}{O:TBD}{it2:TID}{g2:TGD}{L:TBD}{te:TD}{rho:Rho}{P:D->Nat->Prop}{n:Nat}{α:Type}(enc:α->D)(h:α->List D)(xs:List α){B:Nat}(hB:B<=1000)(hz:(xs.flatMap h).length<=B)
  (he:∀x∈xs,∀(acc:List D) (R:List D->Nat->Prop),acc.length+(h x).length<=B->R (acc++h x) n->g1 (enc x) (replicate own none++rho) λJ=>J.drop own=rho/\O J n λc n2=>if c=true then it2 J n2 (xE2 g2 L te J acc R) else R acc n2)
  (fin:P (.lst (xs.flatMap h)) n):QU own g1 O it2 g2 L te rho P (xs.map enc) n:=by
 refine⟨λi Y n'=>n'=n/\Y=(xs.take i).flatMap h,⟨rfl,by simp⟩,?_,?_⟩
 ·rintro i d Y n' e ⟨rfl, rfl⟩;rw[zw] at e
  cases q:xs[i]? with
  |none=>rw[q] at e;cases e
  |some x=>
   rw[q] at e;cases e
   have e2:(xs.take (i+1)).flatMap h=(xs.take i).flatMap h++h x:=by rw[xm,q];simp
   refine he x (zM q) _ _ ?_ ⟨rfl,e2.symm⟩
   have e3:xs.flatMap h=(xs.take (i+1)).flatMap h++(xs.drop (i+1)).flatMap h:=by rw[<- List.flatMap_append,List.take_append_drop]
   rw[e3,zu,e2,zu] at hz;lia
 ·rintro Y n' ⟨rfl,rfl⟩;rw[zg,xY];exact⟨wS (zK hz hB),fin⟩
section
variable {P:Program}{w:World}{K:W.Frag}{mg:QqM}{base:Heap}{f:Addr}{fd:FuncData}
abbrev Zl:Stmt:=top 4
abbrev za8:List Str:=["ends","pair"]
def Kp:FnScope za8 qZ2 (zW Zl):=⟨rfl,rfl,rfl,w5,rfl,w5,w5⟩
def Zd:TF:=λds n Q=>∃(lo hi:Int) (p:Pair),ds=[.tup [.int lo,.int hi],xD p]/\Q (.bl (belowP p hi)) n
def KP(F:Fun K "all_below" "all_below" Zl f fd):FnOk P w K mg base CX0 1 f fd qZ2 (spD K 2 Zd):=by
 refine Fun.okD F Kp (λJ Y outer s H E G Z L=>(zF (xp (KG (qY jv jn (xU xk xT (zf 1) zq (λ_ _=>rfl)) yV (wg _)) (zd4 (qY zK0 zH3 (xU xk xT (zf 0) zq (λ_ _=>rfl)) (xU xk xT (zf 1) zq (λ_ _=>rfl)) (wg _))))))) ?_;rintro ds n Q O ⟨lo,hi,⟨a,b⟩,rfl,q⟩
 cases a<;>cases b<;>(simp[startD,xD];exact q)
abbrev Zm:Stmt:=top 5
abbrev za9:List Str:=["ends","pair"]
def Kq:FnScope za9 qZ2 (zW Zm):=⟨rfl,rfl,rfl,w5,rfl,w5,w5⟩
def Ze:TF:=λds n Q=>∃(lo hi:Int) (p:Pair),ds=[.tup [.int lo,.int hi],xD p]/\Q (.bl (JP p lo)) n
def KQ(F:Fun K "all_above" "all_above" Zm f fd):FnOk P w K mg base CX0 1 f fd qZ2 (spD K 2 Ze):=by
 refine Fun.okD F Kq (λJ Y outer s H E G Z L=>(zF (xp (KG (qY jv jn (xU xk xT (zf 1) zq (λ_ _=>rfl)) yV (wg _)) (zd4 (qY YZ YX (xU xk xT (zf 0) zq (λ_ _=>rfl)) (xU xk xT (zf 1) zq (λ_ _=>rfl)) (wg _))))))) ?_;rintro ds n Q O ⟨lo,hi,⟨a,b⟩,rfl,q⟩
 cases a<;>cases b<;>(simp[startD,xD];exact q)
abbrev Ub:Stmt:=top 24
abbrev zP3:List Str:=["ends","pair","side"]
def zp9:FnScope zP3 qZ8 (zW Ub):=⟨rfl,rfl,rfl,w5,rfl,w5,w5⟩
def VQ:TF:=λds n Q=>∃(lo hi:Int) (p:Pair) (s:Nat),ds=[.tup [.int lo,.int hi],xD p,.int s]/\Q (.bl (zE8 lo hi p s)) n
def zu2(G_EMPTY_PAIR:xe4 K mg "EMPTY_PAIR" (.tup [.int 1,.int 0]))(F:Fun K "is_out" "is_out" Ub f fd)(F_all_below:Fn P w K mg base "all_below" 1 2 Zd)(F_all_above:Fn P w K mg base "all_above" 1 2 Ze):FnOk P w K mg base CX0 2 f fd qZ8 (spD K 3 VQ):=by
 refine Fun.okD F zp9 (λO A0 outer s H E G Z J=>(zx (yU (xR (zd6 J) (zc8 rfl) (zf 1) (zs9 G_EMPTY_PAIR rfl) (wg _)) (zF (xp YY)) wI)
  (zF (xp (Um (xR WJ WH (zf 2) zq (wg _)) (wt F_all_below (J.mono q9) rfl (zc (zf 0) (zc (zf 1) zi))) (wt F_all_above (J.mono q9) rfl (zc (zf 0) (zc (zf 1) zi)))))))) ?_
 rintro ds n Q Y ⟨lo,hi,p,s,rfl,q⟩;have L:(D.tup [.int 1,.int 0])=xD kj:=rfl;simp[startD];rw[L,zf2];refine⟨Xp _ 19,Xp _ 19,?_⟩;unfold zE8 at q
 by_cases h:p=kj
 ·rw[if_pos h] at q;rw[xh h];simp;exact q
 ·rw [if_neg h] at q;rw[zN h];simp
  by_cases h0:s=0
  ·rw[if_pos h0] at q;subst h0;simp;exact⟨lo,hi,p,rfl,q⟩
  ·rw[if_neg h0] at q;simp[h0];exact⟨lo,hi,p,rfl,q⟩
abbrev Ym:Stmt:=top 25
abbrev YF:List Str:=["limits","plain"]
def Qi:FnScope YF ["limits","plain"] (zW Ym):=⟨rfl,rfl,rfl,w5,rfl,w5,w5⟩
def ZZ:("i" :: "side" :: YF:List Str).Nodup:=w5
def zo4:TF:=λds n Q=>∃bd pl:List Pair,ds=[zT bd,zT pl]/\bd.length=pl.length/\pl.length<=400/\VC bd/\Q (.lst ((Qa bd pl).map λx=>.tup [.int (x.1:Int),.int (x.2:Int)])) n
def zY5(T:Blt mg)(F:Fun K "ways_out" "ways_out" Ym f fd)(F_is_out:Fn P w K mg base "is_out" 2 3 VQ):FnOk P w K mg base CX0 3 f fd ["limits","plain"] (spD K 2 zo4):=by
 refine Fun.okD F Qi (λad A0 outer s H E G Z hr=>(zF (xp (zJ8 (own:=["i","side"]) (M:=YF) (vD (by rfl)) rfl (kQ T.range (zc (xZ wE kC T.len vZ (zc (zf 1) zi)) zi)) (λC J H2 fp=>(zZ (i:=0) ZZ rfl (lo rfl) q9)) (λC J H2 fp=>yT) (λC J H2 fp=>(vw rfl (wf (zc zq (zc zq zi))))) (λC J H2 fp=>(zZ (i:=1) ZZ rfl (lo rfl) q9)) (λC J H2 fp=>(Xk (kn (wt F_is_out (hr.mono q9) rfl (zc (xU xk xT (zf 2) (zf 0) (λ_ _=>rfl)) (zc (xU xk xT (zf 3) (zf 0) (λ_ _=>rfl)) (zc (zf 1) zi))))))) (λC J H2 fp=>(wf (zc (zf 0) (zc (zf 1) zi)))))))) ?_
 rintro ds n Q hl ⟨bd,pl,rfl,aa,hz,hE,q⟩
 have kl:∀k:D->Prop,k (.int (pl.length:Int))->zM7 [zT pl] k:=λk h=>by unfold zT;rw[Ug,zg];exact h
 simp[startD]
 refine kl _ ⟨pl.length,rfl,q5,q5,?_⟩
 rw[Ue]
 have e:((List.range pl.length).flatMap λi=>([0,1].filter λs=>Uo bd pl i s).map λs:Nat=>D.tup [.int (i:Int),.int (s:Int)])=(Qa bd pl).map λx=>.tup [.int (x.1:Int),.int (x.2:Int)]:=by
  unfold Qa;rw[List.map_flatMap]
  congr 1
  funext i
  rw[zQ];rfl
 refine xq1 (B:=800) (λi:Nat=>D.int (i:Int)) (λi=>([0,1].filter λs=>Uo bd pl i s).map λs:Nat=>D.tup [.int (i:Int),.int (s:Int)]) (List.range pl.length) q9 ?_ (λi hi acc R L hR=>?_) ?_
 ·rw[e,zg];have:=zF5 bd pl;lia
 ·have hi' : i < pl.length := xV.mp hi;have hq:pl[i]?=some pl[i]:=ze hi'
  have O:bd[i]?=some bd[i]:=ze q5
  obtain⟨lo,Y,eb,_⟩:=hE i _ O;rw[eb] at O;simp;have e2:[D.int 0,D.int 1]=[0,1].map λs:Nat=>D.int (s:Int):=rfl;rw[e2]
  refine zy6 (λs:Nat=>D.int (s:Int)) (λs=>Uo bd pl i s) (λs:Nat=>D.tup [.int (i:Int),.int (s:Int)]) [0,1] (by simp at L ⊢;lia) (λs hs R S h1 h2=>?_) hR
  simp;refine jN O (jN hq ⟨lo,Y,_,s,rfl,?_⟩);rw[<- Xo O hq]
  cases ho:Uo bd pl i s with
  |true=>simp;exact h1 ho
  |false=>simp;exact h2 ho
 ·rw[e];exact q
abbrev Yp:Stmt:=top 26
abbrev zm4:List Str:=["path","limits","plain"]
def Qk:FnScope zm4 qZ9 (zW Yp):=⟨rfl,rfl,rfl,w5,rfl,w5,w5⟩
def zo5:TF:=λds n Q=>∃(p:List Int) (bd pl:List Pair) (k:Nat),ds=[.tup (p.map D.int),zT bd,zT pl]/\bd.length=pl.length/\pl.length<=400/\VC bd/\qf bd pl=some k/\Q (qR (p,some k)) n
def zY7(F:Fun K "out_part" "out_part" Yp f fd)(F_ways_out:Fn P w K mg base "ways_out" 3 2 zo4):FnOk P w K mg base CX0 4 f fd qZ9 (spD K 3 zo5):=by
 refine Fun.okD F Qk (λY A0 outer s H E G Z L=>(zF (xp (qJ qL Zs (wf (zc (zf 0) (zc qW zi))) (xU xk xT (wt F_ways_out (L.mono q9) rfl (zc (zf 1) (zc (zf 2) zi))) zq (λ_ _=>rfl)))))) ?_
 rintro ds n Q hl ⟨p,bd,pl,k,rfl,J,hz,O,hk,q⟩;obtain⟨r,L⟩:=zh2 hk;simp[startD];refine⟨bd,pl,rfl,J,hz,O,?_⟩;rw[L];simp;exact q
end
structure JPn(b:List Ka)(n i:Nat)(rho:Rho)(m:Nat):Prop where
 e:m=n
 u:∀(k:Nat) s,k<i->b[k]?=some s->crossedT (Zu s)=false
 r:∃(x y z u:Option D),rho=[some (vq b),some (.own (((b.take i).map Zu).map xD)),x,y,z,u]
def VG{α β:Type}{f:α->β}{xs:List α}{i:Nat}{x:α}(h:xs[i]?=some x):(xs.take (i+1)).map f=(xs.take i).map f++[f x]:=by
 rw[xm,h];simp
section
variable {P:Program}{w:World}{K:W.Frag}{mg:QqM}{base:Heap}{f:Addr}{fd:FuncData}
abbrev jh:Stmt:=top 41
abbrev JT:List Str:=["_law_box_here","_law_pairs","_law_low","_law_high","_law_least","_law_greatest"]
def vE:FnScope JT ["_law_box_here"] (zW jh):=⟨rfl,rfl,rfl,w5,rfl,w5,w5⟩
def VL:TF:=λds n Q=>∃b:List Ka,ds=[vq b]/\1<=b.length/\b.length<=900/\Q (zT (vf b)) n
def zt7(T:Blt mg)(F:Fun K "_law_plain" "_law_plain" jh f fd):FnOk P w K mg base CX0 1 f fd ["_law_box_here"] (spD K 1 VL):=by
 refine Fun.okD F vE (λah A0 outer s H E G Z hr=>(zx (Yx (i:=1) vE.nd rfl (lo rfl) zi)
  (zx (jq (m:=6) PassesOwn.never rfl (vw rfl (zf 0)) (vy (k:=2) rfl rfl (xn (zZ (i:=2) vE.nd rfl (lo rfl) q9) (xn (zZ (i:=3) vE.nd rfl (lo rfl) q9) vb)))
  (zx (yf (i:=4) vE.nd rfl (lo rfl) (Um (xR kB kw (zf 2) yV (wg _)) yV (vX (xU xk xT (zf 2) zq (λ_ _=>rfl)) (yq Wz QT T.int zD4 (zc (zR2 (xU xk xT (zf 2) zq (λ_ _=>rfl))) zi)))))
  (zx (yf (i:=5) vE.nd rfl (lo rfl) (Um (xR kB kw (zf 3) yV (wg _)) yV (jr (xU xk xT (zf 3) zq (λ_ _=>rfl)) (yq Wz QT T.int zD4 (zc (zR2 (xU xk xT (zf 3) zq (λ_ _=>rfl))) zi)))))
  (zx (yU (PWD.pt (qI (xR jv jn (zf 4) yV (wg _)) (qI (xR jv jn (zf 5) yV (wg _)) (qH (xR YZ YX (zf 4) (zf 5) (wg _)))))) (zF (xp (qJ zY0 zV1 (wf (zc (wf (zc zq (zc zq zi))) zi)) (xZ wE kC T.len vZ (zc (zf 0) zi))))) wI)
  (zF (vc (i:=1) (zc (wf (zc (zf 4) (zc (zf 5) zi))) zi) rfl))))))
  (zF (jp 1 (xp (yq wH vn T.tuple vo (zc (zf 1) zi)))))))) ?_
 generalize ad:XF (sIf _ _ _) _=S2;generalize ae:XF (zc2 5 _) _=S1;rintro ds n Q hl ⟨b,rfl,ag,af,q⟩;have nb:xG (vq b)=true:=id rfl;simp[startD,nb]
 refine⟨b.map qm,.inr rfl,JPn b n,⟨rfl,λk s hk=>by lia,_,_,_,_,rfl⟩,?_,?_⟩
 ·rintro i d rho m e ⟨rfl, hu, x, y, z, u, rfl⟩;rw[zw] at e
  cases h:b[i]? with
  |none=>rw[h] at e;cases e
  | some s =>
   rw[h] at e;cases e;have hi:i<b.length:=(zm.mp h).1
   have J:(((b.take i).map Zu).map xD).length<sizeLine:=by
    rw[zg,zg,yi]
    exact lt_size q5
   have key:∀x y z u:Option D,crossedT (Zu s)=false->JPn b m (i+1) [some (vq b),some (.own (((b.take i).map Zu).map xD++[xD (Zu s)])),x,y,z,u] m:=λx y z u hc=>by
    refine⟨rfl,λk s' hk e=>?_,x,y,z,u,?_⟩
    ·by_cases aa : k = i
     ·subst aa;rw[h] at e;cases e;exact hc
     ·exact hu k s' q5 e
    ·rw[VG h,zE];rfl
   have Y:crossedT (Zu s)=true->Q (.tup (replicate b.length (.tup [.int 1,.int 0]))) m:=λhc=>by
    have ha:(b.map Zu).any crossedT=true:=yj.mpr ⟨_,zk.mpr ⟨s,zM h,rfl⟩,hc⟩;unfold vf at q;rw[ka ha,zg] at q;unfold zT at q;rw[List.map_replicate] at q;exact q
   have rep:∀R:D->Prop,R (.tup (replicate b.length (.tup [.int 1,.int 0])))->zM7 [vq b] λd2=>zq8 (.tup [.tup [.int 1,.int 0]]) d2 R:=λR hR=>by
    refine Ug.mpr (zH8.mpr ⟨by simp,by rw[zg];lia,?_,?_⟩)
    ·rw[zg];exact wS (by simp;lia)
    ·rw [zg]
     have:((replicate ((b.length:Int).toNat) [D.tup [.int 1,.int 0]]).flatten)=replicate b.length (.tup [.int 1,.int 0]):=by
      rw[yD,List.flatten_replicate_singleton]
     rw[this];exact hR
   clear q hl;generalize ((b.take i).map Zu).map xD=acc at J key ⊢
   have L:∀(F:EndsD) (x y:Option D) (l g:Option Int),F.nx=JPn b m (i+1)->F.rt=Q->Zu s=(l,g)->S2 F [some (vq b),some (.own acc),x,y,some (WV l),some (WV g)] m:=λF x y l g h1 h2 h3=>by
    subst ad;rw[h3] at key Y
    rcases l with _ |l
    ·have ng : xG (WV g) = true := by cases g <;> rfl
     simp[nb,h1,ng];exact⟨J,key _ _ _ _ rfl⟩
    ·rcases g with _ | g
     ·simp[nb,h1];exact⟨J,key _ _ _ _ rfl⟩
     ·simp [nb, h1, h2]
      split
      ·rename_i hh;exact rep _ (Y (xh hh))
      ·rename_i hh;exact⟨J,key _ _ _ _ (zN hh)⟩
   have O:∀(F:EndsD) (x u:Option D) (l:Option Int),F.nx=JPn b m (i+1)->F.rt=Q->Jf s.1=l->S1 F [some (vq b),some (.own acc),x,some (kY s.2),some (WV l),u] m:=λF x u l h1 h2 h3=>by
    subst ae
    have r2:=fun(g:Option Int) (e:ze9 s.2=g)=>L F x (some (kY s.2)) l g h1 h2 (by unfold Zu;rw[h3,e])
    generalize s.2=t at r2 ⊢
    rcases t with _ |⟨c,s2⟩
    ·simp;exact r2 _ rfl
    ·cases s2<;>(simp;exact r2 _ rfl)
   have r1:=fun(F:EndsD) (x u:Option D) (l:Option Int) h1 h2 (e:Jf s.1=l)=>O F x u l h1 h2 e;have nt:=XU s.2;unfold qm;generalize s.1=t at r1 ⊢;generalize kY s.2=eh at nt r1 ⊢;clear O L key Y rep
   rcases t with _ |⟨a,s1⟩
   ·simp[nb,nt];exact r1 _ _ _ _ rfl rfl rfl
   ·cases s1<;>(simp[nb,nt];exact r1 _ _ _ _ rfl rfl rfl)
 ·rintro rho m ⟨rfl, hu, x, y, z, u, rfl⟩;rw[zg,xY]
  have ha:¬ (b.map Zu).any crossedT=true:=λhc=>by
   obtain⟨k,p,e,hp⟩:=WF.mp hc;rw[zw] at e
   cases h:b[k]? with
   |none=>rw[h] at e;cases e
   |some s=>
    rw[h] at e;cases e
    rw[hu k s (by rw[zg];exact(zm.mp h).1) h] at hp
    cases hp
  unfold vf at q;rw[vM ha] at q;unfold zT at q;rw[zQ] at q;simp;exact q
abbrev qF:Stmt:=top 42
abbrev UW:List Str:=["_law_edges","_law_plain_here","_law_i","_law_side","_law_end"]
def jX:FnScope UW xB8 (zW qF):=⟨rfl,rfl,rfl,w5,rfl,w5,w5⟩
def ZM:TF:=λds n Q=>∃(bd pl:List Pair) (k:Nat),ds=[zT bd,zT pl,.int ((k/2:Nat):Int),.int ((k%2:Nat):Int)]/\bd.length=pl.length/\k<2*pl.length/\VC bd/\Q (.bl (Qw bd pl k)) n
def zu5(F:Fun K "_law_beyond" "_law_beyond" qF f fd):FnOk P w K mg base CX0 1 f fd xB8 (spD K 4 ZM):=by
  refine Fun.okD F jX (λae A0 outer s H E G Z hr=>(zx (yf (i:=4) jX.nd rfl (lo rfl) (xU xk xT (xU xk xT (zf 1) (zf 2) (λ_ _=>rfl)) (zf 3) (λ_ _=>rfl)))
    (zx (yU (xR (zd6 hr) (zc8 rfl) (xU xk xT (zf 1) (zf 2) (λ_ _=>rfl)) (wf (zc zq (zc zq zi))) (wg _)) (zF (xp YY)) wI)
    (zx (yU (xR kB kw (zf 4) yV (wg _)) (zF (xp YY)) wI)
    (zF (xp (xU xk xT (vg (zc (qY zK0 zH3 (xU xk xT (xU xk xT (zf 0) (zf 2) (λ_ _=>rfl)) zq (λ_ _=>rfl)) (zf 4) (wg _)) (zc (qY YZ YX (xU xk xT (xU xk xT (zf 0) (zf 2) (λ_ _=>rfl)) zq (λ_ _=>rfl)) (zf 4) (wg _)) zi))) (zf 3) (λ_ _=>rfl)))))))) ?_
  rintro ds n Q hl ⟨bd,pl,k,rfl,ad,hk,hE,q⟩
  have O:pl[k/2]?=some pl[k/2]:=ze q5
  have J:bd[k/2]?=some bd[k/2]:=ze q5
  obtain⟨lo,hi,eb,_⟩:=hE _ _ J;rw[eb] at J;generalize pl[k/2]=Y at O;have e1:(D.tup [.int 1,.int 0])=xD kj:=rfl
  have hs:k%2=0\/k%2=1:=q5
  unfold Qw at q;rw[Xo J O] at q;generalize k/2=i at J O q ⊢;generalize k%2=s at hs q ⊢;clear hk eb hl;have aa:=Xp Y 19;have L:=Xp kj 19;have ee:=zf2 Y kj;rw[<- e1] at L ee;unfold zE8 at q;simp[startD];refine jN O ?_;obtain⟨a,b⟩:=Y
  rcases hs with rfl |rfl <;> rcases a with _ |a <;> rcases b with _ |b <;>
    (simp [xD]
     refine jN O ?_;simp[aa,L,ee]
     split
     · rename_i h
       rw[if_pos h] at q;exact q
     · rename_i h
       rw[if_neg h] at q
       first
         |exact q
         | (refine jN J ?_
            simp[xD];refine jN J ?_;simp[xD]
            exact q))
def YW{k n:Nat}(J:bd.length=pl.length)(hk:k<2*pl.length)(L:VC bd)(q:Q (.bl (Qw bd pl k)) n):ZM [zT bd,zT pl,.int ((k/2:Nat):Int),.int ((k%2:Nat):Int)] n Q:=⟨bd,pl,k,rfl,J,hk,L,q⟩
def KH(h:k (.int (pl.length:Int))):zM7 [zT pl] k:=by unfold zT;rw[Ug,zg];exact h
abbrev jl:Stmt:=top 43
abbrev jK:List Str:=["_law_edges","_law_plain_here"]
def VY:FnScope jK qZ6 (zW jl):=⟨rfl,rfl,rfl,w5,rfl,w5,w5⟩
def Wc:("_law_k" :: jK:List Str).Nodup:=w5
def jL:TF:=λds n Q=>∃bd pl:List Pair,ds=[zT bd,zT pl]/\bd.length=pl.length/\1<=bd.length/\pl.length<=400/\VC bd/\yc pl=pl/\Q (.bl (yn bd pl)) n
def zu0(T:Blt mg)(F:Fun K "_law_apart" "_law_apart" jl f fd)(Y_beyond:Fn P w K mg base "_law_beyond" 1 4 ZM):FnOk P w K mg base CX0 2 f fd qZ6 (spD K 2 jL):=by
 refine Fun.okD F VY (λaa A0 outer s H E G Z Y=>(zF (xp (xZ (zg1 rfl) zS9 T.any zT2 (zc (vB (own:=["_law_k"]) (M:=jK) (vD (by rfl)) rfl (kQ T.range (zc (jY zq (xZ wE kC T.len vZ (zc (zf 1) zi))) zi)) (λC L H2 fp=>(zZ (i:=0) Wc rfl (lo rfl) q9)) (λC L H2 fp=>yT) (λC L H2 fp=>(wt Y_beyond (Y.mono q9) rfl (zc (zf 1) (zc (zf 2) (zc (Vh (zf 0) zq) (zc (qX (zf 0) zq) zi))))))) zi))))) ?_
 rintro ds n Q hl ⟨bd,pl,rfl,J,h1,hz,O,hs,q⟩;simp[startD];refine KH ?_;simp
 have e:(2*(pl.length:Int)).toNat=2*pl.length:=q5
 refine⟨.inl ⟨q9,q9⟩,q5,q5,?_⟩
 rw[e,Ue]
 refine yN (λi:Nat=>D.int (i:Int)) (λk=>.bl (Qw bd pl k)) (List.range (2*pl.length)) (by rw[yg];exact wS q5) (λk hk R hR=>?_) ?_
 ·have hk' := xV.mp hk;simp
  exact⟨⟨q9,q9⟩,YW J hk' O hR⟩
 ·refine ⟨(List.range (2 * pl.length)).map (Qw bd pl), by rw [zQ]; rfl, ?_⟩
  rw[zE1 J h1 O hs];exact q
abbrev Ud:Stmt:=top 44
abbrev Zo:Stmt:=top 47
abbrev zb1:List Str:=["_law_found","_law_due"]
def Ks:FnScope zb1 xC6 (zW Zo):=⟨rfl,rfl,rfl,w5,rfl,w5,w5⟩
def Qb:TF:=λds n Q=>∃a:D,ds=[a,a]/\xG a=true/\okE a 20=true/\xu0 a/\Q (.bl true) n
def zK4(T:Blt mg)(T3:Blt3 mg)(F:Fun K "_law_same" "_law_same" Zo f fd):FnOk P w K mg base CX0 1 f fd xC6 (spD K 2 Qb):=by
 refine Fun.okD F Ks (λad A0 outer s H E G Z O=>(zF (xp (KG (qY (zd6 O) (zc8 rfl) (zf 0) (zf 1) (wg _)) (zd4 (qY (zd6 O) (zc8 rfl) (xZ (Vy O) (zf6 rfl) T3.repr zD2 (zc (zf 0) zi)) (xZ (Vy O) (zf6 rfl) T3.repr zD2 (zc (zf 1) zi)) (wg _))))))) ?_;rintro ds n Q hl ⟨a,rfl,na,L,Y,q⟩;have es:eqD a a=true:=UJ L;have J:∀x:Str,okE (.str x) 20=true:=λx=>rfl;have aa:∀x:Str,eqD (.str x) (.str x)=true:=λx=>UJ (J x);simp[startD,na,L,es,Y,J,aa];exact q
abbrev ji:Stmt:=top 49
abbrev JU:List Str:=["_law_tree_here","_law_plain_here","_law_path","_law_k"]
def ZQ:FnScope JU xC5 (zW ji):=⟨rfl,rfl,rfl,w5,rfl,w5,w5⟩
def XX:("_law_k" :: ["_law_tree_here","_law_plain_here","_law_path","_law_k'"]:List Str).Nodup:=w5
end
theorem zy7(x:Int):∀ns:List Int,inD (.int x) (ns.map D.int)=decide (x∈ns)
 |[]=>by simp[inD]
 |y::ns=>by
  have J:=zy7 x ns;unfold inD at J ⊢;rw[zD,yE,J]
  by_cases e:x=y
  ·subst e;simp[eqD]
  ·have L:¬ y=x:=λz=>e z.symm;simp[eqD,e,L]
def zP1(ns:List Int):(ns.map D.int).all Wq=true:=by
 rw[wY];intro d hd;obtain⟨x,_,rfl⟩:=zk.mp hd;rfl
def zZ5{l:List Thing}(h:1<=l.length):zn0 (l.map λt=>0-t.2.2)=- Uw (l.map λt=>t.2.2):=by
 obtain⟨h1,L⟩:=kh (vR (ns:=l.map λt=>t.2.2) (by rw[zg];exact h))
 obtain⟨u,hu,e⟩:=zk.mp h1
 refine(Uu (zk.mpr ⟨u,hu,by rw[<- e];lia⟩) λy J=>?_).symm
 obtain⟨t,ht,rfl⟩:=zk.mp J;have:=L t.2.2 (zk.mpr ⟨t,ht,rfl⟩);lia
def xp3(k:QqP):D:=.tup [.int k.1,.int k.2]
@[simp] theorem xu2(k:QqP):xG (xp3 k)=true:=id rfl
section
variable {P:Program}{w:World}{K:W.Frag}{mg:QqM}{base:Heap}{f:Addr}{fd:FuncData}
abbrev jg:Stmt:=top 45
abbrev jG:List Str:=["_law_edges","_law_place"]
def VX:FnScope jG xC4 (zW jg):=⟨rfl,rfl,rfl,w5,rfl,w5,w5⟩
def kR:("_law_low" :: "_law_high" :: "_law_number_here" :: jG:List Str).Nodup:=w5
def VJ:TF:=λds n Q=>∃(J:D) (pl:List Int) (bd:List (Int × Int)),ds=[J,yF pl]/\(J=zT (bd.map JY)\/J=.lst ((bd.map JY).map xD))/\pl.length<=1000/\Q (.int (kK bd pl)) n
def zt6(T:Blt mg)(T2:Blt2 mg)(F:Fun K "_law_steps" "_law_steps" jg f fd):FnOk P w K mg base CX0 1 f fd xC4 (spD K 2 VJ):=by
 refine Fun.okD F VX (λaa A0 outer s H E G Z hr=>(zF (xp (xZ (zg0 rfl) zS8 T2.sum zT1 (zc (vB (own:=["_law_low","_law_high","_law_number_here"]) (M:=jG) (vD (by rfl)) rfl (Qu rfl T.zip (zc (zf 0) (zc (zf 1) zi))) (λC L H2 fp=>(vy (k:=2) rfl rfl (xn (vy (k:=2) rfl rfl (xn (zZ (i:=0) kR rfl (lo rfl) q9) (xn (zZ (i:=1) kR rfl (lo rfl) q9) vb))) (xn (zZ (i:=2) kR rfl (lo rfl) q9) vb)))) (λC L H2 fp=>yT) (λC L H2 fp=>(xZ (JB rfl) zC0 T.max Vz (zc zq (zc (jr (zf 0) (zf 2)) (zc (jr (zf 2) (zf 1)) zi)))))) zi))))) ?_
 rintro ds n Q hl ⟨O,pl,bd,rfl,J,hz,q⟩
 have ez:Kb ((bd.map JY).map xD) (pl.map D.int)=(bd.zip pl).map λz=>.tup [xD (JY z.1),.int z.2]:=by
  unfold Kb;rw[zQ,List.zipWith_map,yG];rfl
 have nd:xG O=true:=by rcases J with rfl |rfl<;>rfl
 have Y:xG (yF pl)=true:=id rfl
 have kz:∀R:List D->Prop,R (Kb ((bd.map JY).map xD) (pl.map D.int))->xa9 [O,yF pl] R:=λR h=>by
  rcases J with rfl |rfl
  ·exact(YQ (d1:=zT (bd.map JY)) (d2:=yF pl) rfl rfl).mpr h
  ·exact(YQ (d1:=.lst ((bd.map JY).map xD)) (d2:=yF pl) rfl rfl).mpr h
 simp[startD,nd,Y];refine kz _ ?_;rw[ez]
 refine yN (λz:(Int × Int) × Int=>.tup [xD (JY z.1),.int z.2]) (λz=>.int (jS z.1 z.2)) (bd.zip pl) (zK (by rw[length_zip];lia) (wS (k:=1000) q5)) (λz hz R hR=>?_) ?_
 ·simp[xD,JY];exact hR
 ·have e : ((bd.zip pl).map λz : (Int × Int) × Int => D.int (jS z.1 z.2)) = ((bd.zip pl).map λz => jS z.1 z.2).map D.int := by
   rw[zQ];rfl
  exact⟨(bd.zip pl).map (λz:(Int × Int) × Int=>jS z.1 z.2),by rw[e],q⟩
abbrev Ys:Stmt:=top 46
abbrev YI:List Str:=["_law_house_here","_law_tree_here","_law_kind_here"]
def Qm:FnScope YI xC3 (zW Ys):=⟨rfl,rfl,rfl,w5,rfl,w5,w5⟩
def qP:("_law_name" :: "_law_place" :: "_law_worth" :: YI:List Str).Nodup:=w5
def zb6:TF:=λds n Q=>∃(d:Nat) (hs ts:List Thing) (tr:Tr) (kd:QqO),ds=[wo d hs,yM tr,yZ kd]/\(hs.map λt=>t.1).Nodup/\hs.length<=1000/\TreeOf d ts tr/\(∀t∈ts,t∈hs)/\(ts.map λt=>t.1).Nodup/\(∀pl,kd=some pl->pl.length<=1000)/\Q (xp3 (yR d kd ts)) n
def zY8(T:Blt mg)(F:Fun K "_law_key" "_law_key" Ys f fd)(Y_steps:Fn P w K mg base "_law_steps" 1 2 VJ):FnOk P w K mg base CX0 2 f fd xC3 (spD K 3 zb6):=by
 refine Fun.okD F Qm (λae A0 outer s H E G Z hr=>(zx (yU (xR WJ WH (xU xk xT (zf 2) zq (λ_ _=>rfl)) qW (wg _)) (zF (xp (wf (zc (wt Y_steps (hr.mono q9) rfl (zc (xU xk xT (zf 1) zq (λ_ _=>rfl)) (zc (xU xk xT (zf 2) zq (λ_ _=>rfl)) zi))) (zc (xU xk xT (xU xk xT (zf 1) zq (λ_ _=>rfl)) zq (λ_ _=>rfl)) zi))))) wI)
  (zF (xp (wf (zc (xZ (JA rfl) zB9 T.min JF (zc (vB (own:=["_law_name","_law_place","_law_worth"]) (M:=YI) (vD (by rfl)) rfl (vw rfl (xU xk xT (zf 0) zq (λ_ _=>rfl))) (λ_ _ _ _=>(vy (k:=3) rfl rfl (xn (zZ (i:=0) qP rfl (lo rfl) q9) (xn (zZ (i:=1) qP rfl (lo rfl) q9) (xn (zZ (i:=2) qP rfl (lo rfl) q9) vb))))) (λ_ _ _ _=>(Xk (xR zt3 (xw2 (neg:=false)) (zf 0) (xU xk xT (zf 4) zq (λ_ _=>rfl)) (by with_unfolding_all rfl)))) (λ_ _ _ _=>(jr zq (zf 2)))) zi)) (zc (xU xk xT (xU xk xT (zf 1) zq (λ_ _=>rfl)) zq (λ_ _=>rfl)) zi))))))) ?_
 rintro ds n Q hl ⟨d,hs,ts,tr,kd,rfl,hn,hz,ht,L,aa,hk,q⟩;obtain⟨ta,tb,et,na,nb⟩:=vL tr;obtain⟨r,Y⟩:=ht.head
 have ad:atI ((wG tr).map D.int) 0=some (.int (va ts)):=by rw[Y];exact zz0
 have nh:=vz d hs;have J:=yX tr
 have O:∀R:D->Prop,R (.tup ((wG tr).map D.int))->Zt (yM tr) (.int 0) R:=λR h=>by rw[et];exact⟨_,0,_,.inr (.inl rfl),rfl,rfl,h⟩
 have r1:∀R:D->Prop,R (zT (kF tr))->Zt (yM tr) (.int 1) R:=λR h=>by rw[et];exact⟨_,1,_,.inr (.inl rfl),rfl,rfl,h⟩
 have hh:∀R:D->Prop,R (.int (va ts))->Zt (.tup ((wG tr).map D.int)) (.int 0) R:=λR h=>⟨_,0,_,.inr (.inl rfl),rfl,ad,h⟩;simp[startD,nh,J]
 cases kd with
 |some pl=>
  refine⟨_,0,_,.inr (.inl rfl),rfl,rfl,?_⟩;simp;refine r1 _ ⟨_,1,_,.inr (.inl rfl),rfl,rfl,?_⟩
  refine⟨_,pl,bdI d ts,rfl,.inl (by rw[ht.bd,zD6]),hk pl rfl,O _ (hh _ ?_)⟩
  exact q
 | none =>
  refine⟨_,0,_,.inr (.inl rfl),rfl,rfl,?_⟩;simp
  rw[if_neg q9]
  refine Vt ?_;simp;have hp:=ht.ofN hn L aa
  have h1:1<=(ofN hs tr).length:=by rw[hp.length_eq];exact ht.ne
  refine Wy xB (λt=>decide (t.1∈wG tr)) (λt=>.int (0-t.2.2)) hs (wS hz) (λt ht R S h1 h2=>?_) ?_
  ·simp [xB, J];refine O _ ?_;refine⟨rfl,_,.inl rfl,zP1 _,?_⟩;rw[zy7];simp
   split
   ·rename_i h;have z:=h1 (xh h)
    rwa [Int.zero_sub] at z
   ·rename_i h;exact h2 (zN h)
  ·have e : ((hs.filter λt => decide (t.1 ∈ wG tr)).map λt => D.int (0 - t.2.2)) = ((ofN hs tr).map λt => 0 - t.2.2).map D.int := by rw [zQ]; rfl
   rw[e]
   refine Vq (by rw[zg];exact h1) (O _ (hh _ ?_))
   rw[zZ5 h1,KZ (hp.map λt=>t.2.2)];exact q
end
def zp5{x:Int}(h1:jT p.1)(h2:jT p.2)(hx:zj2 x):0<=jS p x/\jS p x<=200000000000000002/\zP4 1002 (jS p x):=by
 obtain⟨⟨a1,a2⟩,a,e,ha,ad,aa⟩:=h1;obtain⟨⟨b1,b2⟩,b,f,hb,Y,O⟩:=h2;obtain⟨⟨c1,c2⟩,c,g,L,J,hc2⟩:=hx;unfold jS;generalize p.1=u at *;generalize p.2=v at *
 refine⟨q5,q5,?_⟩
 have:max 0 (max (u-x) (x-v))=0\/max 0 (max (u-x) (x-v))=u-x\/max 0 (max (u-x) (x-v))=x-v:=by clear ha hb L;lia
 rcases this with h |h |h
 ·rw[h];exact⟨0,0,q5,q5,q5⟩
 ·rw[h];exact⟨a-c,e-g,q5,q5,q5⟩
 ·rw[h];exact⟨c-b,g-f,q5,q5,q5⟩
theorem WZ:∀{bd:List (Int × Int)}{pl:List Int},(∀p∈bd,jT p.1/\jT p.2)->(∀x∈pl,zj2 x)->0<=kK bd pl/\kK bd pl<=200000000000000002*bd.length/\zP4 (1002*bd.length) (kK bd pl)
 |[],pl,_,_=>⟨yS _,yS _,0,0,rfl,by simp,by simp⟩
 |p::bd,[],_,_=>by
  have e:kK (p::bd) []=0:=rfl;rw[e,zJ]
  exact⟨q5,q5,0,0,q5,q5,q5⟩
 |p::bd,x::pl,h1,J=>by
  obtain⟨i1,i2,a,e,h3,h4,h5⟩:=WZ (bd:=bd) (pl:=pl) (λq Y=>h1 q (zn _ Y)) λy O=>J y (zn _ O)
  obtain⟨s1,L⟩:=h1 p (by simp)
  obtain⟨j1,j2,b,f,g3,g4,g5⟩:=zp5 s1 L (J x (by simp))
  rw[Zf,zJ]
  exact⟨q5,q5,a+b,e+f,q5,q5,q5⟩
def zM5{d:Nat}(hd:d<=4)(h1:1<=ts.length)(O:∀t∈ts,t.2.1.length=d/\(∀x∈t.2.1,jT x)/\jT t.2.2)(hk:∀pl,kd=some pl->∀x∈pl,zj2 x):FormK (WS d kd ts):=by
 cases kd with
 | some pl =>
  have L:∀(i:Nat) (x:Int),i<d->x∈zl6 ts i->jT x:=λi x hi hx=>by
   rw[UK] at hx;obtain⟨t,ht,rfl⟩:=zk.mp hx;obtain⟨l1,l2,_⟩:=O t ht
   rw[ze (show i<t.2.1.length by lia)]
   exact l2 _ (wm _)
  have h:=WZ (bd:=bdI d ts) (pl:=pl) (λp J=>by
   unfold bdI at J;obtain⟨i,hi,rfl⟩:=zk.mp J;have hi':=xV.mp hi
   exact⟨L i _ hi' (zw5 h1),L i _ hi' (QM h1)⟩) (hk pl rfl)
  rw[UM] at h;obtain⟨i1,i2,a,e,h3,h4,Y⟩:=h;show FormK (kK (bdI d ts) pl);generalize kK (bdI d ts) pl=s at *
  exact⟨⟨a,e,q5,q5,q5⟩,q5,q5⟩
 |none=>
  have a:=(kh (vR (ns:=ts.map λt=>t.2.2) (by rw[zg];exact h1))).1
  obtain⟨t,ht,e⟩:=zk.mp a;obtain⟨_,_,⟨i1,i2⟩,b,f,h3,h4,Y⟩:=O t ht;show FormK (- Uw _);rw[<- e];generalize t.2.2=s at *
  exact⟨⟨-b,-f,q5,q5,q5⟩,q5,q5⟩
def xb8{d:Nat}(hg:GoodT d hs 2000)(hd:d<=4)(hk:∀pl,kd=some pl->∀x∈pl,zj2 x):zh0 d kd hs:=λls us h1 O l1 l2 J=>by
 have f:∀l:List Thing,(∀t∈l,t∈hs)->1<=l.length->FormK (WS d kd l)/\0<=va l/\va l<2000:=λl L h=>by
  obtain⟨t,ht,e⟩:=vt h;have g:=hg.each t (L t ht)
  exact⟨zM5 hd h (λt ht=>(hg.each t (L t ht)).2.2) hk,q5,q5⟩
 obtain⟨a1,a2,a3⟩:=f ls h1 l1;obtain⟨b1,b2,Y⟩:=f us O l2;exact zz1 a1 b1 a2 a3 b2 Y J
section
variable {P:Program}{w:World}{K:W.Frag}{mg:QqM}{base:Heap}{f:Addr}{fd:FuncData}
abbrev Zr:Stmt:=top 37
abbrev ZG:List Str:=["_law_left_here","_law_house_here","_law_place"]
def YM:FnScope ZG qZ1 (zW Zr):=⟨rfl,rfl,rfl,w5,rfl,w5,w5⟩
def WP:("_law_i" :: ZG:List Str).Nodup:=w5
def zo7:TF:=λds n Q=>∃(d:Nat) (ts:List Thing),ds=[.st,wo d ts]/\n=3/\d<=4/\GoodT d ts 2000/\ts.length<=30/\∀kd:Option (List Int),(∀pl,kd=some pl->pl.length=d/\∀x∈pl,zj2 x)->Q (yZ kd) 3
def zZ0(T:Blt mg)(F:Fun K "_law_kind" "_law_kind" Zr f fd)(Y_pick:Fn P w K mg base "_law_pick" 1 2 ZJ)(Y_number:Fn P w K mg base "_law_number" 2 3 ZK):FnOk P w K mg base CX0 3 f fd qZ1 (spD K 2 zo7):=by
 refine Fun.okD F YM (λad A0 outer s H E G Z hr=>(zx (yf (i:=2) YM.nd rfl (lo rfl) (yq wH vn T.tuple vo (zc (vB (own:=["_law_i"]) (M:=ZG) (vD (by rfl)) rfl (kQ T.range (zc (xU xk xT (zf 1) zq (λ_ _=>rfl)) zi)) (λC Y H2 fp=>(zZ (i:=0) WP rfl (lo rfl) q9)) (λC Y H2 fp=>yT) (λC Y H2 fp=>(wt Y_number (hr.mono q9) rfl (zc (zf 1) (zc (zf 2) (zc (zf 0) zi)))))) zi)))
  (zF (xp (xU xk xT (vg (zc (wf (zc qW zi)) (zc (wf (zc qW (zc (zf 2) zi))) (zc (wf (zc qW (zc (zf 2) zi))) zi)))) (wt Y_pick (hr.mono q9) rfl (zc (zf 0) (zc zq zi))) (λ_ _=>rfl)))))) ?_
 rintro ds n Q hl ⟨d,ts,rfl,rfl,aa,hg,hz,q⟩;have nh:=vz d ts;simp[startD,nh]
 refine zy8 ⟨d,rfl,q5,q5,?_⟩
 refine Jv (zi3 0 d) 3 (λ_ e=>∃x:Int,zj2 x/\e=.int x) (by rw[jm];exact wS q5) (λj d2 e2 Q' hQ'=>?_) (λes hp=>?_)
 ·obtain⟨hj,rfl⟩:=XG e2;simp[nh];exact jx hj hg hz λx hx=>hQ' _ ⟨x,hx,rfl⟩
 ·have J := hp.length;rw[jm] at J;obtain⟨ps,rfl,O⟩:=ju hp;rw[zg] at J;simp
  refine wb q9 q9 λk g0 g1=>zR0 g0 (by simpa using g1) λdd L=>?_
  have hq:=q (some ps) λpl e=>by cases e;exact⟨q5,O⟩
  simp only[zj,zI,or_false] at L
  rcases L with rfl |rfl |rfl
  ·exact q none λpl e=>by cases e
  ·exact hq
  ·exact hq
end
section
variable {d:Nat}{hs:List Thing}{kd:QqO}{pl:List Pair}{k n':Nat}{o:Option Tr}{q ws:List Qe}{acc rs:List Thing}
end
end K49
set_option maxHeartbeats 2000000
namespace K49
def vp(o:Option Tr):D:=(o.map yM).getD .non
def qM(o:Option Tr):xG (vp o)=true:=by cases o with |none=>rfl |some t=>exact yX t
def keepP(pl:List Pair):Option Tr->Bool
 |none=>false
 |some tr=>!yn (kF tr) pl
def zk1(pl:List Pair)(ls us:List Thing)(lo hi:Tr):(([some lo,some hi]:List (Option Tr)).filter (keepP pl)).map vp=esQ (yL pl [(ls,lo),(us,hi)]):=by
 unfold esQ yL
 cases h1:yn (kF lo) pl<;>cases J:yn (kF hi) pl<;>simp[h1,J,vp,keepP]
noncomputable def xN7(d:Nat)(kd:QqO)(x:Qe):SRow:=⟨.n (WS d kd x.1),va x.1,[]⟩
structure JLd(d:Nat)(kd:QqO)(pl:List Pair)(k n:Nat)(q0:List Qe)(g0 g1 g2 g3:Option D)(m:Nat)(rho:Rho)(n':Nat):Prop where
 e:n'=n
 r:∃(q ws:List Qe) (acc:List Thing) (looks:Nat) (z:Option D),m=yH q/\ws.Perm q/\Reach d kd pl k q0 looks q acc/\acc.length<=k /\
  rho=[g0,g1,g2,g3,some (.int k),some (.lst (esQ ws)),some (.own (acc.map λt=>.int t.1)),some (.int looks),z]
def QOk.len60{d:Nat}(ok:QOk d hs q)(hz:hs.length<=60):q.length<=60:=by
 have h1:=ok.heads
 have J:(q.map λx=>va x.1).length<=(hs.map λt=>t.1).length:=h1.length_le_of_subset λa ha=>by
  obtain⟨x,hx,rfl⟩:=zk.mp ha;obtain⟨t,ht,e⟩:=vt (ok.tree x hx).ne;exact zk.mpr ⟨t,ok.sub t (vK.mpr ⟨x,hx,ht⟩),e⟩
 rw[zg,zg] at J;lia
section
variable {P:Program}{w:World}{K:W.Frag}{mg:QqM}{base:Heap}{f:Addr}{fd:FuncData}
def Va{d:Nat}{n:Nat}(O:(hs.map λt=>t.1).Nodup)(hz:hs.length<=60)(hk:∀p,kd=some p->p.length<=1000)(ok:QOk d hs ws)(h0:rho[0]?=some (some (wo d hs)))(Y:rho[3]?=some (some (yZ kd)))
  (h:∀rs:List Qe,rs.Perm ws->rs.Pairwise (LtQ d kd)->R (.lst (esQ rs)) n):zx9 [3,0] (dFn 3 zb6 (za4 (zF0 2) (za4 (zF0 0) (za4 (zF0 1) xq8)))) rho n R [.lst (esQ ws)]:=by
 have J:=vz d hs
 refine XB (λx:Qe=>yM x.2) (xN7 d kd) true [yZ kd,wo d hs] ws ([],.one 0 []) (by have:=ok.len60 hz;lia) (λt ht=>rfl) ok.heads rfl (λi' j' e=>?_) (λx hx=>?_) λus hu hs'=>h us hu ?_
 ·rcases i' with _ | _ | i'
  ·cases e;exact⟨_,rfl,Y,zi9 kd⟩
  ·cases e;exact⟨_,rfl,h0,J⟩
  ·simp at e
 ·have nx := yX x.2;obtain⟨s1,L⟩:=ok.sub1 hx;simp[nx,J]
  exact⟨d,hs,x.1,x.2,kd,rfl,O,q5,ok.tree x hx,s1,L,hk,rfl,rfl⟩
 ·exact hs'.imp λ{a b} h=>zq3 h
abbrev vP:Stmt:=top 48
abbrev jJ:List Str:=["_law_house_here","_law_tree_here","_law_plain_here","_law_kind_here","_law_k","_law_waits","_law_names","_law_looks","_law_one"]
def vF:FnScope jJ qZ4 (zW vP):=⟨rfl,rfl,rfl,w5,rfl,w5,w5⟩
def Wb:("_law_part" :: jJ:List Str).Nodup:=w5
def Wa:("_law_one" :: ["_law_house_here","_law_tree_here","_law_plain_here","_law_kind_here","_law_k","_law_waits","_law_names","_law_looks","_law_one'"]:List Str).Nodup:=w5
def VN:TF:=λds n R=>∃(d:Nat) (hs:List Thing) (o:Option Tr) (pl:List Pair) (kd:QqO) (k:Nat),ds=[wo d hs,vp o,zT pl,yZ kd,.int k]/\1<=d/\d<=400/\pl.length=d/\yc pl=pl/\(hs.map λt=>t.1).Nodup/\hs.length<=60/\(∀p,kd=some p->p.length<=1000) /\
 (o=none->hs=[])/\(∀tr,o=some tr->TreeOf d hs tr)/\∀(n':Nat) (q rs:List Qe) (acc:List Thing),Reach d kd pl k (qU o hs pl k) n' q acc->(q=[]\/acc.length=k)->acc.length<=k->rs.Perm q->rs.Pairwise (LtQ d kd)->R (.tup [.tup (acc.map λt=>.int t.1),.int n',Xx rs]) n
def zt9(T:Blt mg)(F:Fun K "_law_drawn" "_law_drawn" vP f fd)(az:W.nsIn K mainGlobals "_law_drawn" = some (some (.ref f)))(al:W.tabIn K "_law_drawn" = some (c,Pt))(LB:LamBase base mg c Pt)(Y_apart:Fn P w K mg base "_law_apart" 2 2 jL)(Y_key:Fn P w K mg base "_law_key" 2 3 zb6):FnOk P w K mg base CX0 9 f fd qZ4 (spD K 5 VN):=by
 have TI:qa K Pt (("_law_drawn" ++ ".<locals>.") ++ "<lambda>"):=⟨"_law_drawn",by simp[ko],c,al,rfl⟩
 refine Fun.okL F az al vF (λA0 outer s H E G Z L=>(zx (zr7 (i:=5) (j:=6) (k:=7) rfl vF.nd rfl rfl rfl q9 q9 q9 rfl rfl rfl)
  (zx (yU (PWD.pt (qI (xR jv jn (zf 1) yV (wg _)) (qI (xR YZ YX (zf 4) zq (wg _)) (qH (Ui (kn (wt Y_apart (L.mono q9) rfl (zc (xU xk xT (zf 1) zq (λ_ _=>rfl)) (zc (zf 2) zi))))))))) (zF (vc (i:=5) (zc (zf 1) zi) rfl)) wI)
  (zx (jp 5 (XJ PassesOwn.never (PWD.pt (qI (xR (zR4 L) (zV2 rfl) (zf 5) (vg zi) (wg _)) (qH (xR zK0 zH3 (ZV (i:=6) T.len rfl) (zf 4) (wg _)))))
  (zx (yf (i:=5) vF.nd rfl (lo rfl) (Yy (N:=["_law_one","_law_kind_here","_law_house_here"]) (p := "_law_one") (clos:=[("_law_kind_here",s.heap.objs.size+3),("_law_house_here",s.heap.objs.size+1)]) (caps:=[3,0]) (k:=2) TI rfl T.sorted (L.mono q5) (zc (zf 5) zi) LB (Uz (by rfl) (zf8 rfl)) (Caps.two rfl rfl rfl rfl rfl rfl) (λA1 f1 c1 s1 H1 G1 Z1 L=>(wt Y_key (L.mono q9) rfl (zc (zf 2) (zc (zf 0) (zc (zf 1) zi)))))))
  (zx (Xl (i:=8) (j:=7) rfl vF.nd rfl rfl q9 rfl rfl (zc (xU xk xT (zf 5) zq (λ_ _=>rfl)) (zc (vX (zf 7) zq) zi)))
  (zx (yf (i:=5) vF.nd rfl (lo rfl) (qJ KJ Kx (zs6 rfl (zf 5) (Xm zq) Xn) (vB (own:=["_law_part"]) (M:=jJ) (vD (by rfl)) rfl (vw rfl (xk2 rfl (zf 8) (Xm zq) Xn)) (λ_ _ _ _=>(zZ (i:=0) Wb rfl (lo rfl) q9)) (λ_ _ _ _=>(Xk (PWD.pt (qI (xR jv jn (zf 0) yV (wg _)) (qH (Ui (kn (wt Y_apart (L.mono q9) rfl (zc (xU xk xT (zf 0) zq (λ_ _=>rfl)) (zc (zf 3) zi)))))))))) (λ_ _ _ _=>(zf 0)))))
  (zF (yU (xR kB kw (xU xk xT (zf 8) zq (λ_ _=>rfl)) yV (wg _)) (zF (vc (i:=6) (zc (xU xk xT (xU xk xT (zf 8) zq (λ_ _=>rfl)) zq (λ_ _=>rfl)) zi) rfl)) wI)))))))
  (zx (yf (i:=5) vF.nd rfl (lo rfl) (Yy (N:=["_law_one","_law_kind_here","_law_house_here"]) (p := "_law_one") (clos:=[("_law_kind_here",s.heap.objs.size+3),("_law_house_here",s.heap.objs.size+1)]) (caps:=[3,0]) (k:=2) TI rfl T.sorted (L.mono q5) (zc (zf 5) zi) LB (Uz (by rfl) (zf8 rfl)) (Caps.two rfl rfl rfl rfl rfl rfl) (λA1 f1 c1 s1 H1 G1 Z1 L=>(wt Y_key (L.mono q9) rfl (zc (zf 2) (zc (zf 0) (zc (zf 1) zi)))))))
  (zF (jp 6 (xp (wf (zc (yq wH vn T.tuple vo (zc (zf 6) zi)) (zc (zf 7) (zc (yq wH vn T.tuple vo (zc (vB (own:=["_law_one"]) (M:=["_law_house_here","_law_tree_here","_law_plain_here","_law_kind_here","_law_k","_law_waits","_law_names","_law_looks","_law_one'"]) (vD (by rfl)) rfl (vw rfl (zf 5)) (λ_ _ _ _=>(zZ (i:=0) Wa rfl (lo rfl) q9)) (λ_ _ _ _=>yT) (λ_ _ _ _=>(xU xk xT (zf 0) zq (λ_ _=>rfl)))) zi)) zi)))))))))))) ?_
 generalize hP:XF (xg0 8 7 _) _=PX;generalize hS:xg3 6 _=Sr;generalize aB:XF (zc2 5 _) Sr=Fn;generalize hW:XF (xg3 5 _) _=Wl;rintro ds n R hl ⟨d,hs,o,pl,kd,k,rfl,au,aI,ap,am,hn,hz,hk,ay,ax,hR⟩;have nh:=vz d hs;have no:=qM o;have aC:xG (zT pl)=true:=rfl
 have fin:∀(F:EndsD) (q ws:List Qe) (acc:List Thing) (J:Nat) (z:Option D),F.rt=R->QOk d hs q->ws.Perm q->acc.length<=60->(∀rs:List Qe,rs.Perm q->rs.Pairwise (LtQ d kd)->R (.tup [.tup (acc.map λt=>.int t.1),.int J,Xx rs]) n) ->
   Fn F [some (wo d hs),some (vp o),some (zT pl),some (yZ kd),some (.int k),some (.lst (esQ ws)),some (.own (acc.map λt=>.int t.1)),some (.int J),z] n:=λF q ws acc J z hF ok hw aJ ht=>by
  subst aB;have ad:=ok.perm hw;simp;refine Va hn hz hk ad rfl rfl λrs p1 p2=>?_;subst hS;have ao:=(ad.perm p1).len60 hz;simp[hF]
  refine yN (λx:Qe=>yM x.2) (λx=>.tup ((wG x.2).map D.int)) rs (wS q5) (λx hx R' hR'=>?_) ?_
  ·have nx:=yX x.2;obtain⟨ta,tb,et,na,nb⟩:=vL x.2;simp[nx];rw[et];exact⟨_,0,_,.inr (.inl rfl),rfl,rfl,hR'⟩
  ·simp;exact ht rs (p1.trans hw) p2
 have Y:∀(xs:List (Option Tr)) (a4 a5 a6 a7 a8:Option D) (Q:D->Nat->Prop),xs.length<=60->(∀tr,some tr∈xs->∃ts,TreeOf d ts tr)->Q (.lst ((xs.filter (keepP pl)).map vp)) n ->
   Jx 1 (zf0 0) (xF1 (Jt (dOp zq9 (zF0 0) (dC D.non))) (xF0 (Jt (dFn 2 jL (za4 (dOp Zt (zF0 0) (dC (D.int 1))) (za4 (zF0 3) xq8)))))) (zF0 0) [some (wo d hs),some (vp o),some (zT pl),some (yZ kd),a4,a5,a6,a7,a8] Q (xs.map vp) n:=λxs a4 a5 a6 a7 a8 Q aD hx hQ=>by
  refine Wy vp _ vp xs (wS q5) (λz hz R' S' g1 g2=>?_) hQ
  have nz:=qM z
  cases z with
  |none=>
   simp[nz];rw[if_pos (show kE (vp none)=true from rfl)];exact g2 rfl
  | some tr =>
   obtain⟨ts,tt⟩:=hx tr hz
   have ni:kE (vp (some tr))=false:=by cases tr<;>rfl
   have ak:VC (kF tr):=by rw[tt.bd];exact Xw tt.ne
   have aA:(kF tr).length=d:=by rw[tt.bd,vV]
   have r1:∀R:D->Prop,R (zT (kF tr))->Zt (vp (some tr)) (.int 1) R:=λR h=>by
    obtain⟨ta,tb,et,na,nb⟩:=vL tr;show Zt (yM tr) _ _;rw[et];exact⟨_,1,_,.inr (.inl rfl),rfl,rfl,h⟩
   simp[nz]
   rw[if_neg (by rw[ni];simp)]
   refine r1 _ ⟨kF tr,pl,rfl,q5,q5,q5,ak,am,?_⟩
   cases ha:yn (kF tr) pl with
   |true=>
    simp
    exact g2 (by simp[keepP,ha])
   |false=>
    simp
    exact g1 (by simp[keepP,ha])
 have loop:∀(F:EndsD) (q0:List Qe),F.rt=R->q0=qU o hs pl k->(1<=k->DOk d hs kd pl q0 [])->(k=0->q0=[]) ->
   Wl F [some (wo d hs),some (vp o),some (zT pl),some (yZ kd),some (.int k),some (.own (esQ q0)),some (.own []),some (.int 0),none] n:=λF q0 hF aw h1 h0=>by
  subst hW;simp;refine⟨JLd d kd pl k n q0 (some (wo d hs)) (some (vp o)) (some (zT pl)) (some (yZ kd)),⟨yH q0,rfl,q0,q0,[],0,none,rfl,.refl _,.start,xq _,rfl⟩,?_⟩;rintro m rho n' ⟨rfl,q,ws,acc,J,z,rfl,hw,aa,aq,rfl⟩;have hD:1<=k->DOk d hs kd pl q acc:=λh=>aa.dok au ap (h1 h)
  have O:QOk d hs q:=by
   by_cases e:k=0
   ·subst e;obtain⟨_,e2,_⟩:=aa.zero
    rw[e2,h0 rfl];exact⟨by simp,by simp[yY],by simp[yY]⟩
   ·exact(hD q5).ok
  have ai:acc.length<=60:=by
   by_cases e:k=0
   ·lia
   ·have h2 := (hD q5).perm.length_eq
    have h3:(UH pl hs).length<=hs.length:=wB ..;rw[zu] at h2;lia
  have ad:QOk d hs ws:=O.perm hw;have ag:acc.length=k\/q=[]->∀rs:List Qe,rs.Perm q->rs.Pairwise (LtQ d kd)->R (.tup [.tup (acc.map λt=>.int t.1),.int J,Xx rs]) n':=λh rs p1 p2=>hR J q rs acc (aw ▸ aa) h.symm aq p1 p2;have aE:=hw.length_eq;simp
  by_cases ae:ws=[]
  ·have av : q = [] := by subst ae; exact hw.symm.eq_nil
   rw[if_pos (by rw[ae];rfl)]
   exact fin F q ws acc J z hF O hw ai (ag (.inr av))
  ·rw [if_neg (by intro e; exact ae (by unfold esQ at e; exact List.map_eq_nil_iff.mp e))]
   by_cases af:acc.length<k
   ·rw [if_pos af]
    have D0:=hD q5
    refine Va hn hz hk ad rfl rfl λrs p1 p2=>?_
    cases rs with
    |nil=>exact absurd p1.symm.eq_nil ae
    | cons x r =>
     have p3:(x::r).Perm q:=p1.trans hw
     have hx:x∈q:=p3.mem_iff.mp (by simp)
     have ah:∀y∈q,ltP (yR d kd y.1) (yR d kd x.1)=false:=λy hy=>by
      rcases zj.mp (p3.mem_iff.mpr hy) with rfl |hy
      ·exact QH _
      ·have h1 : ltP (yR d kd x.1) (yR d kd y.1) = true := (wF.mp p2).1 y hy
       cases c:ltP (yR d kd y.1) (yR d kd x.1) with
       |false=>rfl
       |true=>
        have:=Jc h1 c;rw[QH] at this;cases this
     have L:r.Perm (YS (λy:Qe=>yR d kd y.1) q (yR d kd x.1)):=(p3.trans (qK (f:=λy:Qe=>yR d kd y.1) hx (O.keys kd)).symm).cons_inv;have ao:=p3.length_eq;have aH:=O.len60 hz;rw[zJ] at ao
     have hsz:yW x.2+yH r=yH q:=by rw[<- qy p3];simp[yH]
     have aj:Ju (yM x.2::esQ r) (some 1) none=esQ r:=Xu (yM x.2::esQ r) 1 (by simp)
     have aG:(esQ r).length<=60:=by unfold esQ;rw[zg];lia
     rw[show esQ (x::r)=yM x.2::esQ r from rfl];obtain⟨ts,tr⟩:=x;have tt:TreeOf d ts tr:=O.tree _ hx;subst hP
     cases tt with
     |@one t ht=>
      have R1:=aa.leaf af hx ah;have nx:=yX (.one t.1 (ja d [t.2.1]));simp[nx];refine⟨_,rfl,?_⟩;dsimp only
      rw[show Ju [D.tup [.int t.1],zT (ja d [t.2.1]),.non,.non] (some 2) none=[none,none].map vp from Xu _ 2 (by simp)]
      refine Y [none,none] _ _ _ _ _ _ (by simp) (λtr h=>by simp at h) ?_
      rw[aj,show(([none,none]:List (Option Tr)).filter (keepP pl)).map vp=[] from rfl]
      refine⟨_,_,rfl,rfl,wS (by simp;lia),?_⟩
      refine⟨_,2,_,.inr (.inl rfl),rfl,rfl,?_⟩;simp
      refine⟨lt_size q5,_,0,_,.inr (.inl rfl),rfl,rfl,?_⟩
      refine⟨_,0,_,.inr (.inl rfl),rfl,rfl,?_⟩;have s1:yW (.one t.1 (ja d [t.2.1]))=1:=rfl;have hsz':1+yH r=yH q:=hsz
      refine⟨_,?_,rfl,_,r,acc++[t],J+1,_,rfl,L,R1,by rw[zu];simp;lia,by rw[zE];rfl⟩
      rw[<- qy L];lia
     |@two ts ls us ns lo hi p hp aF t1 t2=>
      have R1:=aa.opn af hx ah p t1 t2;have nx:=yX (.two ns (ja d (ts.map λt=>t.2.1)) lo hi);simp[nx];refine⟨_,rfl,?_⟩;dsimp only
      rw[show Ju [D.tup (ns.map D.int),zT (ja d (ts.map λt=>t.2.1)),yM lo,yM hi] (some 2) none=[some lo,some hi].map vp from Xu _ 2 (by simp)]
      refine Y [some lo,some hi] _ _ _ _ _ _ (by simp) (λtr h=>by simp at h;rcases h with rfl |rfl;exact⟨_,t1⟩;exact⟨_,t2⟩) ?_
      rw[aj];rw[zk1 pl ls us lo hi];have kl:(yL pl [(ls,lo),(us,hi)]).length<=2:=wB ..
      have nl:kE (yM lo)=false:=by cases lo<;>rfl
      refine⟨_,_,rfl,rfl,wS (by unfold esQ;rw[zg,zg];lia),?_⟩
      refine⟨_,2,_,.inr (.inl rfl),rfl,rfl,?_⟩;have s1:yW (.two ns (ja d (ts.map λt=>t.2.1)) lo hi)=1+yW lo+yW hi:=rfl;have s2:yH (yL pl [(ls,lo),(us,hi)])<=yH [(ls,lo),(us,hi)]:=Vc yJ
      have s3:yH [(ls,lo),(us,hi)]=yW lo+yW hi:=by simp[yH]
      have hsz':yW (.two ns (ja d (ts.map λt=>t.2.1)) lo hi)+yH r=yH q:=hsz;simp[nl]
      refine⟨_,?_,rfl,_,r++yL pl [(ls,lo),(us,hi)],acc,J+1,_,rfl,L.append_right _,R1,aq,by rw[show esQ (r++yL pl [(ls,lo),(us,hi)])=esQ r++esQ (yL pl [(ls,lo),(us,hi)]) from zE ..];rfl⟩
      rw[ZO,<- qy L];lia
   ·rw [if_neg af]
    exact fin F q ws acc J z hF O hw ai (ag (.inl q5))
 simp[startD,nh,no]
 cases o with
 |none=>
  rw[if_pos (show kE (vp none)=true from rfl)];exact loop _ [] rfl rfl (λ_=>.none (ay rfl)) λ_=>rfl
 | some tr =>
  have ni:kE (vp (some tr))=false:=by cases tr<;>rfl
  have tt:=ax tr rfl
  have ak:VC (kF tr):=by rw[tt.bd];exact Xw tt.ne
  have aA:(kF tr).length=d:=by rw[tt.bd,vV]
  have r1:∀R:D->Prop,R (zT (kF tr))->Zt (vp (some tr)) (.int 1) R:=λR h=>by
   obtain⟨ta,tb,et,na,nb⟩:=vL tr;show Zt (yM tr) _ _;rw[et];exact⟨_,1,_,.inr (.inl rfl),rfl,rfl,h⟩
  rw[if_neg (by rw[ni];simp)]
  by_cases ar:0<k
  ·rw [if_pos ar]
   refine r1 _ ⟨kF tr,pl,rfl,q5,q5,q5,ak,am,?_⟩
   have es:qU (some tr) hs pl k=yL pl [(hs,tr)]:=(if_neg q5:(if k=0 then [] else yL pl [(hs,tr)])=_)
   have dk:=fun(_:1<=k)=>DOk.start (kd:=kd) au ap tt hn
   have k0:k=0->yL pl [(hs,tr)]=[]:=λh=>by lia
   have l1:=loop { nx:=λx n=>R D.non n,rt:=R } (yL pl [(hs,tr)]) rfl es.symm dk k0
   cases ha:yn (kF tr) pl with
   |true=>
    have e:yL pl [(hs,tr)]=[]:=by unfold yL;rw[xo (by simp[ha])];rfl
    rw[e] at l1;simp;exact l1
   |false=>
    have e:yL pl [(hs,tr)]=[(hs,tr)]:=by unfold yL;rw[xj (by simp[ha])];rfl
    rw[e] at l1;simp
    exact⟨lt_size q5,l1⟩
  ·rw [if_neg ar]
   have e0:k=0:=q5
   exact loop _ [] rfl (if_pos e0:(if k=0 then [] else yL pl [(hs,tr)])=[]).symm (λh=>by lia) λ_=>rfl
end
section
variable {d:Nat}{hs:List Thing}{kd:QqO}{pl:List Pair}{k:Nat}{q0:List Qe}
def zL6(h1:ltP a b=false)(J:ltP b a=false):a=b:=by
 have i1:¬ (a.1<b.1\/(a.1=b.1/\a.2<b.2)):=λh=>by rw[kW.mpr h] at h1;cases h1
 have i2:¬ (b.1<a.1\/(b.1=a.1/\b.2<a.2)):=λh=>by rw[kW.mpr h] at J;cases J
 exact Prod.ext q5 q5
def ZU(ok:QOk d hs q)(ok':QOk d hs q')(J:(hs.map λt=>t.1).Nodup)(p:(q'.map λx=>x.2).Perm (q.map λx=>x.2))(hx:x∈q)(L:y∈q')
  (mx:∀z∈q,ltP (yR d kd z.1) (yR d kd x.1)=false) (Y:∀z∈q',ltP (yR d kd z.1) (yR d kd y.1)=false) :
  y.2=x.2/\((YS (λz:Qe=>yR d kd z.1) q' (yR d kd y.1)).map λx=>x.2).Perm ((YS (λz:Qe=>yR d kd z.1) q (yR d kd x.1)).map λx=>x.2):=by
 obtain⟨x',hx',ex⟩:=zk.mp (p.mem_iff.mpr (zk.mpr ⟨x,hx,rfl⟩));obtain⟨y',hy',ey⟩:=zk.mp (p.mem_iff.mp (zk.mpr ⟨y,L,rfl⟩))
 have kx:yR d kd x'.1=yR d kd x.1:=by rw[<- ok'.keyOf J hx',<- ok.keyOf J hx,show x'.2=x.2 from ex]
 have ky:yR d kd y'.1=yR d kd y.1:=by rw[<- ok.keyOf J hy',<- ok'.keyOf J L,show y'.2=y.2 from ey]
 have e:yR d kd y.1=yR d kd x.1:=zL6 (by rw[<- ky];exact mx y' hy') (by rw[<- kx];exact Y x' hx')
 have py:=qK (f:=λz:Qe=>yR d kd z.1) L (ok'.keys kd);have px:=qK (f:=λz:Qe=>yR d kd z.1) hx (ok.keys kd)
 have O:x'=y:=by
  rcases zj.mp (py.mem_iff.mpr hx') with h |h
  ·exact h
  ·have:=of_decide_eq_true (zy.mp h).2;exact absurd (kx.trans e.symm) this
 subst O;have ex':x'.2=x.2:=ex;refine⟨ex',?_⟩;have:=(py.map λx=>x.2).trans (p.trans (px.map λx=>x.2).symm);rw[zD,zD,ex'] at this;exact this.cons_inv
def Vp(a b:List Thing)(lo hi:Tr):(yL pl [(a,lo),(b,hi)]).map (λx=>x.2)=[lo,hi].filter λt=>!yn (kF t) pl:=by
 unfold yL
 cases h1:yn (kF lo) pl<;>cases J:yn (kF hi) pl<;>simp[h1,J]
def Reach.det(hd:1<=d)(L:pl.length=d)(hn:(hs.map λt=>t.1).Nodup)(h0:DOk d hs kd pl q0 []){n1:Nat}(R1:Reach d kd pl k q0 n1 q1 a1) :
  ∀{Y:Nat}{O:List Qe}{a2:List Thing},Reach d kd pl k q0 Y O a2->Y=n1->a2=a1/\(O.map λx=>x.2).Perm (q1.map λx=>x.2):=by
 induction R1 with
 |start=>
  intro Y O a2 R2 e
  cases R2 with
  |start=>exact⟨rfl,.refl _⟩
  |leaf _ _ _ _=>lia
  |opn _ _ _ _ _ _ _=>lia
 | @leaf n q acc t bd R aa hx hm ih =>
  intro Y O a2 R2 e;have D:=R.dok hd L h0
  cases R2 with
  |start=>lia
  |@leaf n' q' acc' t' bd' R' hlt' hx' hm'=>
   obtain⟨ea,J⟩:=ih R' q5
   subst ea;have D':=R'.dok hd L h0;obtain⟨e1,e2⟩:=ZU D.ok D'.ok hn J hx hx' hm hm'
   have et:t'.1=t.1:=by injection e1
   have h1:=(D.ok.sub1 hx).1 t (by simp)
   have h2:=(D'.ok.sub1 hx').1 t' (by simp)
   exact⟨by rw[zb5 hn h2 h1 et],e2⟩
  |opn R' hlt' hx' hm' _ _ _=>
   obtain⟨ea,J⟩:=ih R' q5
   have D':=R'.dok hd L h0;have:=(ZU D.ok D'.ok hn J hx hx' hm hm').1;cases this
 | @opn n q acc ts ls us ns bd lo hi R aa hx hm g1 g2 g3 ih =>
  intro Y O a2 R2 e;have D:=R.dok hd L h0
  cases R2 with
  |start=>lia
  |leaf R' hlt' hx' hm'=>
   obtain⟨ea,J⟩:=ih R' q5
   have D':=R'.dok hd L h0;have:=(ZU D.ok D'.ok hn J hx hx' hm hm').1;cases this
  |@opn n' q' acc' ts' ls' us' ns' bd' lo' hi' R' hlt' hx' hm' _ _ _=>
   obtain⟨ea,J⟩:=ih R' q5
   have D':=R'.dok hd L h0;obtain⟨e1,e2⟩:=ZU D.ok D'.ok hn J hx hx' hm hm';have e1':Tr.two ns' bd' lo' hi'=.two ns bd lo hi:=e1;injection e1' with _ _ e3 e4;subst e3 e4;refine⟨ea,?_⟩;rw[zE,zE,Vp,Vp];exact e2.append_right _
def Reach.pre{n:Nat}(R:Reach d kd pl k q0 n q a):∀m,m<=n->∃q' a',Reach d kd pl k q0 m q' a'/\(m<n->a'.length<k/\q'≠[]):=by
 have step:∀{n:Nat}{q:List Qe}{a:List Thing}{x:Qe},Reach d kd pl k q0 n q a->a.length<k->x∈q->(∀m,m<=n->∃q' a',Reach d kd pl k q0 m q' a'/\(m<n->a'.length<k/\q'≠[]))->∀m,m<=n->∃q' a',Reach d kd pl k q0 m q' a'/\(m<n+1->a'.length<k/\q'≠[]):=λ{n q a x} R h1 hx O m L=>by
  by_cases e:m=n
  ·subst e
   exact⟨q,a,R,λ_=>⟨h1,λz=>by rw[z] at hx;simp at hx⟩⟩
  ·obtain ⟨q', a', R', h⟩ := O m L
   exact⟨q',a',R',λ_=>h q5⟩
 induction R with
 |start=>
  intro m L
  obtain rfl:m=0:=q5
  exact⟨_,_,.start,λh=>by lia⟩
 |@leaf n q acc t bd R J hx L O=>
  intro m h
  by_cases e:m=n+1
  ·subst e;exact⟨_,_,.leaf R J hx L,λh=>by lia⟩
  ·exact step R J hx O m q5
 |@opn n q acc ts ls us ns bd lo hi R J hx L g1 g2 Y O=>
  intro m h
  by_cases e:m=n+1
  ·subst e;exact⟨_,_,.opn R J hx L g1 g2 Y,λh=>by lia⟩
  ·exact step R J hx O m q5
def Reach.one(hd:1<=d)(hp:pl.length=d)(hn:(hs.map λt=>t.1).Nodup)(h0:DOk d hs kd pl q0 []){J O:Nat}(Y:Reach d kd pl k q0 J q1 a1)(R2:Reach d kd pl k q0 O L a2)
  (f1:q1=[]\/a1.length=k) (f2:L=[]\/a2.length=k):a2=a1/\(L.map λx=>x.2).Perm (q1.map λx=>x.2):=by
 have no:∀{J O:Nat}{q1 L:List Qe}{a1 a2:List Thing},Reach d kd pl k q0 J q1 a1->Reach d kd pl k q0 O L a2->(q1=[]\/a1.length=k)->¬ J<O:=λ{J O q1 L a1 a2} Y R2 f1 hl=>by
  obtain⟨q',a',R',h⟩:=R2.pre J (yv hl);obtain⟨h1,h2⟩:=h hl;obtain⟨e1,e2⟩:=Y.det hd hp hn h0 R' rfl;subst e1
  rcases f1 with rfl |f1
  ·have:=e2.length_eq;simp at this;exact h2 this
  ·lia
 have:=no Y R2 f1;have:=no R2 Y f2
 exact Y.det hd hp hn h0 R2 q5
end
def ZR(ws:List Qe):List (List Int):=ws.map λx=>wG x.2
def WY(ws:List Qe):Xx ws=.tup ((ZR ws).map jR):=by
 unfold Xx ZR;rw[zQ];rfl
def QOk.rows{d:Nat}(ok:QOk d hs q)(L:(hs.map λt=>t.1).Nodup):(ZR q).Nodup:=by
 have h:=ok.heads;unfold ZR;rw[xM,xE] at h ⊢;refine List.Pairwise.imp_of_mem (λ{a b} ha hb J e=>J ?_) h;have i1:=ok.keyOf (kd:=none) L ha;have i2:=ok.keyOf (kd:=none) L hb
 have Y:kT d none hs a.2=kT d none hs b.2:=by
  unfold kT ofN;rw[e]
 have O:yR d none a.1=yR d none b.1:=by rw[<- i1,<- i2,Y]
 exact congrArg Prod.snd O
def zk8(p:List Int)(w:Str):D:=.tup [.tup (p.map D.int),.str w]
open Classical in
noncomputable def jU(pl:List Pair)(W:QqI):List Int->Tr->List D
 |p,.one x bd=>if yn bd pl=true then [qR (p,some ((qf bd pl).getD 0))] else if [x]∈W then [zk8 p "far"] else [zk8 p "in"]
 |p,.two ns bd lw hg=>if yn bd pl=true then [qR (p,some ((qf bd pl).getD 0))] else if ns∈W then [zk8 p "far"] else jU pl W (p++[0]) lw++jU pl W (p++[1]) hg
theorem Ws(h:∀x,x∈W↔x∈W'):∀(t:Tr) (p:List Int),jU pl W p t=jU pl W' p t
 |.one x bd,p=>by unfold jU;simp only[h]
 |.two ns bd lw hg,p=>by
  unfold jU;rw[Ws h lw,Ws h hg];simp only[h]
theorem Wr:∀(t:Tr) (p:List Int),(jU pl W p t).length<=yW t
 |.one x bd,p=>by
  unfold jU yW
  split
  ·simp
  ·split<;>simp
 | .two ns bd lw hg, p => by
  have h1:=Wr (pl:=pl) (W:=W) lw (p++[0]);have J:=Wr (pl:=pl) (W:=W) hg (p++[1]);unfold jU yW
  split
  ·simp;lia
  ·split
   ·simp;lia
   ·rw[zu];lia
def zz9(ha:yn (kF t) pl=true):jU pl W p t=[qR (p,some ((qf (kF t) pl).getD 0))]:=by
 cases t<;>(unfold jU;exact if_pos ha)
def zA1(ha:yn (kF t) pl=false)(J:wG t∈W):jU pl W p t=[zk8 p "far"]:=by
 have ha':¬ yn (kF t) pl=true:=by rw[ha];simp
 cases t<;>(unfold jU;exact(if_neg ha').trans (if_pos J))
def zA0{x:Int}(ha:yn bd pl=false)(J:[x] ∉ W):jU pl W p (.one x bd)=[zk8 p "in"]:=by
 unfold jU
 exact(if_neg (by rw[ha];simp)).trans (if_neg J)
def zz8(ha:yn bd pl=false)(J:ns ∉ W):jU pl W p (.two ns bd lw hg)=jU pl W (p++[0]) lw++jU pl W (p++[1]) hg:=by
 conv=>lhs;unfold jU
 exact(if_neg (by rw[ha];simp)).trans (if_neg J)
theorem UI:∀(t:Tr) (p:List Int),∀x∈jU pl W p t,(∃p':List Int,p'.length<=p.length+qb t/\(∀i∈p',i∈p\/i=0\/i=1)/\((∃k,x=qR (p',some k)/\k<=(2*pl.length))\/x=zk8 p' "far" \/ x=zk8 p' "in"))
 | t, p, x, hx => by
  have O:∀bd:List Pair,(qf bd pl).getD 0<=2*pl.length:=λbd=>by
   cases e:qf bd pl with
   |none=>exact xq _
   |some k=>
    unfold qf at e;have:=xV.mp (List.mem_of_find?_eq_some e);exact yv this
  have here:∀y∈p,y∈p\/y=0\/y=1:=λy Y=>.inl Y
  cases t with
  | one z bd =>
   unfold jU at hx
   refine⟨p,q5,here,?_⟩
   split at hx
   ·rw[zB.mp hx];exact .inl ⟨_,rfl,O _⟩
   ·split at hx
    ·rw[zB.mp hx];exact .inr (.inl rfl)
    ·rw[zB.mp hx];exact .inr (.inr rfl)
  | two ns bd lw hg =>
   unfold jU at hx
   split at hx
   ·rw[zB.mp hx];exact⟨p,q5,here,.inl ⟨_,rfl,O _⟩⟩
   ·split at hx
    ·rw[zB.mp hx];exact⟨p,q5,here,.inr (.inl rfl)⟩
    ·have aa : qb (.two ns bd lw hg) = 1 + max (qb lw) (qb hg) := rfl
     rcases xi.mp hx with hx |hx
     ·obtain ⟨p', h1, L, J⟩ := UI lw (p ++ [0]) x hx
      refine⟨p',by rw[zu] at h1;simp at h1;lia,λi hi=>?_,J⟩
      rcases L i hi with h |h
      ·rcases xi.mp h with h | h
       ·exact .inl h
       ·exact .inr (.inl (zB.mp h))
      ·exact .inr h
     ·obtain ⟨p', h1, L, J⟩ := UI hg (p ++ [1]) x hx
      refine⟨p',by rw[zu] at h1;simp at h1;lia,λi hi=>?_,J⟩
      rcases L i hi with h |h
      ·rcases xi.mp h with h | h
       ·exact .inl h
       ·exact .inr (.inr (zB.mp h))
      ·exact .inr h
def zl1{own:Nat}{n:Nat}(ks:QqI)(hz:ks.length<=sizeLine)(nd:ks.Nodup)
  (he:∀k∈ks,∀S:D->D->Nat->Prop,S (jR k) (.bl true) n->g (jR k) (replicate own none++rho) λrho'=>rho'.drop own=rho/\tk rho' n λO n3=>tv rho' n3 λL J=>S O L J)
  (hP:P ks (ks.map λ_=>.bl true) n):Xs own g xd7 tk tv rho P (ks.map jR) n:=by
 refine⟨by rw[zg];exact hz,λi ks' es n'=>n'=n/\ks'=ks.take i/\es=(ks.take i).map λ_=>.bl true,⟨rfl,rfl,rfl⟩,?_,?_⟩
 ·rintro i d ks' es n' e ⟨rfl, rfl, rfl⟩;rw[zw] at e
  cases ex:ks[i]? with
  |none=>rw[ex] at e;cases e
  | some x =>
   rw[ex] at e;cases e
   have hs:ks.take (i+1)=ks.take i++[x]:=by rw[xm,ex];rfl
   have hx:x ∉ ks.take i:=by
    have Y:(ks.take i++[x]).Nodup:=by rw[<- hs];exact(yA ..).nodup nd
    rw[wM] at Y
    exact λhm=>Y.2.2 _ hm _ (by simp) rfl
   exact he x (zM ex) (λO L J=>∃k,O=jR k/\k ∉ ks.take i/\J=n'/\ks.take i++[k]=ks.take (i+1)/\((ks.take i).map λ_=>D.bl true)++[L]=(ks.take (i+1)).map λ_=>.bl true)
    ⟨x,rfl,hx,rfl,hs.symm,by rw[hs,zE];rfl⟩
 ·rintro ks' es n' ⟨rfl,rfl,rfl⟩;rw[zg,xY];exact hP
def xc2(W:QqI):D:=.dcL W (W.map λ_=>.bl true)
def zv1(W:QqI):xG (xc2 W)=true:=id rfl
noncomputable def Kt(pl:List Pair)(W:QqI)(stk:List (List Int × Tr)):List D:=stk.reverse.flatMap λx=>jU pl W x.1 x.2
def Yu(pl:List Pair)(W:QqI)(stk:List (List Int × Tr))(x:List Int × Tr):Kt pl W (stk++[x])=jU pl W x.1 x.2++Kt pl W stk:=by
 unfold Kt;rw[List.reverse_append,List.reverse_singleton,List.singleton_append,List.flatMap_cons]
structure JPf(pl:List Pair)(W:QqI)(d N n:Nat)(total:List D)(t0:Option D)(m:Nat)(rho:Rho)(n':Nat):Prop where
 e:n'=n
 r:∃(acc:List D) (stk:List (List Int × Tr)) (z1 z2 z3 z4 z5:Option D),m=vI stk/\(∀x∈stk,∃ts,TreeOf d ts x.2)/\(∀x∈stk,x.1.length+qb x.2<=N)/\acc++Kt pl W stk=total/\acc.length+vI stk<=N/\stk.length<=N /\
  rho=[t0,some (zT pl),some (xc2 W),some (.own acc),some (.own (stk.map ZC)),z1,z2,z3,z4,z5]
def JPf.mk2{d N n:Nat}{m:Nat}(acc:List D)(stk:List (List Int × Tr))(J:m=vI stk)(h1:∀x∈stk,∃ts,TreeOf d ts x.2)(h2:∀x∈stk,x.1.length+qb x.2<=N)(h3:acc++Kt pl W stk=total)(h4:acc.length+vI stk<=N)(Y:stk.length<=N)
  (O:A=acc) (L:B=stk.map ZC):JPf pl W d N n total t0 m [t0,some (zT pl),some (xc2 W),some (.own A),some (.own B),z1,z2,z3,z4,z5] n:=by
 subst O L;exact⟨rfl,_,stk,z1,z2,z3,z4,z5,J,h1,h2,h3,h4,Y,rfl⟩
section
variable {P:Program}{w:World}{K:W.Frag}{mg:QqM}{base:Heap}{f:Addr}{fd:FuncData}
abbrev Yr:Stmt:=top 28
abbrev YH:List Str:=["tree","waiting","k"]
def Ql:FnScope YH xC2 (zW Yr):=⟨rfl,rfl,rfl,w5,rfl,w5,w5⟩
def Ut:("row" :: YH:List Str).Nodup:=w5
def Yi:TF:=λds n Q=>∃(tr:Tr) (W:QqI) (k:Nat),ds=[yM tr,.tup (W.map jR),.int k]/\W.Nodup/\W.length<=900/\Q (xc2 (if k=0 then [wG tr] else W)) n
def QA(F:Fun K "far_rows" "far_rows" Yr f fd):FnOk P w K mg base CX0 1 f fd xC2 (spD K 3 Yi):=by
 refine Fun.okD F Ql (λaa A0 outer s H E G Z hr=>(zF (xp (zt0 hr rfl (own:=["row"]) (M:=YH) (vD (by rfl)) rfl (vw rfl (Um (xR WJ WH (zf 2) zq (wg _)) (vg (zc (xU xk xT (zf 0) zq (λ_ _=>rfl)) zi)) (zf 1))) (λC J H2 fp=>(zZ (i:=0) Ut rfl (lo rfl) q9)) (λC J H2 fp=>yT) (λC J H2 fp=>(zf 0)) (λC J H2 fp=>YY))))) ?_
 rintro ds n Q hl ⟨tr,W,k,rfl,hW,hz,q⟩;have nt:=yX tr
 have go:∀ks:List (List Int),ks.Nodup->ks.length<=900->Q (xc2 ks) n->∀Y O L:Option D,Xs 1 (zf0 0) xd7 (zF0 0) (dC (.bl true)) [Y,O,L] (λks es n1=>Q (.dcL ks es) n1) (ks.map jR) n:=λks h1 h2 h3 Y O L=>by
  refine zl1 ks (wS q5) h1 (λk hk S hS=>?_) h3
  simp[jR];exact hS
 obtain⟨ta,tb,et,na,nb⟩:=vL tr
 have r0:∀R:D->Prop,R (jR (wG tr))->Zt (yM tr) (.int 0) R:=λR h=>by rw[et];exact⟨_,0,_,.inr (.inl rfl),rfl,rfl,h⟩
 simp[startD,nt]
 by_cases h0:k=0
 ·rw [if_pos h0] at q
  rw[if_pos q5]
  exact r0 _ (go [wG tr] (by simp) (by simp) q _ _ _)
 ·rw [if_neg h0] at q
  rw[if_neg q5]
  exact go W hW hz q _ _ _
abbrev Yo:Stmt:=top 29
abbrev zm3:List Str:=["tree","plain","far","parts","waiting","path","names","limits","low","high"]
def vA:FnScope zm3 ["tree","plain","far"] (zW Yo):=⟨rfl,rfl,rfl,w5,rfl,w5,w5⟩
def Yg:TF:=λds n Q=>∃(tr:Tr) (pl:List Pair) (W:QqI) (d:Nat),ds=[yM tr,zT pl,xc2 W]/\pl.length=d/\1<=d/\d<=400/\yc pl=pl/\W.Nodup/\(∃ts,TreeOf d ts tr)/\yW tr<=500/\Q (.tup (jU pl W [] tr)) n
def Qy(T:Blt mg)(F:Fun K "parts_of" "parts_of" Yo f fd)(F_lie_apart:Fn P w K mg base "lie_apart" 4 2 qv)(F_out_part:Fn P w K mg base "out_part" 4 3 zo5):FnOk P w K mg base CX0 5 f fd ["tree","plain","far"] (spD K 3 Yg):=by
 refine Fun.okD F vA (λay A0 outer s H E G Z hr=>(zx (Yx (i:=3) vA.nd rfl (lo rfl) zi)
  (zx (Yx (i:=4) vA.nd rfl (lo rfl) (zc (wf (zc (wf zi) (zc (zf 0) zi))) zi))
  (zx (XJ PassesOwn.never (xR YZ YX (ZV (i:=4) T.len rfl) zq (wg _))
  (zx (zW4 (i:=4) (m:=10) rfl (vy (k:=2) rfl rfl (xn (zZ (i:=5) vA.nd rfl (lo rfl) q9) (xn (vy (k:=4) rfl rfl (xn (zZ (i:=6) vA.nd rfl (lo rfl) q9) (xn (zZ (i:=7) vA.nd rfl (lo rfl) q9) (xn (zZ (i:=8) vA.nd rfl (lo rfl) q9) (xn (zZ (i:=9) vA.nd rfl (lo rfl) q9) vb))))) vb))))
  (zF (yU (kn (wt F_lie_apart (hr.mono q9) rfl (zc (zf 7) (zc (zf 1) zi)))) (zF (vc (i:=3) (zc (wt F_out_part (hr.mono q9) rfl (zc (zf 5) (zc (zf 7) (zc (zf 1) zi)))) zi) rfl)) (zF (yU (xR (zY2 hr) (zV3 rfl) (zf 6) (zf 2) (by with_unfolding_all rfl)) (zF (vc (i:=3) (zc (wf (zc (zf 5) (zc qW zi))) zi) rfl)) (zF (yU (xR WJ WH (xZ wE kC T.len vZ (zc (zf 6) zi)) zq (wg _)) (zF (vc (i:=3) (zc (wf (zc (zf 5) (zc qW zi))) zi) rfl)) (zx (vc (i:=4) (zc (wf (zc (qJ qL Zs (zf 5) (wf (zc zq zi))) (zc (zf 9) zi))) zi) rfl)
  (zF (vc (i:=4) (zc (wf (zc (qJ qL Zs (zf 5) (wf (zc zq zi))) (zc (zf 8) zi))) zi) rfl)))))))))))
  (zF (jp 3 (xp (yq wH vn T.tuple vo (zc (zf 3) zi))))))))) ?_
 generalize hB:XF (xw0 4 _) _=B;rintro ds n Q hl ⟨tr,pl,W,d,rfl,aq,aw,av,ah,hW,hT,hsz,q⟩;have nt:=yX tr;have af:xG (zT pl)=true:=rfl;have nf:=zv1 W;simp[startD,nt,af,nf]
 refine⟨JPf pl W d 1000 n (jU pl W [] tr) (some (yM tr)),⟨yW tr,rfl,[],[([],tr)],none,none,none,none,none,by simp[vI],by simpa using hT,?_,?_,?_,by simp,rfl⟩,?_⟩
 ·intro x hx;rw[zB.mp hx];have:=qt tr;simp;lia
 ·simp[Kt]
 ·simp[vI];lia
 ·rintro m rho n' ⟨rfl, acc, stk, z1, z2, z3, z4, z5, rfl, ad, ae, J, Y, ag, rfl⟩;subst hB;simp
  split
  ·rename_i aa
   have hpos':stk≠[]:=by
    rintro rfl;simp at aa
   obtain⟨stk,⟨p,t⟩,rfl⟩:∃s x,stk=s++[x]:=⟨stk.dropLast,stk.getLast hpos',(List.dropLast_concat_getLast hpos').symm⟩
   obtain⟨ts,al⟩:=ad (p,t) (by simp)
   have aj:=ae (p,t) (by simp)
   rw[Yu] at J;rw[kH] at Y ⊢;dsimp only at Y aj
   refine⟨stk.map ZC,ZC (p,t),by rw[zE];rfl,?_⟩
   have l1:1<=yW t:=by have:=qt t;lia
   have ai:vI stk<vI stk+yW t:=q5
   have L:acc.length<sizeLine:=lt_size q5
   obtain⟨ta,tb,et,na,ak⟩:=vL t;have htr':TreeOf d ts t:=al
   have ax:(kF t).length=d:=by rw[htr'.bd,vV]
   have hE:VC (kF t):=by rw[htr'.bd];exact Xw htr'.ne
   have done:∀(x:D) (z1 z2 z3 z4 z5:Option D),jU pl W p t=[x]->∃x_1,x_1<vI stk+yW t/\JPf pl W d 1000 n' (jU pl W [] tr) (some (yM tr)) x_1 [some (yM tr),some (zT pl),some (xc2 W),some (.own (acc++[x])),some (.own (stk.map ZC)),z1,z2,z3,z4,z5] n':=λx z1 z2 z3 z4 z5 h=>by
    refine⟨vI stk,ai,JPf.mk2 (acc++[x]) stk rfl (λy O=>ad y (by simp[O])) (λy O=>ae y (by simp[O])) ?_ (by rw[zu];simp;lia) (by simp at ag;lia) rfl rfl⟩
    have hacc':acc++(jU pl W p t++Kt pl W stk)=jU pl W [] tr:=J;rw[<- hacc',h,yC]
   simp[ZC,et,af,nf,na,ak]
   refine⟨kF t,pl,rfl,q5,q5,q5,?_⟩
   cases ha:yn (kF t) pl with
   |true=>
    obtain⟨k,hk⟩:=WE q5 q5 hE ah ha
    simp
    refine⟨L,p,kF t,pl,k,rfl,q5,q5,hE,hk,?_⟩
    exact done _ _ _ _ _ _ (by rw[zz9 ha,hk];rfl)
   | false =>
    simp
    refine⟨W,_,wG t,rfl,rfl,hW,by simp,?_⟩
    by_cases hm:wG t∈W
    ·rw[xh hm];simp;exact⟨L,done _ _ _ _ _ _ (zA1 ha hm)⟩
    ·rw [zN hm];simp
     cases t with
     |one x bd=>
      rw[if_pos (by rfl)]
      exact⟨L,done _ _ _ _ _ _ (zA0 ha hm)⟩
     | two ns bd lw hg =>
      obtain⟨rfl,rfl⟩:ta=yM lw/\tb=yM hg:=by
       unfold yM at et;injection et with e1;injection e1 with _ e1;injection e1 with _ e1;injection e1 with e2 e1;injection e1 with e3 _;exact⟨e2.symm,e3.symm⟩
      obtain⟨ar,⟨ls,am⟩,⟨us,ao⟩⟩:ns.length≠1/\(∃ls,TreeOf d ls lw)/\∃us,TreeOf d us hg:=by
       cases htr' with
       |two p1 p2 _ t1 t2=>
        have e1:=p1.length_eq;have e2:=p2.length_eq;rw[zu] at e1;rw[zg] at e2;have:=t1.ne;have:=t2.ne
        exact⟨q5,⟨_,t1⟩,⟨_,t2⟩⟩
      have au:p.length+1+qb lw<=1000/\p.length+1+qb hg<=1000:=by
       have hdt':p.length+(1+max (qb lw) (qb hg))<=1000:=aj;lia
      have ap:=zc1 stk
      have l2:1<=yW lw:=by have:=qt lw;lia
      have l3:1<=yW hg:=by have:=qt hg;lia
      have hsum':acc.length+(vI stk+(1+yW lw+yW hg))<=1000:=Y
      rw[if_neg (by show ¬ ((ns.length:Int)=1);lia)]
      refine⟨lt_size q5,wS q5,lt_size q5,wS q5,vI stk+yW hg+yW lw,by show _<vI stk+(1+yW lw+yW hg);lia,JPf.mk2 acc (stk++[(p++[1],hg)]++[(p++[0],lw)]) ?_ (λy O=>?_) (λy O=>?_) ?_ ?_ ?_ rfl ?_⟩
      ·rw[kH,kH]
      ·simp at O
       rcases O with O |rfl |rfl
       ·exact ad y (by simp[O])
       ·exact⟨_,ao⟩
       ·exact⟨_,am⟩
      ·simp at O
       rcases O with O |rfl |rfl
       ·exact ae y (by simp[O])
       ·simp;lia
       ·simp;lia
      ·rw[<- J,Yu,Yu];have ft:=zz8 (p:=p) (lw:=lw) (hg:=hg) (show yn bd pl=false from ha) (show ns ∉ W from hm);dsimp only;rw[ft];simp
      ·rw[kH,kH];simp;lia
      ·simp;lia
      ·rw[zE,zE];simp[ZC]
  ·rename_i aa
   have hs:stk=[]:=by
    cases stk with
    |nil=>rfl
    |cons a b=>simp at aa
   subst hs;simp[Kt] at J;rw[J];exact q
end
def zG3:TF:=λ_ _ _=>False
def PaperIs(d:Nat)(hs:List Thing)(kd:QqO)(pl:List Pair)(k:Nat):Option Tr->D->Prop
 |none,r=>r=.tup [.tup [],.tup []]
 |some tr,r=>∃(n':Nat) (q rs:List Qe) (acc:List Thing),Reach d kd pl k (qU (some tr) hs pl k) n' q acc/\(q=[]\/acc.length=k)/\rs.Perm q /\
  r=.tup [.tup (acc.map λt=>.int t.1),.tup (jU pl (if k=0 then [wG tr] else ZR rs) [] tr)]
section
variable {d:Nat}{hs:List Thing}{kd:QqO}{pl:List Pair}{k:Nat}
def ZN(hd:1<=d)(J:pl.length=d)(L:(hs.map λt=>t.1).Nodup)(ht:TreeOf d hs tr)(hk:k≠0):DOk d hs kd pl (qU (some tr) hs pl k) []:=by
 show DOk d hs kd pl (if k=0 then [] else yL pl [(hs,tr)]) []
 rw[if_neg hk];exact .start hd J ht L
def zc7(hd:1<=d)(J:pl.length=d)(L:(hs.map λt=>t.1).Nodup)(ht:TreeOf d hs tr){n':Nat}(R:Reach d kd pl k (qU (some tr) hs pl k) n' q acc):QOk d hs q:=by
 by_cases e:k=0
 ·subst e;obtain⟨_,O,_⟩:=R.zero
  rw[O,show qU (some tr) hs pl 0=[] from(if_pos rfl:(if 0=0 then [] else yL pl [(hs,tr)])=[])]
  exact⟨by simp,by simp[yY],by simp[yY]⟩
 ·exact(R.dok hd J (ZN hd J L ht e)).ok
def PaperIs.one(hd:1<=d)(Y:pl.length=d)(hn:(hs.map λt=>t.1).Nodup)(ho:∀tr,o=some tr->TreeOf d hs tr)(h:PaperIs d hs kd pl k o r)(h':PaperIs d hs kd pl k o r'):r'=r:=by
 cases o with
 |none=>exact(show r'=_ from h').trans (show r=_ from h).symm
 | some tr =>
  have ht:=ho tr rfl;obtain⟨n1,q1,L,a1,R1,f1,p1,rfl⟩:=h;obtain⟨n2,q2,J,a2,R2,f2,p2,rfl⟩:=h'
  by_cases e:k=0
  ·subst e;obtain⟨_,_,z1⟩:=R1.zero;obtain⟨_,_,z2⟩:=R2.zero;rw[z1,z2,if_pos rfl,if_pos rfl]
  ·obtain ⟨e1, e2⟩ := R1.one hd Y hn (ZN hd Y hn ht e) R2 f1 f2;rw[e1,if_neg e,if_neg e]
   have hm:∀x,x∈ZR J↔x∈ZR L:=λx=>by
    have O:((J.map λx=>x.2).map wG).Perm ((L.map λx=>x.2).map wG):=(((p2.map λx=>x.2).trans e2).trans (p1.map λx=>x.2).symm).map wG;rw[zQ,zQ] at O;exact O.mem_iff
   rw[Ws hm]
end
section
variable {P:Program}{w:World}{K:W.Frag}{mg:QqM}{base:Heap}{f:Addr}{fd:FuncData}
abbrev qB:Stmt:=top 30
abbrev UT:List Str:=["house","tree","box","kind","k","names","looks","waiting"]
def kg:FnScope UT qZ3 (zW qB):=⟨rfl,rfl,rfl,w5,rfl,w5,w5⟩
def VH:TF:=λds n R=>∃(d:Nat) (hs:List Thing) (o:Option Tr) (b:List Ka) (kd:QqO) (k:Nat),ds=[wo d hs,vp o,vq b,yZ kd,.int k]/\1<=d/\d<=4/\b.length=d/\(hs.map λt=>t.1).Nodup/\hs.length<=60/\(∀p,kd=some p->p.length<=1000) /\
 (o=none->hs=[])/\(∀tr,o=some tr->TreeOf d hs tr)/\zh0 d kd hs/\∀r,PaperIs d hs kd (vf b) k o r->R r n
def zK2(F:Fun K "drawn_paper" "drawn_paper" qB f fd)(F_plain_box:Fn P w K mg base "plain_box" 3 1 qu)(F_drawn:Fn P w K mg base "drawn" 8 5 Qd)(F_far_rows:Fn P w K mg base "far_rows" 1 3 Yi)(F_parts_of:Fn P w K mg base "parts_of" 5 3 Yg):FnOk P w K mg base CX0 9 f fd qZ3 (spD K 5 VH):=by
 refine Fun.okD F kg (λag A0 outer s H E G Z hr=>(zx (yU (xR kB kw (zf 1) yV (wg _)) (zF (xp (wf (zc (wf zi) (zc (wf zi) zi))))) wI)
  (zx (jo (m:=8) (wt F_drawn (hr.mono q9) rfl (zc (zf 0) (zc (zf 1) (zc (zf 2) (zc (zf 3) (zc (zf 4) zi)))))) (vy (k:=3) rfl rfl (xn (zZ (i:=5) kg.nd rfl (lo rfl) q9) (xn (zZ (i:=6) kg.nd rfl (lo rfl) q9) (xn (zZ (i:=7) kg.nd rfl (lo rfl) q9) vb)))))
  (zF (xp (wf (zc (zf 5) (zc (wt F_parts_of (hr.mono q9) rfl (zc (zf 1) (zc (wt F_plain_box (hr.mono q9) rfl (zc (zf 2) zi)) (zc (wt F_far_rows (hr.mono q9) rfl (zc (zf 1) (zc (zf 7) (zc (zf 4) zi)))) zi)))) zi)))))))) ?_
 rintro ds n R hl ⟨d,hs,o,b,kd,k,rfl,L,af,hb,hn,hz,hk,ae,Y,hH,hR⟩;have nh:=vz d hs;have no:=qM o;have nb:xG (vq b)=true:=rfl;simp[startD,nh,nb,no]
 cases o with
 |none=>
  rw[if_pos (show kE (vp none)=true from rfl)];exact hR _ rfl
 | some tr =>
  have ni:kE (vp (some tr))=false:=by cases tr<;>rfl
  rw[if_neg (by rw[ni];simp)]
  have O:(vf b).length=d:=by rw[jM];exact hb
  have tt:=Y tr rfl
  refine⟨d,hs,some tr,b,kd,k,rfl,L,q5,hb,hn,hz,hk,ae,Y,hH,λn' q rs acc r1 r2 r3 r4 r5=>?_⟩
  have ok:=(zc7 L O hn tt r1).perm r4;have J:=ok.rows hn
  have ad:(ZR rs).length<=900:=by unfold ZR;rw[zg];have:=ok.len60 hz;lia
  have nw:xG (Xx rs)=true:=rfl
  have nf:=zv1 (if k=0 then [wG tr] else ZR rs)
  simp[nw,nb,no]
  refine⟨b,rfl,q5,?_⟩
  have aa:xG (zT (vf b))=true:=rfl;simp[nw,nb,no,aa]
  refine⟨tr,ZR rs,k,by rw[WY];rfl,J,ad,?_⟩
  simp[nf]
  refine⟨tr,vf b,_,d,rfl,O,L,q5,ZT b,?_,⟨_,tt⟩,by have:=tt.size;lia,?_⟩
  ·split
   ·simp
   ·exact J
  ·exact hR _ ⟨n',q,rs,acc,r1,r2,r4,rfl⟩
def VS:TF:=λds n Q=>∃(tr:Tr) (pl:List Pair) (p:List Int),ds=[yM tr,zT pl,.tup (p.map D.int)]/\(kF tr).length=pl.length/\1<=pl.length/\pl.length<=400/\yc pl=pl/\VC (kF tr)/\yn (kF tr) pl=true/\Q (.lst [qR (p,some ((qf (kF tr) pl).getD 0))]) n
def zu6(T:Blt mg)(F:Fun K "_law_parts" "_law_parts" ji f fd)(hm:mg "_law_parts" = some (.ref f))(hk:W.keepIn K (.ref f)=true)(hb:Binds K fd ["_law_tree_here","_law_plain_here","_law_path"] [])(Y_apart:Fn P w K mg base "_law_apart" 2 2 jL)(Y_beyond:Fn P w K mg base "_law_beyond" 1 4 ZM)(Y_inside:Fn P w K mg base "_law_inside" 1 2 zG3):FnOk P w K mg base CX0 3 f fd xC5 (spD K 3 VS):=by
 have Y_parts:Fn P w K mg base "_law_parts" 2 3 zG3:=⟨f,fd,_,FnOk.botK λ_ _ _ h=>h,hm,hk,hb⟩
 refine Fun.okD F ZQ (λaf A0 outer s H E G Z O=>(zx (yU (kn (wt Y_apart (O.mono q5) rfl (zc (xU xk xT (zf 0) zq (λ_ _=>rfl)) (zc (zf 1) zi)))) (zx (yf (i:=3) ZQ.nd rfl (lo rfl) (zs8 rfl (vB (own:=["_law_k"]) (M:=["_law_tree_here","_law_plain_here","_law_path","_law_k'"]) (vD (by rfl)) rfl (kQ T.range (zc (jY zq (xZ wE kC T.len vZ (zc (zf 1) zi))) zi)) (λ_ _ _ _=>(zZ (i:=0) XX rfl (lo rfl) q9)) (λ_ _ _ _=>yT) (λ_ _ _ _=>(wt Y_beyond (O.mono q5) rfl (zc (xU xk xT (zf 1) zq (λ_ _=>rfl)) (zc (zf 2) (zc (Vh (zf 0) zq) (zc (qX (zf 0) zq) zi)))))))))
  (zF (xp (vg (zc (wf (zc (zf 2) (zc qW (zc (Vh (zf 3) zq) (zc (qX (zf 3) zq) zi))))) zi))))) wI)
  (zx (yU (kn (wt Y_inside (O.mono q5) rfl (zc (xU xk xT (zf 0) zq (λ_ _=>rfl)) (zc (zf 1) zi)))) (zF (xp (vg (zc (wf (zc (zf 2) (zc qW zi))) zi)))) wI)
  (zF (xp (qJ KJ Kx (wt Y_parts O rfl (zc (xU xk xT (zf 0) zq (λ_ _=>rfl)) (zc (zf 1) (zc (qJ qL Zs (zf 2) (wf (zc zq zi))) zi)))) (wt Y_parts O rfl (zc (xU xk xT (zf 0) zq (λ_ _=>rfl)) (zc (zf 1) (zc (qJ qL Zs (zf 2) (wf (zc zq zi))) zi)))))))))) ?_
 generalize hS:XF (sIf (Jt (dFn 2 zG3 _)) _ _) _=Sr;rintro ds n Q hl ⟨tr,pl,p,rfl,J,ae,ad,L,hE,ha,q⟩;obtain⟨ta,tb,et,na,aa⟩:=vL tr;have nt:=yX tr
 have r1:∀R:D->Prop,R (zT (kF tr))->Zt (yM tr) (.int 1) R:=λR h=>by rw[et];exact⟨_,1,_,.inr (.inl rfl),rfl,rfl,h⟩
 simp[startD,nt]
 refine r1 _ ⟨_,_,rfl,J,q5,q5,hE,L,?_⟩
 rw[ha]
 obtain⟨k,Y⟩:=WE J q5 hE L ha
 obtain⟨f1,f2⟩:=zk5 Y
 have e:(2*(pl.length:Int)).toNat=2*pl.length:=q5
 rw[Y] at q;simp;refine KH ?_;simp
 refine⟨.inl ⟨q9,q9⟩,q5,q5,?_⟩
 rw[e,Ue]
 refine yN (λi:Nat=>D.int (i:Int)) (λk=>.bl (Qw (kF tr) pl k)) (List.range (2*pl.length)) (by rw[yg];exact wS q5) (λk hk R hR=>?_) ?_
 ·have hk' := xV.mp hk;simp[nt]
  exact r1 _ ⟨⟨q9,q9⟩,YW J hk' hE hR⟩
 ·refine ⟨(List.range (2 * pl.length)).map (Qw (kF tr) pl), by rw [zQ]; rfl, k, f1, f2, by rw [zg, yg]; lia, ?_⟩
  exact⟨⟨q9,q9⟩,q⟩
abbrev vT:Stmt:=top 50
abbrev Yd:List Str:=["_law_tree_here","_law_plain_here","_law_waits","_law_path","_law_low"]
def kN:FnScope Yd xC1 (zW vT):=⟨rfl,rfl,rfl,w5,rfl,w5,w5⟩
def ZL:Nat->TF
 |0=>λ_ _ _=>False
 |j+1=>λds n Q=>∃(tr:Tr) (pl:List Pair) (W:QqI) (p:List Int) (d:Nat),ds=[yM tr,zT pl,.tup (W.map jR),.tup (p.map D.int)]/\pl.length=d/\1<=d/\d<=400/\yc pl=pl/\(∃ts,TreeOf d ts tr)/\qb tr<=j/\p.length+j<=900/\yW tr<=500/\Q (.lst (jU pl W p tr)) n
def zu3(F:Fun K "_law_drawn_parts" "_law_drawn_parts" vT f fd)(hm:mg "_law_drawn_parts" = some (.ref f))(hk:PySem.W.keepIn K (.ref f)=true)(hb:Binds K fd ["_law_tree_here","_law_plain_here","_law_waits","_law_path"] [])(Y_apart:Fn P w K mg base "_law_apart" 2 2 jL)(Y_parts:Fn P w K mg base "_law_parts" 3 3 VS):∀j:Nat,FnOk P w K mg base CX0 (j+3) f fd xC1 (spD K 4 (ZL j)):=by
 intro j
 induction j with
 |zero=>exact FnOk.botK λds n Q h=>h
 | succ j ih =>
  have Y_drawn_parts:Fn P w K mg base "_law_drawn_parts" (j+3) 4 (ZL j):=⟨f,fd,_,ih,hm,hk,hb⟩
  refine Fun.okD F kN (λaj A0 outer s H E G Z O=>(zx (yU (kn (wt Y_apart (O.mono q5) rfl (zc (xU xk xT (zf 0) zq (λ_ _=>rfl)) (zc (zf 1) zi)))) (zF (xp (wt Y_parts (O.mono q5) rfl (zc (zf 0) (zc (zf 1) (zc (zf 3) zi)))))) wI)
  (zx (yU (xR (xl2 O) (xg7 rfl) (xU xk xT (zf 0) zq (λ_ _=>rfl)) (zf 2) (by with_unfolding_all rfl)) (zF (xp (vg (zc (wf (zc (zf 3) (zc qW zi))) zi)))) wI)
  (zx (yU (xR kB kw (xU xk xT (zf 0) zq (λ_ _=>rfl)) yV (wg _)) (zF (xp (vg (zc (wf (zc (zf 3) (zc qW zi))) zi)))) wI)
  (zx (yf (i:=4) kN.nd rfl (lo rfl) (wt Y_drawn_parts O rfl (zc (xU xk xT (zf 0) zq (λ_ _=>rfl)) (zc (zf 1) (zc (zf 2) (zc (qJ qL Zs (zf 3) (wf (zc zq zi))) zi))))))
  (zF (xp (qJ KJ Kx (zf 4) (wt Y_drawn_parts O rfl (zc (xU xk xT (zf 0) zq (λ_ _=>rfl)) (zc (zf 1) (zc (zf 2) (zc (qJ qL Zs (zf 3) (wf (zc zq zi))) zi))))))))))))) ?_
  rintro ds n Q hl ⟨tr,pl,W,p,d,rfl,Y,ad,aa,L,⟨ts,hT⟩,ae,hp,hsz,q⟩;obtain⟨ta,tb,et,na,ah⟩:=vL tr;have nt:=yX tr
  have ai:(kF tr).length=d:=by rw[hT.bd,vV]
  have hE:VC (kF tr):=by rw[hT.bd];exact Xw hT.ne
  have nW:xG (D.tup (W.map jR))=true:=rfl
  have r0:∀R:D->Prop,R (jR (wG tr))->Zt (yM tr) (.int 0) R:=λR h=>by rw[et];exact⟨_,0,_,.inr (.inl rfl),rfl,rfl,h⟩
  have r1:∀R:D->Prop,R (zT (kF tr))->Zt (yM tr) (.int 1) R:=λR h=>by rw[et];exact⟨_,1,_,.inr (.inl rfl),rfl,rfl,h⟩
  simp[startD,nt,nW]
  refine r1 _ ⟨_,_,rfl,q5,q5,q5,hE,L,?_⟩
  cases ha:yn (kF tr) pl with
  |true=>
   rw[zz9 ha] at q;simp[nt]
   exact⟨tr,pl,p,rfl,q5,q5,q5,L,hE,ha,q⟩
  | false =>
   simp[nt];refine r0 _ ⟨wG tr,W,rfl,rfl,?_⟩
   by_cases J:wG tr∈W
   ·rw[zA1 ha J] at q;rw[xh J];simp;exact q
   ·rw [zN J];simp
    cases tr with
    |one x bd=>
     rw[zA0 (show yn bd pl=false from ha) (show [x] ∉ W from J)] at q;refine⟨_,2,_,.inr (.inl rfl),rfl,rfl,?_⟩;simp;exact q
    | two ns bd lw hg =>
     rw[zz8 (show yn bd pl=false from ha) (show ns ∉ W from J)] at q
     obtain⟨ls,us,af,ag⟩:∃ls us,TreeOf d ls lw/\TreeOf d us hg:=by
      cases hT with
      |two p1 p2 _ t1 t2=>exact⟨_,_,t1,t2⟩
     have hdp':1+max (qb lw) (qb hg)<=j:=ae;have hsz':1+yW lw+yW hg<=500:=hsz
     have nl:kE (yM lw)=false:=by cases lw<;>rfl
     refine⟨_,2,_,.inr (.inl rfl),rfl,rfl,?_⟩;dsimp only
     rw[if_neg (by rw[nl];simp)]
     cases j with
     |zero=>lia
     |succ j=>
      have pa:∀k:Int,D.tup (p.map D.int++[D.int k])=.tup ((p++[k]).map D.int):=λk=>by rw[zE];rfl
      refine⟨_,2,_,.inr (.inl rfl),rfl,rfl,?_⟩
      refine⟨wS q5,?_⟩
      rw[pa]
      refine⟨lw,pl,W,p++[0],d,rfl,Y,ad,aa,L,⟨_,af⟩,q5,by rw[zu];simp;lia,q5,?_⟩
      refine JL rfl ?_;refine⟨_,3,_,.inr (.inl rfl),rfl,rfl,?_⟩
      refine⟨wS q5,?_⟩
      rw[pa]
      refine⟨hg,pl,W,p++[1],d,rfl,Y,ad,aa,L,⟨_,ag⟩,q5,by rw[zu];simp;lia,q5,?_⟩
      have c1:=Wr (pl:=pl) (W:=W) lw (p++[0]);have c2:=Wr (pl:=pl) (W:=W) hg (p++[1])
      exact⟨_,_,rfl,rfl,wS q5,q⟩
abbrev jj:Stmt:=top 51
abbrev JV:List Str:=["_law_house_here","_law_tree_here","_law_plain_here","_law_kind_here","_law_k","_law_names","_law_looks","_law_waits"]
def vS:FnScope JV qZ4 (zW jj):=⟨rfl,rfl,rfl,w5,rfl,w5,w5⟩
def VM:TF:=λds n R=>∃(d:Nat) (hs:List Thing) (o:Option Tr) (pl:List Pair) (kd:QqO) (k:Nat),ds=[wo d hs,vp o,zT pl,yZ kd,.int k]/\1<=d/\d<=4/\pl.length=d/\yc pl=pl/\(hs.map λt=>t.1).Nodup/\hs.length<=30/\(∀p,kd=some p->p.length<=1000) /\
 (o=none->hs=[])/\(∀tr,o=some tr->TreeOf d hs tr)/\∀r,PaperIs d hs kd pl k o r->R r n
def zt8(T:Blt mg)(F:Fun K "_law_paper" "_law_paper" jj f fd)(Y_drawn:Fn P w K mg base "_law_drawn" 9 5 VN)(Y_drawn_parts:Fn P w K mg base "_law_drawn_parts" 35 4 (ZL 32)):FnOk P w K mg base CX0 36 f fd qZ4 (spD K 5 VM):=by
 refine Fun.okD F vS (λah A0 outer s H E G Z hr=>(zx (yU (xR kB kw (zf 1) yV (wg _)) (zF (xp (wf (zc (wf zi) (zc (wf zi) zi))))) wI)
  (zx (jo (m:=8) (wt Y_drawn (hr.mono q9) rfl (zc (zf 0) (zc (zf 1) (zc (zf 2) (zc (zf 3) (zc (zf 4) zi)))))) (vy (k:=3) rfl rfl (xn (zZ (i:=5) vS.nd rfl (lo rfl) q9) (xn (zZ (i:=6) vS.nd rfl (lo rfl) q9) (xn (zZ (i:=7) vS.nd rfl (lo rfl) q9) vb)))))
  (zx (yU (xR WJ WH (zf 4) zq (wg _)) (zF (yf (i:=7) vS.nd rfl (lo rfl) (wf (zc (xU xk xT (zf 1) zq (λ_ _=>rfl)) zi)))) wI)
  (zF (xp (wf (zc (zf 5) (zc (yq wH vn T.tuple vo (zc (wt Y_drawn_parts (hr.mono q9) rfl (zc (zf 1) (zc (zf 2) (zc (zf 7) (zc (wf zi) zi))))) zi)) zi))))))))) ?_
 rintro ds n R hl ⟨d,hs,o,pl,kd,k,rfl,L,ag,J,Y,hn,hz,hk,ad,aa,hR⟩;have nh:=vz d hs;have no:=qM o;have O:xG (zT pl)=true:=rfl;simp[startD,nh,O,no]
 cases o with
 |none=>
  rw[if_pos (show kE (vp none)=true from rfl)];exact hR _ rfl
 | some tr =>
  have ni:kE (vp (some tr))=false:=by cases tr<;>rfl
  rw[if_neg (by rw[ni];simp)]
  have tt:=aa tr rfl
  have ae:qb tr<=31:=by have:=tt.deep;lia
  refine⟨d,hs,some tr,pl,kd,k,rfl,L,q5,J,Y,hn,q5,hk,ad,aa,λn' q rs acc r1 r2 r3 r4 r5=>?_⟩
  have ok:=(zc7 L J hn tt r1).perm r4;have nw:xG (Xx rs)=true:=rfl
  have r0:∀R:D->Prop,R (jR (wG tr))->Zt (vp (some tr)) (.int 0) R:=λR h=>by
   obtain⟨ta,tb,et,na,af⟩:=vL tr;show Zt (yM tr) _ _;rw[et];exact⟨_,0,_,.inr (.inl rfl),rfl,rfl,h⟩
  simp[nw,nh,O,no]
  have go:∀W:List (List Int),(W=if k=0 then [wG tr] else ZR rs)->ZL 32 [vp (some tr),zT pl,.tup (W.map jR),.tup []] n λd n1=>ze6 [d] λd=>R (D.tup [D.tup (acc.map λt=>D.int t.1),d]) n1:=λW hW=>
   ⟨tr,pl,W,[],d,rfl,J,L,q5,Y,⟨_,tt⟩,ae,by simp,by have:=tt.size;lia,zr1.mpr (hR _ ⟨n',q,rs,acc,r1,r2,r4,by rw[hW]⟩)⟩
  split
  ·rename_i h0;exact r0 _ (go [wG tr] (if_pos h0).symm)
  ·rename_i h0;rw[WY];exact go (ZR rs) (if_neg h0).symm
end
theorem nodRs_le{c:Nat}:∀{ds:List D},(∀d∈ds,zm9 d<=c)->qZ ds<=c*ds.length
 |[],_=>by unfold qZ;exact xq _
 |d::ds,h=>by
  have h1:=h d (by simp)
  have J:=nodRs_le (ds:=ds) λe he=>h e (zn _ he);unfold qZ;rw[zJ,Nat.mul_add];lia
def XS{x:Int}{k:Nat}(h:x.natAbs<2^64):okR (.int x) k=true:=by
 unfold okR;refine xh ?_
 by_cases h0:x.natAbs=0
 ·rw[h0];decide
 ·rw [Nat.log2_lt h0]
  exact Nat.lt_trans h (Nat.pow_lt_pow_right q9 q9)
structure TurnOk(d:Nat)(hs:List Thing)(o:Option Tr)(b:List Ka)(kd:QqO):Prop where
 d1:1<=d
 d4:d<=4
 good:GoodT d hs 2000
 len:hs.length<=30
 h0:o=none->hs=[]
 h1:∀tr,o=some tr->TreeOf d hs tr
 box:b.length=d
 kind:∀pl,kd=some pl->pl.length=d/\∀x∈pl,zj2 x
def zv0{N:Nat}(J:p.length<=N)(h:(∃k,x=qR (p,some k))\/x=zk8 p "far" \/ x=zk8 p "in"):zm9 x<=N+5:=by
 have h1:=nodRs_le (c:=1) (ds:=p.map D.int) λx hx=>by
  obtain⟨y,_,rfl⟩:=zk.mp hx;exact zo 1
 rw[zg] at h1
 rcases h with ⟨k,rfl⟩ |rfl |rfl
 ·show qZ [D.tup (p.map D.int),.str "out",.int _,.int _]+1<=_;show qZ (p.map D.int)+1+(1+(1+(1+0)))+1<=_;lia
 ·show qZ (p.map D.int)+1+(1+0)+1<=_;lia
 ·show qZ (p.map D.int)+1+(1+0)+1<=_;lia
def zL1{x:D}{pl:List Pair}{p:List Int}(O:pl.length<=4)(L:∀i∈p,i=0\/i=1)(h:(∃k,x=qR (p,some k)/\k<=2*pl.length)\/x=zk8 p "far" \/ x=zk8 p "in"):okR x 18=true:=by
 have h1:okR (.tup (p.map D.int)) 17=true:=Zv.mpr λx hx=>by
  obtain⟨y,J,rfl⟩:=zk.mp hx
  exact XS (by rcases L y J with rfl |rfl<;>decide)
 rcases h with ⟨k,rfl,hk⟩ |rfl |rfl
 ·refine Zv.mpr λx hx => ?_;simp only[zj,zI,or_false] at hx
  rcases hx with rfl |rfl |rfl |rfl
  ·exact h1
  ·decide +kernel
  ·exact XS q5
  ·exact XS q5
 ·refine Zv.mpr λx hx => ?_;simp only[zj,zI,or_false] at hx
  rcases hx with rfl |rfl
  ·exact h1
  ·decide +kernel
 ·refine Zv.mpr λx hx => ?_;simp only[zj,zI,or_false] at hx
  rcases hx with rfl |rfl
  ·exact h1
  ·decide +kernel
def zL2(h:(∃k,x=qR (p,some k))\/x=zk8 p "far" \/ x=zk8 p "in"):okE x 18=true:=by
 rcases h with ⟨k,rfl⟩ |rfl |rfl
 ·refine qi.mpr λx hx => ?_;simp only[zj,zI,or_false] at hx
  rcases hx with rfl |rfl |rfl |rfl
  ·exact ZY p 16
  ·rfl
  ·exact jw
  ·exact jw
 ·refine qi.mpr λx hx => ?_;simp only[zj,zI,or_false] at hx
  rcases hx with rfl |rfl
  ·exact ZY p 16
  ·rfl
 ·refine qi.mpr λx hx => ?_;simp only[zj,zI,or_false] at hx
  rcases hx with rfl |rfl
  ·exact ZY p 16
  ·rfl
def TurnOk.show{d:Nat}{k:Nat}(h:TurnOk d hs o b kd)(hr:PaperIs d hs kd (vf b) k o r):xG r=true/\okE r 20=true/\xu0 r:=by
 have J:(vf b).length=d:=by rw[jM];exact h.box
 have hz:=h.len;have d4:=h.d4
 cases o with
 |none=>
  have e:r=.tup [.tup [],.tup []]:=hr;subst e
  exact⟨rfl,w5,.inr (.inr ⟨rfl,w5,w5⟩)⟩
 | some tr =>
  have tt:=h.h1 tr rfl;obtain⟨n',q,rs,acc,R,f,p,rfl⟩:=hr
  have L:∀t∈acc,t∈hs:=by
   by_cases e:k=0
   ·subst e;obtain⟨_,_,z⟩:=R.zero;rw[z];simp
   ·exact λt ht=>(zy.mp ((R.dok h.d1 J (ZN h.d1 J h.good.nodup tt e)).perm.mem_iff.mp (xv _ ht))).1
  have ae:acc.length<=30:=by
   by_cases e:k=0
   ·subst e;obtain⟨_,_,z⟩:=R.zero;rw[z];simp
   ·have D:=R.dok h.d1 J (ZN h.d1 J h.good.nodup tt e);have h2:=D.perm.length_eq;have O:(UH (vf b) hs).length<=hs.length:=wB ..;rw[zu] at h2;lia
  generalize hW:(if k=0 then [wG tr] else ZR rs)=W
  have each:=UI (pl:=vf b) (W:=W) tr [];have Y:=Wr (pl:=vf b) (W:=W) tr [];have ad:=tt.deep;have hsz:=tt.size;generalize jU (vf b) W [] tr=fs at each Y
  have aa:∀t∈acc,okR (.int t.1) 18=true:=λt ht=>by
   have:=h.good.each t (L t ht)
   exact XS q5
  refine⟨rfl,qi.mpr λx hx=>?_,.inr (.inr ⟨rfl,Zv.mpr λx hx=>?_,?_⟩)⟩
  ·simp only [zj, zI, or_false] at hx
   rcases hx with rfl |rfl
   ·exact qi.mpr λe he=>by
     obtain⟨t,_,rfl⟩:=zk.mp he;exact jw
   ·refine qi.mpr λe he=>?_;obtain⟨p',_,_,O⟩:=each e he;exact zL2 (O.imp_left fun⟨k,e,_⟩=>⟨k,e⟩)
  ·simp only [zj, zI, or_false] at hx
   rcases hx with rfl |rfl
   ·refine Zv.mpr λe he => ?_;obtain⟨t,ht,rfl⟩:=zk.mp he;have:=h.good.each t (L t ht)
    exact XS q5
   ·refine Zv.mpr λe he => ?_;obtain⟨p',_,h2,O⟩:=each e he
    exact zL1 q5 (λi hi=>(h2 i hi).resolve_left (by simp)) O
  ·have e1 := nodRs_le (c := 1) (ds := acc.map λt => D.int t.1) λx hx => by
    obtain⟨t,ht,rfl⟩:=zk.mp hx;exact zo 1
   rw[zg] at e1
   have e2:=nodRs_le (c:=35) (ds:=fs) λx hx=>by
    obtain⟨p',h1,_,O⟩:=each x hx;simp at h1
    exact zv0 (N:=30) q5 (O.imp_left fun⟨k,e,_⟩=>⟨k,e⟩)
   show qZ (acc.map λt=>D.int t.1)+1+(qZ fs+1+0)+1<=8000;lia
structure JLaw(ns:List Int)(i:Nat)(rho:Rho)(n:Nat):Prop where
 e:n=3
 r:∃a1 a2 a3 a4 a5 a6 a7 a8 a9 a10:Option D,rho=[some (wD ns),a1,a2,a3,a4,a5,a6,a7,a8,a9,a10]
structure JTn(hd:List (Option D))(i:Nat)(rho:Rho)(n:Nat):Prop where
 e:n=3
 r:∃b5 b6 b7 b8 b9 b10:Option D,rho=hd++[b5,b6,b7,b8,b9,b10]
structure JMn(hd:List (Option D))(i:Nat)(rho:Rho)(n:Nat):Prop where
 e:n=3
 r:∃c8 c9 c10:Option D,rho=hd++[c8,c9,c10]
structure JAg(hd:List (Option D))(i:Nat)(rho:Rho)(n:Nat):Prop where
 e:n=3
 r:∃c10:Option D,rho=hd++[c10]
section
variable {P:Program}{w:World}{K:W.Frag}{mg:QqM}{base:Heap}{f:Addr}{fd:FuncData}
abbrev VZ:Stmt:=top 52
abbrev xF3:List Str:=["_law_script","_law_k","_law_left_here","_law_house_here","_law_tree_here","_law_turn","_law_box_here","_law_kind_here","_law_many","_law_due","_law_again"]
def jV:FnScope xF3 ["_law_script"] (zW VZ):=⟨rfl,rfl,rfl,w5,rfl,w5,w5⟩
def xl6(T:Blt mg)(F:Fun K "law" "law" VZ f fd)(Y_left:Fn P w K mg base "_law_left" 1 2 zo6)(Y_pick:Fn P w K mg base "_law_pick" 1 2 ZJ)(Y_house:Fn P w K mg base "_law_house" 2 1 Qc)(Y_tree:Fn P w K mg base "_law_tree" 35 2 VI)(Y_box:Fn P w K mg base "_law_box" 3 2 zU1)(Y_kind:Fn P w K mg base "_law_kind" 3 2 zo7)(Y_plain:Fn P w K mg base "_law_plain" 1 1 VL)(Y_same:Fn P w K mg base "_law_same" 1 2 Qb)(Y_paper:Fn P w K mg base "_law_paper" 36 5 VM)(F_drawn_paper:Fn P w K mg base "drawn_paper" 9 5 VH) :
  FnOk P w K mg base CX0 37 f fd ["_law_script"] (Kj K):=by
 refine Fun.okLaw F jV 3 (λau A0 outer s H E O=>(zx (jq (m:=11) PassesOwn.never rfl (kQ T.range (zc (xZ (JC rfl) zC1 T.max Vz (zc zq (zc (xZ (Jz rfl) zB8 T.min JF (zc (xZ wE kC T.len vZ (zc (zf 0) zi)) (zc zq zi))) zi))) zi)) (zZ (i:=1) jV.nd rfl (lo rfl) q9)
  (zI0 (i:=2) rfl jV.nd rfl (lo rfl) Y_left (O.mono q9) rfl (zc (zf 0) (zc (zf 1) zi)) (λc Z H0=>(zx (yf (i:=3) jV.nd rfl (lo rfl) (wt Y_house (O.mono q9) rfl (zc (zf 2) zi)))
  (zx (yf (i:=4) jV.nd rfl (lo rfl) (wt Y_tree (O.mono q9) rfl (zc (zf 2) (zc (zf 3) zi))))
  (zF (jq (m:=11) PassesOwn.never rfl (kQ T.range (zc zq zi)) (zZ (i:=5) jV.nd rfl (lo rfl) q9)
  (zx (Xl (i:=6) (j:=7) rfl jV.nd rfl rfl q9 rfl rfl (zc (wt Y_box (O.mono q9) rfl (zc (zf 2) (zc (zf 3) zi))) (zc (wt Y_kind (O.mono q9) rfl (zc (zf 2) (zc (zf 3) zi))) zi)))
  (zF (jq (m:=11) PassesOwn.never rfl (vw rfl (wf (zc zq (zc zq (zc zq (zc (wt Y_pick (O.mono q9) rfl (zc (zf 2) (zc (vX (xZ wE kC T.len vZ (zc (xU xk xT (zf 3) zq (λ_ _=>rfl)) zi)) zq) zi))) (zc (vX (xZ wE kC T.len vZ (zc (xU xk xT (zf 3) zq (λ_ _=>rfl)) zi)) zq) zi))))))) (zZ (i:=8) jV.nd rfl (lo rfl) q9)
  (zx (yf (i:=9) jV.nd rfl (lo rfl) (wt Y_paper (O.mono q9) rfl (zc (zf 3) (zc (zf 4) (zc (wt Y_plain (O.mono q9) rfl (zc (zf 6) zi)) (zc (zf 7) (zc (zf 8) zi)))))))
  (zF (jq (m:=11) PassesOwn.never rfl (kQ T.range (zc zq zi)) (zZ (i:=10) jV.nd rfl (lo rfl) q9)
  (zF (yU (Ui (kn (wt Y_same (O.mono q9) rfl (zc (wt F_drawn_paper (O.mono q9) rfl (zc (zf 3) (zc (zf 4) (zc (zf 6) (zc (zf 7) (zc (zf 8) zi)))))) (zc (zf 9) zi))))) (zF (xp YY)) wI)))))))))))))))
  (zF (xp YY)))) ?_
 generalize hM:XF (zc2 9 _) _=MX;generalize hB:XF (xg0 6 7 _) _=BX;generalize hX:XF (zc2 3 _) _=X;intro ns aq;have af:xG (wD ns)=true:=id rfl
 have ad:∀(F:EndsD) (d:Nat) (hs:List Thing) (o:Option Tr) (b:List Ka) (kd:QqO) (k:Nat) (a5 a9 a10:Option D),TurnOk d hs o b kd ->
   (∀c9 L:Option D,F.nx [some (wD ns),none,some .st,some (wo d hs),some (vp o),a5,some (vq b),some (yZ kd),some (.int k),c9,L] 3) ->
   MX F [some (wD ns),none,some .st,some (wo d hs),some (vp o),a5,some (vq b),some (yZ kd),some (.int k),a9,a10] 3:=λF d hs o b kd k a5 a9 a10 ht hF=>by
  subst hM;have nh:=vz d hs;have no:=qM o;have nb:xG (vq b)=true:=rfl;have d1:=ht.d1;have d4:=ht.d4;have hz:=ht.len;have am:=ht.box
  have al:∀p,kd=some p->p.length<=1000:=λp e=>by have:=(ht.kind p e).1;lia
  simp[nh,no,nb]
  refine⟨b,rfl,q5,q5,?_⟩
  have ak:(vf b).length=d:=by rw[jM];exact am
  refine⟨d,hs,o,vf b,kd,k,rfl,d1,d4,ak,ZT b,ht.good.nodup,hz,al,ht.h0,ht.h1,λr O=>?_⟩;obtain⟨nf,aj,ao⟩:=ht.show O
  have ar:∀R:D->Nat->Prop,R r 3->VH [wo d hs,vp o,vq b,yZ kd,.int k] 3 R:=λR hR=>
   ⟨d,hs,o,b,kd,k,rfl,d1,d4,am,ht.good.nodup,by lia,al,ht.h0,ht.h1,xb8 ht.good d4 λpl e=>(ht.kind pl e).2,λr2 h2=>by
    rw[O.one d1 ak ht.good.nodup ht.h1 h2]
    exact hR⟩
  refine⟨JAg [some (wD ns),none,some .st,some (wo d hs),some (vp o),a5,some (vq b),some (yZ kd),some (.int k),some r],⟨rfl,_,rfl⟩,?_,?_⟩
  ·rintro i dd rho n' e4 ⟨rfl,L,rfl⟩;obtain⟨_,rfl⟩:=XG e4;simp[nh,no,nb,nf];refine ar _ ⟨r,rfl,nf,aj,ao,?_⟩;simp;exact⟨rfl,_,rfl⟩
  ·rintro rho n' ⟨rfl,L,rfl⟩;exact hF _ _
 have ae:∀(F:EndsD) (d:Nat) (hs:List Thing) (o:Option Tr) (a5 b6 b7 b8 b9 J:Option D),1<=d->d<=4->GoodT d hs 2000->hs.length<=30->(o=none->hs=[])->(∀tr,o=some tr->TreeOf d hs tr) ->
   (∀b6 b7 b8 b9 J:Option D,F.nx [some (wD ns),none,some .st,some (wo d hs),some (vp o),a5,b6,b7,b8,b9,J] 3) ->
   BX F [some (wD ns),none,some .st,some (wo d hs),some (vp o),a5,b6,b7,b8,b9,J] 3:=λF d hs o a5 b6 b7 b8 b9 J aa Y hg hz ah ag hF=>by
  subst hB;have nh:=vz d hs;have no:=qM o;simp[nh];refine⟨d,hs,rfl,rfl,Y,hg,hz,λb hb hn=>?_⟩;refine⟨d,hs,rfl,rfl,Y,hg,hz,λkd hk=>?_⟩;have nb:xG (vq b)=true:=rfl;have ht:TurnOk d hs o b kd:=⟨aa,Y,hg,hz,ah,ag,hb,hk⟩;simp[nb,nh];refine Vt ?_;simp
  refine wb q5 q5 λr g0 g1=>?_
  refine Vt ?_;simp;refine⟨JMn [some (wD ns),none,some .st,some (wo d hs),some (vp o),a5,some (vq b),some (yZ kd)],⟨rfl,_,_,_,rfl⟩,?_,?_⟩
  ·rintro i dd rho n' e4 ⟨rfl, c8, c9, L, rfl⟩
   obtain⟨k,rfl⟩:∃k:Nat,dd=.int k:=by
    have hm:=zM e4;simp only[zj,zI,or_false] at hm;obtain⟨r',rfl⟩:=xz g0
    rcases hm with rfl |rfl |rfl |rfl |rfl
    ·exact⟨0,rfl⟩
    ·exact⟨1,rfl⟩
    ·exact⟨2,rfl⟩
    ·exact⟨r',rfl⟩
    ·exact⟨hs.length+1,by push_cast;rfl⟩
   simp;exact ad _ d hs o b kd k a5 c9 L ht λc9 L=>⟨rfl,_,_,_,rfl⟩
  ·rintro rho n' ⟨rfl,c8,c9,L,rfl⟩;exact hF _ _ _ _ _
 clear ad
 have ai:∀F:EndsD,(∀rho:Rho,rho.length=11->rho[0]?=some (some (wD ns))->F.nx rho 3)->X F [some (wD ns),none,some .st,none,none,none,none,none,none,none,none] 3:=λF hF=>by
  subst hX;simp;refine⟨rfl,rfl,λd hs aa Y hg hz=>?_⟩;have nh:=vz d hs;simp[nh]
  have TT:∀R:D->Nat->Prop,(∀o:Option Tr,(o=none->hs=[])->(∀tr,o=some tr->TreeOf d hs tr)->R (vp o) 3)->VI [.st,wo d hs] 3 R:=λR hR=>⟨d,hs,rfl,rfl,aa,Y,hg.u,q5,λh=>hR none (λ_=>h) λtr e=>(by cases e),λh tr g=>hR (some tr) (λe=>by cases e) λtr' e=>by cases e;exact g⟩
  refine TT _ λo ah ag=>?_;have no:=qM o;refine⟨JTn [some (wD ns),none,some .st,some (wo d hs),some (vp o)],⟨rfl,_,_,_,_,_,_,rfl⟩,?_,?_⟩
  ·rintro i dd rho n' e4 ⟨rfl,b5,b6,b7,b8,b9,J,rfl⟩;obtain⟨_,rfl⟩:=XG e4;simp;exact ae _ d hs o _ b6 b7 b8 b9 J aa Y hg hz ah ag λb6 b7 b8 b9 J=>⟨rfl,_,_,_,_,_,_,rfl⟩
  ·rintro rho n' ⟨rfl,b5,b6,b7,b8,b9,J,rfl⟩;exact hF _ rfl rfl
 clear ae;simp[startD,af]
 refine⟨q5,q5,JLaw ns,⟨rfl,_,_,_,_,_,_,_,_,_,_,rfl⟩,?_,?_⟩
 ·rintro i d' rho m e ⟨rfl, a1, a2, a3, a4, a5, a6, a7, a8, a9, a10, rfl⟩;obtain⟨hi,rfl⟩:=XG e;simp
  refine zv4 ns (by simp) q9 rfl (i:Int) (by simp[af]) (λP P' h=>by simp[af];exact h _ _) ?_
  refine⟨ns,_,rfl,aq,q5,q5,λx y hx hy ap=>⟨[x,y,0],rfl,rfl,by simp[hx,hy],by simp[ap],?_⟩⟩
  simp[Vj,vU]
  exact ai _ λrho h1 h2=>⟨rfl,h1,h2,rfl,by simp⟩
 ·rintro rho m ⟨rfl,a1,a2,a3,a4,a5,a6,a7,a8,a9,a10,rfl⟩;simp
end
end K49
set_option maxHeartbeats 1000000
namespace K49
def yQ{α:Type}{us:List α}{c:Nat}(h:us.length=c+1):∃a r,us=a::r/\r.length=c:=by
 cases us with
 |nil=>cases h
 |cons a r=>exact⟨a,r,rfl,Nat.succ.inj h⟩
def zE7{fd:FuncData}{ps:List Str}{us:QqW}(h:us.length=1)(q:∀J,bindArgs fd ⟨[J],[]⟩=pure (ps.zip [J])):bindArgs fd ⟨us,[]⟩=pure (ps.zip us):=by
 obtain⟨J,L,rfl,h0⟩:=yQ h;obtain rfl:=xb.mp h0;exact q J
def UX{fd:FuncData}{ps:List Str}{us:QqW}(h:us.length=2)(q:∀L J,bindArgs fd ⟨[L,J],[]⟩=pure (ps.zip [L,J])):bindArgs fd ⟨us,[]⟩=pure (ps.zip us):=by
 obtain⟨L,O,rfl,h0⟩:=yQ h;obtain⟨J,u1,rfl,h1⟩:=yQ h0;obtain rfl:=xb.mp h1;exact q L J
def zP5{fd:FuncData}{ps:List Str}{us:QqW}(h:us.length=3)(q:∀O L J,bindArgs fd ⟨[O,L,J],[]⟩=pure (ps.zip [O,L,J])):bindArgs fd ⟨us,[]⟩=pure (ps.zip us):=by
 obtain⟨O,u0,rfl,h0⟩:=yQ h;obtain⟨L,u1,rfl,h1⟩:=yQ h0;obtain⟨J,u2,rfl,Y⟩:=yQ h1;obtain rfl:=xb.mp Y;exact q O L J
def xe7{fd:FuncData}{ps:List Str}{us:QqW}(h:us.length=4)(q:∀Y O L J,bindArgs fd ⟨[Y,O,L,J],[]⟩=pure (ps.zip [Y,O,L,J])):bindArgs fd ⟨us,[]⟩=pure (ps.zip us):=by
 obtain⟨Y,u0,rfl,h0⟩:=yQ h;obtain⟨O,u1,rfl,h1⟩:=yQ h0;obtain⟨L,u2,rfl,h2⟩:=yQ h1;obtain⟨J,u3,rfl,h3⟩:=yQ h2;obtain rfl:=xb.mp h3;exact q Y O L J
def xr1{fd:FuncData}{ps:List Str}{us:QqW}(h:us.length=5)(q:∀x0 Y O L J,bindArgs fd ⟨[x0,Y,O,L,J],[]⟩=pure (ps.zip [x0,Y,O,L,J])):bindArgs fd ⟨us,[]⟩=pure (ps.zip us):=by
 obtain⟨x0,u0,rfl,h0⟩:=yQ h;obtain⟨Y,u1,rfl,h1⟩:=yQ h0;obtain⟨O,u2,rfl,h2⟩:=yQ h1;obtain⟨L,u3,rfl,h3⟩:=yQ h2;obtain⟨J,u4,rfl,h4⟩:=yQ h3;obtain rfl:=xb.mp h4;exact q x0 Y O L J
def xM2{fd:FuncData}{ps:List Str}{us:QqW}(h:us.length=6)(q:∀x0 x1 Y O L J,bindArgs fd ⟨[x0,x1,Y,O,L,J],[]⟩=pure (ps.zip [x0,x1,Y,O,L,J])):bindArgs fd ⟨us,[]⟩=pure (ps.zip us):=by
 obtain⟨x0,u0,rfl,h0⟩:=yQ h;obtain⟨x1,u1,rfl,h1⟩:=yQ h0;obtain⟨Y,u2,rfl,h2⟩:=yQ h1;obtain⟨O,u3,rfl,h3⟩:=yQ h2;obtain⟨L,u4,rfl,h4⟩:=yQ h3;obtain⟨J,u5,rfl,h5⟩:=yQ h4;obtain rfl:=xb.mp h5;exact q x0 x1 Y O L J
structure Dn(K:W.Frag)(x:Str)(st:Stmt):Prop where
 ex:∃(f:Addr) (fd:FuncData),W.nsIn K mainGlobals x=some (some (.ref f))/\Fun K x x st f fd
def dn{K:W.Frag}{x:Str}{st:Stmt}{f:Addr}{oc:Value}{Y an:QqE}{L:Array (Option Value)}{kV O pm J ct:Value}(a:W.nsIn K mainGlobals x=some (some (.ref f)))(l:K.lookup f=some ⟨oc,Y,.func (W.fnOf x x (kq st) (vC st) (zW st) .none kV O pm an J ct),L⟩)(c:W.codeIn K J x=true)(k:W.keepIn K (.ref f)=true):Dn K x st:=⟨f,_,a,zf1 (st:=st) l c k⟩
def Dn.fn{P:Program}{w:World}{K:W.Frag}{mg:QqM}{base h:Heap}{x:Str}{st:Stmt}{O k:Nat}{t:TF}{ps:List Str}(d:Dn K x st)(X:K.In h)(G:h.Ns mainGlobals mg)(b:∀(kV J pm:Value) (an:QqE) (L ct:Value) (us:QqW),us.length=ps.length->bindArgs (W.fnOf x x (kq st) (vC st) (zW st) .none kV J pm an L ct) ⟨us,[]⟩=pure (ps.zip us))(ok:∀(f:Addr) (fd:FuncData),Fun K x x st f fd->mg x=some (.ref f)->W.keepIn K (.ref f)=true->Binds K fd ps []->FnOk P w K mg base CX0 O f fd ps (spD K k t)):Fn P w K mg base x O k t:=by
 obtain⟨f,fd,a,F⟩:=d.ex;have m:=W.mg_of X G a;have B:=F.binds b;exact⟨f,fd,ps,ok f fd F m F.kp B,m,F.kp,B⟩
def Dn.fnT{P:Program}{w:World}{K:W.Frag}{mg:QqM}{base h:Heap}{x:Str}{st:Stmt}{O k:Nat}{t:TFT}{ps:List Str}(d:Dn K x st)(X:K.In h)(G:h.Ns mainGlobals mg)(b:∀(kV J pm:Value) (an:QqE) (L ct:Value) (us:QqW),us.length=ps.length->bindArgs (W.fnOf x x (kq st) (vC st) (zW st) .none kV J pm an L ct) ⟨us,[]⟩=pure (ps.zip us))(ok:∀(f:Addr) (fd:FuncData),Fun K x x st f fd->FnOk P w K mg base CX0 O f fd ps (spT K k t)):FnT P w K mg base x O k t:=by
 obtain⟨f,fd,a,F⟩:=d.ex;exact⟨⟨f,fd,ps,ok f fd F,W.mg_of X G a,F.kp,F.binds b⟩⟩
def all_mk{l:W.OpenLaw}{w:World}{K:W.Frag}{h:Heap}{mg:QqM}{fa aq ap ao:Addr}(X:K.In h)(G:h.Ns mainGlobals mg)(aY:mg "law" = some (.ref fa))
  {aH aS aG aR aF am:QqE}{aw av au:Array (Option Value)}{aK aM aO ay Y aQ aJ aL aN ax O aP aI ah ai ag L aj:Value}
  (d0:Dn K "least_of" Yq)
  (d1:Dn K "greatest_of" qA)
  (d2:Dn K "pair_of" XE)
  (d3:Dn K "is_crossed" jd)
  (d4:Dn K "settled" XD)
  (d5:Dn K "plain_box" Zi)
  (d6:Dn K "greater_of" je)
  (d7:Dn K "lesser_of" Zk)
  (d8:Dn K "common_pair" qC)
  (d9:Dn K "common" Uc)
  (d10:Dn K "lie_apart" Zj)
  (d11:Dn K "things_by_name" km)
  (d12:Dn K "steps_to" Yn)
  (d13:Dn K "key_by" Ua)
  (d14:Dn K "keyed" Qn)
  (d15:Dn K "drawn_past" jf)
  (d16:Dn K "drawn" Qo)
  (d17:Dn K "all_below" Zl)
  (d18:Dn K "all_above" Zm)
  (d19:Dn K "is_out" Ub)
  (d20:Dn K "ways_out" Ym)
  (d21:Dn K "out_part" Yp)
  (d22:Dn K "far_rows" Yr)
  (d23:Dn K "parts_of" Yo)
  (d24:Dn K "drawn_paper" qB)
  (d25:Dn K "_law_left" Zq)
  (d26:Dn K "_law_pick" Zp)
  (d27:Dn K "_law_house" jk)
  (d28:Dn K "_law_number" qD)
  (d29:Dn K "_law_box" Yt)
  (d30:Dn K "_law_kind" Zr)
  (d31:Dn K "_law_bounds" qE)
  (a32:W.nsIn K mainGlobals "_law_grown" = some (some (.ref aq))) (l32:K.lookup aq=some ⟨aK,aH,.func (W.fnOf "_law_grown" "_law_grown" (kq vO) (vC vO) (zW vO) .none aM aO ay aS Y aQ),aw⟩) (c32:W.codeIn K Y "_law_grown" = true) (k32:W.keepIn K (.ref aq)=true)
  (d33:Dn K "_law_tree" Zn)
  (d34:Dn K "_law_plain" jh)
  (d35:Dn K "_law_beyond" qF)
  (d36:Dn K "_law_apart" jl)
  (d37:Dn K "_law_inside" Ud)
  (d38:Dn K "_law_steps" jg)
  (d39:Dn K "_law_key" Ys)
  (d40:Dn K "_law_same" Zo)
  (a41:W.nsIn K mainGlobals "_law_drawn" = some (some (.ref ap))) (l41:K.lookup ap=some ⟨aJ,aG,.func (W.fnOf "_law_drawn" "_law_drawn" (kq vP) (vC vP) (zW vP) .none aL aN ax aR O aP),av⟩) (c41:W.codeIn K O "_law_drawn" = true) (k41:W.keepIn K (.ref ap)=true)
  (d42:Dn K "_law_parts" ji)
  (d43:Dn K "_law_drawn_parts" vT)
  (d44:Dn K "_law_paper" jj)
  (a45:W.nsIn K mainGlobals "law" = some (some (.ref ao))) (l45:K.lookup ao=some ⟨aI,aF,.func (W.fnOf "law" "law" (kq VZ) (vC VZ) (zW VZ) .none ah ai ag am L aj),au⟩) (c45:W.codeIn K L "law" = true) (k45:W.keepIn K (.ref ao)=true)
  {al aV:Addr}{aE:Value}{aC:QqE}{aA:Array (Option Value)}{ad:Array Value} (le32:Y=.ref al) (lk32:K.lookup al=some ⟨aE,aC,.fields ad,aA⟩) (lp32:ad[11]?=some (.ref aV))
  {ak aU:Addr}{aD:Value}{aB:QqE}{az:Array (Option Value)}{aa:Array Value} (le41:O=.ref ak) (lk41:K.lookup ak=some ⟨aD,aB,.fields aa,az⟩) (lp41:aa[11]?=some (.ref aU))
  {e0:Addr}{be:QqE}{bf:Nat}{ba aZ:Tok}{bc:Array (Option Value)} (yy0:W.nsIn K mainGlobals "EMPTY_PAIR" = some (some (.ref e0))) (hh0:K.lookup e0=some ⟨.type "tuple",be,.seq #[.int 1 ba,.int 0 aZ] bf,bc⟩)
  (z0:W.nsIn K mainGlobals "len" = some none) (z1:W.nsIn K mainGlobals "abs" = some none) (z2:W.nsIn K mainGlobals "all" = some none) (z3:W.nsIn K mainGlobals "any" = some none) (z4:W.nsIn K mainGlobals "isinstance" = some none) (z5:W.nsIn K mainGlobals "int" = some none) (z6:W.nsIn K mainGlobals "bool" = some none) (z7:W.nsIn K mainGlobals "str" = some none) (z8:W.nsIn K mainGlobals "tuple" = some none) (z9:W.nsIn K mainGlobals "list" = some none) (z10:W.nsIn K mainGlobals "range" = some none) (z11:W.nsIn K mainGlobals "zip" = some none) (z12:W.nsIn K mainGlobals "enumerate" = some none) (z13:W.nsIn K mainGlobals "max" = some none) (z14:W.nsIn K mainGlobals "min" = some none) (z15:W.nsIn K mainGlobals "sorted" = some none) (z16:W.nsIn K mainGlobals "sum" = some none) (z17:W.nsIn K mainGlobals "repr" = some none) (z18:W.nsIn K mainGlobals "dict" = some none) :
  ∃fd:FuncData,(∀(s:Shared) (v:Value),BindsTo s fd ⟨[v],[]⟩ [("_law_script",v)])/\∀base:Heap,K.In base->base.Ns mainGlobals mg->base.NoDigits->JW K mg base->FnOk l.prog w K mg base CX0 37 fa fd ["_law_script"] (Kj K):=by
 have af:=zP8 a32 l32 le32 lk32 lp32;have ae:=zP8 a41 l41 le41 lk41 lp41;have e:=aY.symm.trans (W.mg_of X G a45);cases e;have T:Blt mg:=⟨W.mg_none_of X G z0,W.mg_none_of X G z1,W.mg_none_of X G z2,W.mg_none_of X G z3,W.mg_none_of X G z4,W.mg_none_of X G z5,W.mg_none_of X G z6,W.mg_none_of X G z7,W.mg_none_of X G z8,W.mg_none_of X G z9,W.mg_none_of X G z10,W.mg_none_of X G z11,W.mg_none_of X G z12,W.mg_none_of X G z13,W.mg_none_of X G z14,W.mg_none_of X G z15⟩;have T2:Blt2 mg:=⟨W.mg_none_of X G z16⟩;have T3:Blt3 mg:=⟨W.mg_none_of X G z17,W.mg_none_of X G z18⟩;have G_EMPTY_PAIR:xe4 K mg "EMPTY_PAIR" (.tup [.int 1,.int 0]):=zz4 (W.mg_of X G yy0) hh0;have ar:=zf1 (st:=vO) l32 c32 k32;have aT:=zf1 (st:=vP) l41 c41 k41;have bg:=zf1 (st:=VZ) l45 c45 k45;refine⟨W.fnOf "law" "law" (kq VZ) (vC VZ) (zW VZ) .none ah ai ag am L aj,λs v=>.of_eq rfl,λbase _ _ ND LA=>?_⟩
 have aX:=LA "_law_grown" (by simp[ko]) _ _ af
 have aW:=LA "_law_drawn" (by simp[ko]) _ _ ae
 have F_least_of:Fn l.prog w K mg base "least_of" 1 1 Yh:=d0.fn X G (ps:=["low"]) (λ_ _ _ _ _ _ us J=>zE7 J λ_=>rfl) λ_ _ U M N B=>Qz U;have F_greatest_of:Fn l.prog w K mg base "greatest_of" 1 1 qw:=d1.fn X G (ps:=["high"]) (λ_ _ _ _ _ _ us J=>zE7 J λ_=>rfl) λ_ _ U M N B=>WK U;have F_pair_of:Fn l.prog w K mg base "pair_of" 2 1 Xz:=d2.fn X G (ps:=["span"]) (λ_ _ _ _ _ _ us J=>zE7 J λ_=>rfl) λ_ _ U M N B=>zi8 U F_least_of F_greatest_of;have F_is_crossed:Fn l.prog w K mg base "is_crossed" 1 1 qc:=d3.fn X G (ps:=["pair"]) (λ_ _ _ _ _ _ us J=>zE7 J λ_=>rfl) λ_ _ U M N B=>Uq U;have F_settled:Fn l.prog w K mg base "settled" 2 1 ZI:=d4.fn X G (ps:=["pairs"]) (λ_ _ _ _ _ _ us J=>zE7 J λ_=>rfl) λ_ _ U M N B=>zi7 T G_EMPTY_PAIR U F_is_crossed;have F_plain_box:Fn l.prog w K mg base "plain_box" 3 1 qu:=d5.fn X G (ps:=["box"]) (λ_ _ _ _ _ _ us J=>zE7 J λ_=>rfl) λ_ _ U M N B=>KM U F_pair_of F_settled;have F_greater_of:Fn l.prog w K mg base "greater_of" 1 2 jb:=d6.fn X G (ps:=qZ0) (λ_ _ _ _ _ _ us J=>UX J λ_ _=>rfl) λ_ _ U M N B=>Ur T U;have F_lesser_of:Fn l.prog w K mg base "lesser_of" 1 2 Zc:=d7.fn X G (ps:=qZ0) (λ_ _ _ _ _ _ us J=>UX J λ_ _=>rfl) λ_ _ U M N B=>KO T U;have F_common_pair:Fn l.prog w K mg base "common_pair" 2 2 qx:=d8.fn X G (ps:=qZ0) (λ_ _ _ _ _ _ us J=>UX J λ_ _=>rfl) λ_ _ U M N B=>WL U F_greater_of F_lesser_of;have F_common:Fn l.prog w K mg base "common" 3 2 VR:=d9.fn X G (ps:=qZ0) (λ_ _ _ _ _ _ us J=>UX J λ_ _=>rfl) λ_ _ U M N B=>zu4 T U F_settled F_common_pair;have F_lie_apart:Fn l.prog w K mg base "lie_apart" 4 2 qv:=d10.fn X G (ps:=qZ0) (λ_ _ _ _ _ _ us J=>UX J λ_ _=>rfl) λ_ _ U M N B=>KN U F_is_crossed F_common;have F_things_by_name:Fn l.prog w K mg base "things_by_name" 1 1 zT9:=d11.fn X G (ps:=["house"]) (λ_ _ _ _ _ _ us J=>zE7 J λ_=>rfl) λ_ _ U M N B=>xl4 T U;have F_steps_to:Fn l.prog w K mg base "steps_to" 1 2 Ye:=d12.fn X G (ps:=["place","limits"]) (λ_ _ _ _ _ _ us J=>UX J λ_ _=>rfl) λ_ _ U M N B=>Qx T T2 U;have F_key_by:Fn l.prog w K mg base "key_by" 2 3 VP:=d13.fn X G (ps:=["by_name","tree","kind"]) (λ_ _ _ _ _ _ us J=>zP5 J λ_ _ _=>rfl) λ_ _ U M N B=>zu1 T U F_steps_to;have F_keyed:FnT l.prog w K mg base "keyed" 6 4 VO:=d14.fnT X G (ps:=qZ7) (λ_ _ _ _ _ _ us J=>xe7 J λ_ _ _ _=>rfl) λ_ _ U=>zK5 T U F_lie_apart F_key_by;have F_drawn_past:Fn l.prog w K mg base "drawn_past" 7 6 Qg:=d15.fn X G (ps:=xB9) (λ_ _ _ _ _ _ us J=>xM2 J λ_ _ _ _ _ _=>rfl) λ_ _ U M N B=>zK9 T U F_things_by_name F_plain_box F_keyed;have F_drawn:Fn l.prog w K mg base "drawn" 8 5 Qd:=d16.fn X G (ps:=qZ3) (λ_ _ _ _ _ _ us J=>xr1 J λ_ _ _ _ _=>rfl) λ_ _ U M N B=>zK8 U F_drawn_past;have F_all_below:Fn l.prog w K mg base "all_below" 1 2 Zd:=d17.fn X G (ps:=qZ2) (λ_ _ _ _ _ _ us J=>UX J λ_ _=>rfl) λ_ _ U M N B=>KP U;have F_all_above:Fn l.prog w K mg base "all_above" 1 2 Ze:=d18.fn X G (ps:=qZ2) (λ_ _ _ _ _ _ us J=>UX J λ_ _=>rfl) λ_ _ U M N B=>KQ U;have F_is_out:Fn l.prog w K mg base "is_out" 2 3 VQ:=d19.fn X G (ps:=qZ8) (λ_ _ _ _ _ _ us J=>zP5 J λ_ _ _=>rfl) λ_ _ U M N B=>zu2 G_EMPTY_PAIR U F_all_below F_all_above;have F_ways_out:Fn l.prog w K mg base "ways_out" 3 2 zo4:=d20.fn X G (ps:=["limits","plain"]) (λ_ _ _ _ _ _ us J=>UX J λ_ _=>rfl) λ_ _ U M N B=>zY5 T U F_is_out;have F_out_part:Fn l.prog w K mg base "out_part" 4 3 zo5:=d21.fn X G (ps:=qZ9) (λ_ _ _ _ _ _ us J=>zP5 J λ_ _ _=>rfl) λ_ _ U M N B=>zY7 U F_ways_out;have F_far_rows:Fn l.prog w K mg base "far_rows" 1 3 Yi:=d22.fn X G (ps:=xC2) (λ_ _ _ _ _ _ us J=>zP5 J λ_ _ _=>rfl) λ_ _ U M N B=>QA U;have F_parts_of:Fn l.prog w K mg base "parts_of" 5 3 Yg:=d23.fn X G (ps:=["tree","plain","far"]) (λ_ _ _ _ _ _ us J=>zP5 J λ_ _ _=>rfl) λ_ _ U M N B=>Qy T U F_lie_apart F_out_part;have F_drawn_paper:Fn l.prog w K mg base "drawn_paper" 9 5 VH:=d24.fn X G (ps:=qZ3) (λ_ _ _ _ _ _ us J=>xr1 J λ_ _ _ _ _=>rfl) λ_ _ U M N B=>zK2 U F_plain_box F_drawn F_far_rows F_parts_of;have Y_left:Fn l.prog w K mg base "_law_left" 1 2 zo6:=d25.fn X G (ps:=["_law_script","_law_k"]) (λ_ _ _ _ _ _ us J=>UX J λ_ _=>rfl) λ_ _ U M N B=>zY9 T U;have Y_pick:Fn l.prog w K mg base "_law_pick" 1 2 ZJ:=d26.fn X G (ps:=["_law_left_here","_law_many"]) (λ_ _ _ _ _ _ us J=>UX J λ_ _=>rfl) λ_ _ U M N B=>zY6 U;have Y_house:Fn l.prog w K mg base "_law_house" 2 1 Qc:=d27.fn X G (ps:=["_law_left_here"]) (λ_ _ _ _ _ _ us J=>zE7 J λ_=>rfl) λ_ _ U M N B=>zK6 T U Y_pick;have Y_number:Fn l.prog w K mg base "_law_number" 2 3 ZK:=d28.fn X G (ps:=xC0) (λ_ _ _ _ _ _ us J=>zP5 J λ_ _ _=>rfl) λ_ _ U M N B=>zt5 T U Y_pick;have Y_box:Fn l.prog w K mg base "_law_box" 3 2 zU1:=d29.fn X G (ps:=qZ1) (λ_ _ _ _ _ _ us J=>UX J λ_ _=>rfl) λ_ _ U M N B=>xl7 T U Y_pick Y_number;have Y_kind:Fn l.prog w K mg base "_law_kind" 3 2 zo7:=d30.fn X G (ps:=qZ1) (λ_ _ _ _ _ _ us J=>UX J λ_ _=>rfl) λ_ _ U M N B=>zZ0 T U Y_pick Y_number;have Y_bounds:Fn l.prog w K mg base "_law_bounds" 1 1 zU0:=d31.fn X G (ps:=["_law_things"]) (λ_ _ _ _ _ _ us J=>zE7 J λ_=>rfl) λ_ _ U M N B=>xl5 T U;have Y_grown:Fn l.prog w K mg base "_law_grown" 34 4 (XA 30):=⟨_,_,_,(zK7 T ar a32 af aX (W.mg_of X G a32) k32 (ar.binds (ps:=qZ5) λ_ _ _ _ _ _ us J=>xe7 J λ_ _ _ _=>rfl) Y_pick Y_bounds 30),W.mg_of X G a32,k32,(ar.binds (ps:=qZ5) λ_ _ _ _ _ _ us J=>xe7 J λ_ _ _ _=>rfl)⟩;have Y_tree:Fn l.prog w K mg base "_law_tree" 35 2 VI:=d33.fn X G (ps:=qZ1) (λ_ _ _ _ _ _ us J=>UX J λ_ _=>rfl) λ_ _ U M N B=>zK3 T U Y_grown;have Y_plain:Fn l.prog w K mg base "_law_plain" 1 1 VL:=d34.fn X G (ps:=["_law_box_here"]) (λ_ _ _ _ _ _ us J=>zE7 J λ_=>rfl) λ_ _ U M N B=>zt7 T U;have Y_beyond:Fn l.prog w K mg base "_law_beyond" 1 4 ZM:=d35.fn X G (ps:=xB8) (λ_ _ _ _ _ _ us J=>xe7 J λ_ _ _ _=>rfl) λ_ _ U M N B=>zu5 U;have Y_apart:Fn l.prog w K mg base "_law_apart" 2 2 jL:=d36.fn X G (ps:=qZ6) (λ_ _ _ _ _ _ us J=>UX J λ_ _=>rfl) λ_ _ U M N B=>zu0 T U Y_beyond;have Y_inside:Fn l.prog w K mg base "_law_inside" 1 2 zG3:=d37.fn X G (ps:=qZ6) (λ_ _ _ _ _ _ us J=>UX J λ_ _=>rfl) λ_ _ U M N B=>(FnOk.botK λ_ _ _ h=>h);have Y_steps:Fn l.prog w K mg base "_law_steps" 1 2 VJ:=d38.fn X G (ps:=xC4) (λ_ _ _ _ _ _ us J=>UX J λ_ _=>rfl) λ_ _ U M N B=>zt6 T T2 U;have Y_key:Fn l.prog w K mg base "_law_key" 2 3 zb6:=d39.fn X G (ps:=xC3) (λ_ _ _ _ _ _ us J=>zP5 J λ_ _ _=>rfl) λ_ _ U M N B=>zY8 T U Y_steps;have Y_same:Fn l.prog w K mg base "_law_same" 1 2 Qb:=d40.fn X G (ps:=xC6) (λ_ _ _ _ _ _ us J=>UX J λ_ _=>rfl) λ_ _ U M N B=>zK4 T T3 U;have Y_drawn:Fn l.prog w K mg base "_law_drawn" 9 5 VN:=⟨_,_,_,zt9 T aT a41 ae aW Y_apart Y_key,W.mg_of X G a41,k41,(aT.binds (ps:=qZ4) λ_ _ _ _ _ _ us J=>xr1 J λ_ _ _ _ _=>rfl)⟩;have Y_parts:Fn l.prog w K mg base "_law_parts" 3 3 VS:=d42.fn X G (ps:=xC5) (λ_ _ _ _ _ _ us J=>zP5 J λ_ _ _=>rfl) λ_ _ U M N B=>zu6 T U M N B Y_apart Y_beyond Y_inside;have Y_drawn_parts:Fn l.prog w K mg base "_law_drawn_parts" 35 4 (ZL 32):=d43.fn X G (ps:=xC1) (λ_ _ _ _ _ _ us J=>xe7 J λ_ _ _ _=>rfl) λ_ _ U M N B=>zu3 U M N B Y_apart Y_parts 32;have Y_paper:Fn l.prog w K mg base "_law_paper" 36 5 VM:=d44.fn X G (ps:=qZ4) (λ_ _ _ _ _ _ us J=>xr1 J λ_ _ _ _ _=>rfl) λ_ _ U M N B=>zt8 T U Y_drawn Y_drawn_parts;exact xl6 T bg Y_left Y_pick Y_house Y_tree Y_box Y_kind Y_plain Y_same Y_paper F_drawn_paper
def walk{l:W.OpenLaw}{q:Program}{loose:List Str}{XP:(Str->Option Value)->Heap->Prop}{YP:World->Heap->Prop}{d:DefRec}{K:Params->W.Frag}(hn:l.most=some 63)(Y:d.params.defaults=[])
  (hY:∀(w:World) (h:Heap),YP w h->(K w.params).In h)
  (J:∀(w:World),∀y∈ko,∀c P,W.tabIn (K w.params) y=some (c,P)->∃d,(recsOf q).find? (λe=>e.name == y)=some d) (L:∀w:World,zo3 (K w.params)=true) (O:∀w:World,W.noTabs (K w.params)=true)
  (F : ∀ (w : World) (mg : Str -> Option Value) (fa : Addr) (h : Heap), (K w.params).In h -> h.Ns mainGlobals mg -> mg d.name = some (.ref fa) ->
   ∃fd:FuncData,(∀(s:Shared) (u:Value),BindsTo s fd ⟨[u],[]⟩ [("_law_script",u)])/\∀base:Heap,(K w.params).In base->base.Ns mainGlobals mg->base.NoDigits->JW (K w.params) mg base->FnOk l.prog w (K w.params) mg base CX0 37 fa fd ["_law_script"] (Kj (K w.params))) :
  W.WalkO q loose XP YP l.row.toRowW d [] (λf vs=>PySem.call f vs):=
 L2.zF6 (n:=63) (k:=37) (x := "_law_script") (CX:=λ_=>CX0) (sp:=λw=>Kj (K w.params)) hn q9 Y ⟨rfl,q9,q9,rfl⟩ hY J (λw=>zT8 (K w.params) (L w)) O F (λ_ _ a ns hl hO hS hT=>⟨a,ns,rfl,hO,hS,hl,hT,λH h=>⟨rfl,h⟩⟩) λ_ _ _ _ _ z=>z
end K49
open PySem PySem.W PyProof.Rows
set_option maxRecDepth 100000 in
set_option maxHeartbeats 0 in
theorem PySem.Challenge.cw_boxlayers_k49_drawn_papers_told_holds : PySem.Challenge.rw_boxlayers_k49_drawn_papers_told.Holds := by
 w_on; refine holds_law (by kernel_rfl) fun said => ?_; refine holds_open (q:=K49H.view) (loose:=[]) (N:=10000) (XP:=XL K49H.view []) (Xt:=λs=>xlAt K49H.view [] s && recOk (RowW.records (OpenRow.toRowW (OpenLaw.row PySem.Challenge.rw_boxlayers_k49_drawn_papers_told))) s) (Yf:=Hook.obs K49H.hook) (Ya:=Hook.val K49H.hook) (YP:=Hook.says K49H.hook) K49H.left (Hook.of K49H.hook) (Hook.keeps K49H.hook) (λs e=>xl_of s (Bool.and_eq_true_iff.mp e).1) XL.keeps rfl rfl rfl (λs e=>recFacts_of (Bool.and_eq_true_iff.mp e).2) rfl (by first | assumption | decide +kernel) w5 ⟨rfl,rfl,rfl,rfl,rfl,w5⟩ ?_ ?_
 ·w_witness2
 k_fill
 refine K49.walk (l:=PySem.Challenge.rw_boxlayers_k49_drawn_papers_told) rfl rfl (λw h Y=>PySem.W.km_in_of Y) ?R ?U ?N ?F
 case R =>
  intro w y O c P e
  have z:y = "_law_grown" \/ y = "_law_drawn" := by simpa [L2.ko] using O
  rcases z with rfl | rfl
  ·exact⟨_,rfl⟩
  ·exact⟨_,rfl⟩
 case U =>
  intro w
  kernel_rfl
 case N =>
  intro w
  kernel_rfl
 case F =>
  intro w mg fa h KX G J;refine' K49.all_mk KX G J ?d0 ?d1 ?d2 ?d3 ?d4 ?d5 ?d6 ?d7 ?d8 ?d9 ?d10 ?d11 ?d12 ?d13 ?d14 ?d15 ?d16 ?d17 ?d18 ?d19 ?d20 ?d21 ?d22 ?d23 ?d24 ?d25 ?d26 ?d27 ?d28 ?d29 ?d30 ?d31 ?a32 ?l32 ?c32 ?k32 ?d33 ?d34 ?d35 ?d36 ?d37 ?d38 ?d39 ?d40 ?a41 ?l41 ?c41 ?k41 ?d42 ?d43 ?d44 ?a45 ?l45 ?c45 ?k45 ?le32 ?lk32 ?lp32 ?le41 ?lk41 ?lp41 ?yy0 ?hh0 ?z0 ?z1 ?z2 ?z3 ?z4 ?z5 ?z6 ?z7 ?z8 ?z9 ?z10 ?z11 ?z12 ?z13 ?z14 ?z15 ?z16 ?z17 ?z18
  (case a32=>k_is)
  (case l32=>k_is)
  (case c32=>k_is)
  (case k32=>k_is)
  (case a41=>k_is)
  (case l41=>k_is)
  (case c41=>k_is)
  (case k41=>k_is)
  (case a45=>k_is)
  (case l45=>k_is)
  (case c45=>k_is)
  (case k45=>k_is)
  (case le32=>rfl)
  (case lk32=>k_is)
  (case lp32=>rfl)
  (case le41=>rfl)
  (case lk41=>k_is)
  (case lp41=>rfl)
  (case yy0=>k_is)
  (case hh0=>k_is)
  (case z0=>k_is)
  (case z1=>k_is)
  (case z2=>k_is)
  (case z3=>k_is)
  (case z4=>k_is)
  (case z5=>k_is)
  (case z6=>k_is)
  (case z7=>k_is)
  (case z8=>k_is)
  (case z9=>k_is)
  (case z10=>k_is)
  (case z11=>k_is)
  (case z12=>k_is)
  (case z13=>k_is)
  (case z14=>k_is)
  (case z15=>k_is)
  (case z16=>k_is)
  (case z17=>k_is)
  (case z18=>k_is)
  all_goals (apply K49.dn;k_is;k_is;k_is;k_is)
end
#print axioms PySem.Challenge.cw_boxlayers_k49_drawn_papers_told_holds
