import PyProof.Rows.All
import Wide.All
import OpenK.AllK
import Wide.FinOn
import Lean
import PyProof.EqAt
import PyProof.EqKinds
import PyProof.TupleCall
import PyProof.CompFree
import PyProof.ZipIter
import PyProof.Cells
import PyProof.Rows.CellsFrame
import PyProof.EnumMake
import PyProof.TupleIter
import PyProof.IsiPairs
import PyProof.IsiSeqPairs
import PyProof.IsiNone
import PyProof.ConsumeWalk
import PyProof.DictCompW
import PyProof.NeKinds
import PyProof.MinMaxWalk
import PyProof.Rows.SortRev
import KE.KIsAll
import KE.KDictOf
import PyProof.AttrMissHeap
import PyProof.CallFns
import KE.KLam
import KE.KSortKey
import PyProof.MaxThree
import KE.KDictList
import PyProof.DictRoadsH
import PyProof.DictUpdate
import PyProof.DictWalks
import PySem.Challenge.RW_boxlayers_k41_nearest_and_best
set_option Elab.async false
set_option linter.all false
namespace K41H
section
open PySem PySem.W PyProof.Rows
noncomputable def top (i : Nat) : Stmt := PySem.Challenge.pw_boxlayers_k41_nearest_and_best.main.body.getD i (.Pass ⟨0, 0, 0, 0⟩)
noncomputable def view:Program:={ PySem.Challenge.pw_boxlayers_k41_nearest_and_best with main:={ PySem.Challenge.pw_boxlayers_k41_nearest_and_best.main with body:=[top 1,top 2,top 3,top 4,top 5,top 6,top 7,top 8,top 9,top 10,top 11,top 12,top 13,top 15,top 17,top 18,top 19,top 20,top 21,top 23,top 24,top 25,top 27,top 28,top 29,top 30,top 32,top 33,top 34,top 35,top 36,top 37,top 38,top 39,top 40,top 41,top 42,top 43,top 44,top 45,top 46,top 47,top 48] } }
local macro_rules | `(tactic| o_head (kmHook $k $a $e $t)) => `(tactic| (assumption; exact ($a, $t)))
set_option maxRecDepth 100000 in
set_option maxHeartbeats 0 in
noncomputable def hk : List Addr × List Addr := by
  refine (fun (_ : (OpenLaw.row PySem.Challenge.rw_boxlayers_k41_nearest_and_best).Holds → (OpenLaw.row PySem.Challenge.rw_boxlayers_k41_nearest_and_best).Holds) => ?a) (fun h => ?b)
  rotate_left
  k_head
noncomputable abbrev hook : Hook := kmHook hk.heap_1 hk.1 (fun _ => by kernel_rfl) hk.2
set_option maxRecDepth 100000 in
set_option maxHeartbeats 0 in
theorem headF (w : World) : (fencedOpening treeTable (OpenLaw.row PySem.Challenge.rw_boxlayers_k41_nearest_and_best).prog w 10000).map (fun a => (topFrom treeTable (OpenLaw.row PySem.Challenge.rw_boxlayers_k41_nearest_and_best).prog (w.withFollow "special-get-raises" false) 10000 a).map (fun s => (openSeen view [] (importedModules (OpenLaw.row PySem.Challenge.rw_boxlayers_k41_nearest_and_best).prog.main.body) (fun s => xlAt view [] s && recOk (RowW.records (OpenRow.toRowW (OpenLaw.row PySem.Challenge.rw_boxlayers_k41_nearest_and_best))) s) true s, Hook.obs hook s))) = some (some (openGood view [], Hook.val hook (w.withFollow "special-get-raises" false))) := by kernel_rfl
set_option maxRecDepth 100000 in
set_option maxHeartbeats 0 in
theorem headT (w : World) : (fencedOpening treeTable (OpenLaw.row PySem.Challenge.rw_boxlayers_k41_nearest_and_best).prog w 10000).map (fun a => (topFrom treeTable (OpenLaw.row PySem.Challenge.rw_boxlayers_k41_nearest_and_best).prog (w.withFollow "special-get-raises" true) 10000 a).map (fun s => (openSeen view [] (importedModules (OpenLaw.row PySem.Challenge.rw_boxlayers_k41_nearest_and_best).prog.main.body) (fun s => xlAt view [] s && recOk (RowW.records (OpenRow.toRowW (OpenLaw.row PySem.Challenge.rw_boxlayers_k41_nearest_and_best))) s) true s, Hook.obs hook s))) = some (some (openGood view [], Hook.val hook (w.withFollow "special-get-raises" true))) := by kernel_rfl
theorem two_map {u v : Type} {o : Option u} {A B : u → v} {a b : v} (h1 : o.map A = some a) (h2 : o.map B = some b) : o.map (fun s => (A s, B s)) = some (a, b) := by
  cases o with
  | none => cases h1
  | some s => exact congrArg some (congr (congrArg Prod.mk (Option.some.inj h1)) (Option.some.inj h2))
theorem left : LeftO (OpenLaw.row PySem.Challenge.rw_boxlayers_k41_nearest_and_best).prog view [] (fun s => xlAt view [] s && recOk (RowW.records (OpenRow.toRowW (OpenLaw.row PySem.Challenge.rw_boxlayers_k41_nearest_and_best))) s) (Hook.obs hook) (Hook.val hook) 10000 := LeftO.of_split "special-get-raises" fun w => @two_map _ _ _ _ _ _ _ (headF w) (headT w)
end
end K41H
abbrev Qq1:=PySem.Shared
abbrev Qq2:=List PySem.Str
abbrev Qq3:=PySem.Program
abbrev Qq4:=List Int
abbrev Qq5:=PySem.W.Frag
abbrev Qq6:=Nat->Nat->Bool
abbrev Qq7:=Array Nat
abbrev Qq8:=Array PySem.Value
abbrev Qq9:=List PySem.Expr
abbrev Qqa:=PySem.World
abbrev Qqb:=PySem.FuncData
abbrev Qqc:=List PySem.Addr
abbrev QqV:=PySem.Value->PySem.Shared->Prop
abbrev QqL:=List (PySem.Addr × PySem.Obj)
abbrev QqM:=PySem.Str->Option PySem.Value
abbrev QqA:=PySem.Addr->Prop
abbrev QqO:=Option (List Int)
abbrev QqI:=List (List Int)
abbrev QqW:=List PySem.Value
abbrev QqP:=Int × Int
abbrev QqE:=Option PySem.Addr
open PySem PySem.Spec PyProof.Rows
open List (set_comm of_mem_zip replicate length_nil map_nil forIn_nil forIn_cons any_cons take_left' drop_drop reverse_reverse reverse_perm map_drop ext_getElem? sum_cons filter_sublist nodup_nil length_zip mem_of_mem_take filter_append)
noncomputable section
set_option bootstrap.genMatcherCode false
set_option genSizeOf false
set_option compiler.extract_closed false
set_option Elab.async false
set_option autoImplicit true
set_option linter.all false
set_option maxRecDepth 100000
section
def yB:=@Array.getD_eq_getD_getElem?
def xz:=@Array.getElem?_eq_getElem
def wa:=@Array.getElem?_eq_none
def vE:=@Array.getElem?_map
def zL:=@Array.getElem?_toList
def zm:=@Array.length_toList
def wh:=@Array.map_append
def xG:=@Array.map_extract
def wg:=@Array.perm_iff_toList_perm
def yw:=@Array.size_extract
def zQ:=@Array.size_map
def yb:=@Array.size_range
def vc:=@Array.toArray_toList
def xp:=@Array.toList_append
def wE:=@Array.toList_extract
def vJ:=@Array.toList_push
def vD:=@Array.toList_range
def zW:=@Bool.and_eq_true
def wS:=@Bool.eq_iff_iff
def zT:=@Bool.false_eq_true
def xl:=@Bool.false_ne_true
def zg:=@Heap.get?_push_of_some
def zr:=@Heap.get?_push_size
def wH:=@Heap.get?_update_other
def we:=@Heap.get?_update_self
def zw:=@Heap.lt_size
def wO:=@Heap.size_push
def yv:=@Int.emod_lt_of_pos
def wR:=@Int.emod_nonneg
def xT:=@Int.eq_ofNat_of_zero_le
def yR:=@Int.le_refl
def yA:=@Int.toNat_natCast
def yJ:=@List.all_eq_true
def wn:=@List.append_assoc
def wv:=@List.append_nil
def yO:=@List.drop_eq_getElem_cons
def va:=@List.drop_left'
def vw:=@List.drop_zero
def xX:=@List.extract_eq_take_drop
def vp:=@List.filterMap_cons
def yN:=@List.filterMap_map
def xy:=@List.filter_cons_of_neg
def xv:=@List.filter_cons_of_pos
def wQ:=@List.find?_cons
def wx:=@List.flatMap_cons
def vf:=@List.flatten_cons
def zR:=@List.getD_eq_getElem?_getD
def xW:=@List.getElem?_append_left
def xC:=@List.getElem?_append_right
def wD:=@List.getElem?_drop
def zd:=@List.getElem?_eq_getElem
def zu:=@List.getElem?_eq_some_iff
def zy:=@List.getElem?_map
def vo:=@List.getElem?_range
def xS:=@List.getElem?_replicate
def xq:=@List.getElem?_set_ne
def xg:=@List.getElem?_set_self
def vC:=@List.getElem?_take
def wZ:=@List.getElem_mem
def zF:=@List.length_append
def zP:=@List.length_cons
def wY:=@List.length_drop
def xo:=@List.length_eq_zero_iff
def yM:=@List.length_filter_le
def zf:=@List.length_map
def vI:=@List.length_range
def wN:=@List.length_replicate
def xr:=@List.length_take
def wJ:=@List.length_zipWith
def xN:=@List.lookup_cons
def al_List_lookup_cons_self:=@List.lookup_cons_self
def zS:=@List.map_append
def vn:=@List.map_congr_left
def zN:=@List.map_cons
def zK:=@List.map_map
def vG:=@List.map_take
def vm:=@List.map_zip_eq_zipWith
def xk:=@List.mem_append
def xu:=@List.mem_append_left
def xf:=@List.mem_append_right
def zn:=@List.mem_cons
def zk:=@List.mem_cons_of_mem
def xj:=@List.mem_cons_self
def zB:=@List.mem_filter
def yp:=@List.mem_iff_getElem?
def zo:=@List.mem_map
def zV:=@List.mem_of_getElem?
def vv:=@List.mem_range
def wX:=@List.mem_reverse
def zE:=@List.mem_singleton
def wC:=@List.nil_append
def yh:=@List.nodup_append
def xM:=@List.nodup_cons
def yd:=@List.nodup_iff_pairwise_ne
def xb:=@List.not_mem_nil
def yZ:=@List.pairwise_append
def wB:=@List.pairwise_cons
def xV:=@List.pairwise_iff_getElem
def xF:=@List.pairwise_map
def yL:=@List.perm_append_comm
def yl:=@List.replicate_succ
def yD:=@List.reverse_append
def zt:=@List.size_toArray
def yn:=@List.sublist_append_right
def xE:=@List.take_add_one
def wM:=@List.take_append_drop
def wW:=@List.take_length
def xZ:=@List.take_of_length_le
def ve:=@List.take_sublist
def vt:=@List.zipIdx_cons
def xY:=@List.zipWith_cons_cons
def yu:=@List.zip_cons_cons
def wb:=@Nat.le_of_lt
def zj:=@Nat.le_refl
def wt:=@Nat.le_succ
def zG:=@Nat.le_trans
def wf:=@Nat.lt_irrefl
def vB:=@Nat.lt_of_le_of_lt
def wT:=@Nat.lt_of_le_of_ne
def xi:=@Nat.lt_of_lt_of_le
def vH:=@Nat.lt_of_succ_lt
def yg:=@Nat.lt_succ_of_lt
def yt:=@Nat.lt_trans
def yI:=@Nat.mod_lt
def wm:=@Nat.ne_of_gt
def zJ:=@Nat.ne_of_lt
def wq:=@Nat.zero_le
def zD:=@Option.some.inj
def xn:=@decide_eq_false
def xI:=@decide_eq_true
def yf:=@decide_eq_true_eq
def zb:=@wpAny_bind
def xR:=@wpAny_callSpecial?_slot
def wG:=@wpAny_call_entry
def yY:=@wpAny_comprehension_free
def wl:=@wpAny_dictEntries
def wF:=@wpAny_field
def xJ:=@wpAny_holding
def yQ:=@wpAny_letGo
def wV:=@wpAny_mono
def xD:=@wpAny_newObj_type
def yX:=@wpAny_passesOwn
def ze:=@wpAny_pure
def vd:=@wpAny_pyIter_list
def ym:=@wpAny_rule
def wL:=@wpAny_seqItems
def yK:=@wpAny_setField_rec
def ye:=@wpAny_truthy_bool
def yq:=@wpAny_typeNameOfWhole_keyiter
def yW:=@wpAny_typeNameOf_keyiter
def zq:=@wpS_bind
def yc:=@wpS_forRange
def vA:=@wpS_modify
def vF:=@wpS_mono
def zU:=@wpS_pure
end
def q5 {p:Prop}(h:p:=by lia):p:=h
def q9 {p:Prop}(h:p:=by decide):p:=h
def w5 {p:Prop}(h:p:=by decide +kernel):p:=h
local macro_rules|`(tactic|exists $t)=>`(tactic|with_unfolding_all exact $t)
namespace L2
abbrev Key:=Sum Int Str
def zm0:Key->Value->Bool
 |.inl k,v=>Value.isInt k v
 |.inr x,v=>Value.isStrOf x v
def xO8(w:Qqa):Key->Int
 |.inl k=>hashInt k
 |.inr x=>hashStr w x
theorem kb:∀{k:Key}{v:Value},zm0 k v=true->(∃i t,k=Sum.inl i/\v=Value.int i t)\/(∃x t,k=Sum.inr x/\v=Value.str x t)
 |.inl i,v,h=>by
  obtain⟨t,e⟩:=Value.isInt_shape (k:=i) (v:=v) h;exact .inl ⟨i,t,rfl,e⟩
 |.inr x,v,h=>by
  obtain⟨t,e⟩:=Value.isStrOf_shape (x:=x) (v:=v) h;exact .inr ⟨x,t,rfl,e⟩
def zx1(i:Int)(t:Tok):zm0 (.inl i) (.int i t)=true:=by simp[zm0,Value.isInt]
def zx0(x:Str)(t:Tok):zm0 (.inr x) (.str x t)=true:=by simp[zm0,Value.isStrOf]
def xl0(a b:Int):decide ((Sum.inl a:Key)=Sum.inl b)=(a == b):=by
 by_cases e:a=b
 ·subst e;simp
 ·have h:¬ (Sum.inl a:Key)=Sum.inl b:=λq=>e (Sum.inl.inj q);rw[xn h];exact(beq_eq_false_iff_ne.mpr e).symm
def xk7(a b:Str):decide ((Sum.inr a:Key)=Sum.inr b)=decide (a=b):=by
 by_cases e:a=b
 ·subst e;simp
 ·have h:¬ (Sum.inr a:Key)=Sum.inr b:=λq=>e (Sum.inr.inj q);rw[xn h,xn e]
def xk9(a:Int)(b:Str):decide ((Sum.inl a:Key)=Sum.inr b)=false:=xn (λq=>nomatch q)
def xk8(a:Str)(b:Int):decide ((Sum.inr a:Key)=Sum.inl b)=false:=xn (λq=>nomatch q)
def vg(prog:Qq3)(w:Qqa):PySem.KeyKind prog w Key where
 is:=zm0
 hash:=xO8 w
 inj:=λv a b ha Y=>by
  rcases kb ha with ⟨i,t,rfl,rfl⟩ |⟨x,t,rfl,rfl⟩
  ·rcases kb Y with ⟨j, u, rfl, e⟩ | ⟨y, u, rfl, e⟩
   ·injection e with J _;rw[J]
   ·exact nomatch e
  ·rcases kb Y with ⟨j, u, rfl, e⟩ | ⟨y, u, rfl, e⟩
   ·exact nomatch e
   ·injection e with J _;rw[J]
 byValue:=λk v h=>by
  rcases kb h with ⟨i,t,rfl,rfl⟩ |⟨x,t,rfl,rfl⟩<;>rfl
 pyHash:=λW h=>by
  rcases kb W with ⟨i,t,rfl,rfl⟩ |⟨x,t,rfl,rfl⟩
  ·exact wpAny_pyHash_int h
  ·exact wpAny_pyHash_str h
 eqBool:=λhu W h=>by
  rcases kb hu with ⟨i,t,rfl,rfl⟩ |⟨x,t,rfl,rfl⟩
  ·rcases kb W with ⟨j, u, rfl, rfl⟩ | ⟨y, u, rfl, rfl⟩
   ·rw[xl0] at h;exact wpAny_eqBool_int h
   ·rw[xk9] at h;exact SeqAt.EqAt.int_str i t y u _ _ _ _ h
  ·rcases kb W with ⟨j, u, rfl, rfl⟩ | ⟨y, u, rfl, rfl⟩
   ·rw[xk8] at h;exact SeqAt.EqAt.str_int x t j u _ _ _ _ h
   ·rw[xk7] at h;exact wpAny_eqBool_str h
 «strs»:=λk x t v h=>by
  rcases kb h with ⟨i,u,rfl,e⟩ |⟨y,u,rfl,e⟩
  ·exact nomatch e
  ·injection e with J _;subst J
   cases v<;>rfl
def QU(prog:Qq3)(w:Qqa)(i:Int)(t:Tok):(vg prog w).is (.inl i) (.int i t)=true:=zx1 i t
def QT(prog:Qq3)(w:Qqa)(x:Str)(t:Tok):(vg prog w).is (.inr x) (.str x t)=true:=zx0 x t
inductive V where
 |non |bl (b:Bool) |int (i:Int) |str (x:Str) |byt (b:Array UInt8) |flt (b:UInt64) |ref (a:Addr) |ty (n:String)
 deriving DecidableEq
def RelV:V->Value->Prop
 |.non,u=>u=Value.none
 |.bl b,u=>u=Value.bool b
 |.int i,u=>∃t,u=Value.int i t
 |.str x,u=>∃t,u=Value.str x t
 |.byt b,u=>∃t,u=Value.bytes b t
 |.flt b,u=>∃t,u=Value.float b t
 |.ref a,u=>u=Value.ref a
 |.ty n,u=>u=Value.type n
abbrev Vals:List V->List Value->Prop:=Paired RelV
def Vals.length(r:Vals xs us):xs.length=us.length:=Paired.length r
theorem Vals.get:∀{xs:List V}{us:QqW}{i:Nat}{x:V},Vals xs us->xs[i]?=some x->∃u,us[i]?=some u/\RelV x u
 |_,_,_,_,.nil,e=>by simp at e
 |_,_,0,_,.cons r _,e=>by simp at e;subst e;exact⟨_,rfl,r⟩
 |_,_,i+1,x,.cons _ t,e=>by
  obtain⟨u,h1,h2⟩:=Vals.get (i:=i) (x:=x) t (by simpa using e)
  exact⟨u,by simpa using h1,h2⟩
theorem Vals.set(r:RelV x u):∀{xs:List V}{us:QqW} (i:Nat),Vals xs us->Vals (xs.set i x) (us.set i u)
 |_,_,_,.nil=>.nil
 |_,_,0,.cons _ t=>.cons r t
 |_,_,i+1,.cons q t=>.cons q (Vals.set r i t)
theorem Vals.append:∀{xs ys:List V}{us ws:QqW},Vals xs us->Vals ys ws->Vals (xs++ys) (us++ws)
 |_,_,_,_,.nil,s=>s
 |_,_,_,_,.cons r t,s=>.cons r (Vals.append t s)
theorem Vals.take:∀{xs:List V}{us:QqW} (n:Nat),Vals xs us->Vals (xs.take n) (us.take n)
 |_,_,0,_=>.nil
 |_,_,_+1,.nil=>.nil
 |_,_,n+1,.cons r t=>.cons r (Vals.take n t)
theorem Vals.drop:∀{xs:List V}{us:QqW} (n:Nat),Vals xs us->Vals (xs.drop n) (us.drop n)
 |_,_,0,r=>r
 |_,_,_+1,.nil=>.nil
 |_,_,n+1,.cons _ t=>Vals.drop n t
noncomputable def RelO:Option V->Option Value->Prop
 |some v,some u=>RelV v u
 |none,none=>True
 |_,_=>False
noncomputable def KV{κ:Type}:List (κ × V)->List (κ × Value)->Prop:=Paired fun(p:κ × V) (q:κ × Value)=>p.1=q.1/\RelV p.2 q.2
def kV:Key->V
 |.inl i=>.int i
 |.inr x=>.str x
inductive HO where
 /-- a list -/
 |lst (xs:List V)
 /-- a tuple (never changes) -/
 |tup (xs:List V)
 /-- a dict whose keys are ints and texts; one whose keys are tuples of ints and texts (the empty one is both) -/
 |dK (kvs:List (Key × V)) |dT (kvs:List (List Key × V))
 /-- a set of ints: its members, its size -/
 |set (S:Int->Bool) (n:Nat)
 /-- an instance of the class at C, its dict at dx, its attributes -/
 |ins (C dx:Addr) (fs:List (Str × V))
 /-- the dict of the instance at x -/
 |own (x:Addr)
 /-- the dict of an exception -/
 |xd (fs:List (Str × V))
 /-- a bound method, f of x -/
 |met (f x:Addr)
 /-- a range object lo, lo + 1, .. below hi -/
 |rng (lo hi:Int)
 /-- a thing that is known to the object (the script; a dict while a loop walks it): read, never written while it is so -/
 |frz (o:Obj) (u:HO)
 /-- a code object's table -/
 |tbl (ps:Qq8)
 /-- a code object's table: the code objects in it are known and stay -/
 |cot (q:Str)
 /-- any other thing, by what is true of its one object (a def of one's own: SetO a S n := HO.ext λh => ..) -/
 |ext (φ:Heap->Prop)
abbrev Hp:=Addr->Option HO
def upd(H:Hp)(a:Addr)(o:HO):Hp:=λb=>if b=a then some o else H b
def yx:upd H a o a=some o:=by unfold upd;rw[if_pos rfl]
def ww(h:b≠a):upd H a o b=H b:=by unfold upd;rw[if_neg h]
def yC{H:Hp}{a b:Addr}{o:HO}(h:H a=some o)(h':H b=none):a≠b:=by
 intro e;subst e;rw[h] at h';cases h'
def xp3(J:Obj)(q:Str):Prop:=∃vs t,J.data=.fields vs/\vs[1]?=some (.str q t)
inductive TabG(φ:QqA):List Value->Prop where
 |nil:TabG φ []
 |cons {i j:Int}{t u:Tok}{c:Addr}{r:QqW} (h:φ c) (g:TabG φ r):TabG φ (.int i t::.int j u::.ref c::r)
def TabG.imp(f:∀c,φ c->ψ c)(g:TabG φ l):TabG ψ l:=by
 induction g with
 |nil=>exact .nil
 |cons h _ J=>exact .cons (f _ h) J
section
variable (P:Qq3) (w:Qqa)
def ObjOk(H:Hp)(h:Heap)(a:Addr):HO->Prop
 |.lst xs=>xs.length<=sizeLine/\∃(its:QqW) (n:Nat),Vals xs its/\h.get? a=some { cls:=.type "list",data:=.seq its.toArray n }
 |.tup xs=>xs.length<=sizeLine/\∃its:List Value,Vals xs its/\IsTup h a its.toArray
 |.dK kvs=>kvs.length<=sizeLine/\(a == sysModules)=false/\∃vs,KV kvs vs/\h.DictOf (vg P w) a vs
 | .dT kvs => kvs.length <= sizeLine /\ (a == sysModules) = false /\ ∃ xs : List (List Key × Addr × Value),
   Paired (fun(p:List Key × V) (q:List Key × Addr × Value)=>p.1=q.1/\H q.2.1=some (.tup (p.1.map kV))/\RelV p.2 q.2.2) kvs xs /\
   ∃o es ep,h.get? a=some o/\o.ExactDict/\o.data=.dict es ep/\es.toList=xs.map (entryOfKey (tupleKind (vg P w)))/\(xs.map (·.1)).Nodup
 |.set S n=>h.SetOf (intKind P w) a S n
 | .ins C Y fs => H Y = some (.own a) /\ fs.length <= 1000 /\ Y ≠ a /\ h.get? a = some (W.instObj C Y) /\
   ∃J,h.Ns1 Y J/\(∀f,RelO (fs.lookup f) (J f))/\PySem.Within J (fs.map (·.1))
 |.own _=>∃o,h.get? a=some o
 |.xd fs=>∃J,h.Ns1 a J/\∀f,RelO (fs.lookup f) (J f)
 |.rng lo hi=>∃t u v,h.get? a=some { cls:=.type "range",data:=.fields #[.int lo t,.int hi u,.int 1 v] }
 |.frz o u=>h.get? a=some o/\ObjOk H h a u
 |.tbl ps=>h.get? a=some { cls:=.none,data:=.fields ps }
 |.cot q=>∃ps:Array Value,h.get? a=some { cls:=.none,data:=.fields ps }/\TabG (λc=>∃oc,H c=some (.frz oc (.own 0))/\xp3 oc q) ps.toList
 |.met f x=>h.get? a=some (W.methodObj (.ref f) (.ref x))
 |.ext φ=>φ h/\(∃o,h.get? a=some o)/\∀h1 h2:Heap,φ h1->(∀o,h1.get? a=some o->h2.get? a=some o)->φ h2
def HOk(H:Hp)(h:Heap):Prop:=∀a o,H a=some o->ObjOk P w H h a o
end
section
variable {P:Qq3}{w:Qqa}{H H':Hp}{h h':Heap}{a:Addr}{o:HO}
def ObjOk.lt(x:ObjOk P w H h a o):a<h.objs.size:=by
 cases o with
 |lst xs=>obtain⟨_,_,_,_,e⟩:=x;exact zw e
 |tup xs=>obtain⟨_,_,_,p⟩:=x;exact p.lt
 |dK kvs=>obtain⟨_,_,_,_,o,_,_,e,_⟩:=x;exact zw e
 |dT kvs=>obtain⟨_,_,_,_,o,_,_,e,_⟩:=x;exact zw e
 |set S n=>obtain⟨o,_,_,_,e,_⟩:=x;exact zw e
 |ins C J fs=>obtain⟨_,_,_,e,_⟩:=x;exact zw e
 |own y=>obtain⟨_,e⟩:=x;exact zw e
 |xd fs=>obtain⟨_,⟨_,_,_,e,_⟩,_⟩:=x;exact zw e
 |rng lo hi=>obtain⟨_,_,_,e⟩:=x;exact zw e
 |frz ob u=>obtain⟨e,_⟩:=x;exact zw e
 |tbl ps=>exact zw (show h.get? a=some _ from x)
 |cot q=>obtain⟨ps,e,_⟩:=x;exact zw e
 |met f y=>exact zw (show h.get? a=some _ from x)
 |ext φ=>obtain⟨_,⟨_,e⟩,_⟩:=x;exact zw e
theorem Paired.mapP{α β:Type}{F G:α->β->Prop}:∀{J:List α}{l₂:List β},Paired F J l₂->(∀a b,F a b->G a b)->Paired G J l₂
 |_,_,.nil,_=>.nil
 |_,_,.cons r t,f=>.cons (f _ _ r) (Paired.mapP t f)
def ObjOk.stay(x:ObjOk P w H h a o)(k:∀b u,(b=a\/H b=some (.own a))->h.get? b=some u->h'.get? b=some u)
  (ho:∀b,H b=some (.own a)->H' b=some (.own a)) (ht:∀b xs,H b=some (.tup xs)->H' b=some (.tup xs)) (hz:∀b o u,H b=some (.frz o u)->H' b=some (.frz o u)):ObjOk P w H' h' a o:=by
 induction o with
 |lst xs=>obtain⟨z,its,n,r,e⟩:=x;exact⟨z,its,n,r,k _ _ (.inl rfl) e⟩
 |tup xs=>obtain⟨z,its,r,ob,e,c⟩:=x;exact⟨z,its,r,ob,k _ _ (.inl rfl) e,c⟩
 |dK kvs=>obtain⟨z,y,vs,r,ob,es,ep,e,c⟩:=x;exact⟨z,y,vs,r,ob,es,ep,k _ _ (.inl rfl) e,c⟩
 |dT kvs=>
  obtain⟨z,y,xs,r,ob,es,ep,e,c⟩:=x;exact⟨z,y,xs,Paired.mapP r λp q z=>⟨z.1,ht _ _ z.2.1,z.2.2⟩,ob,es,ep,k _ _ (.inl rfl) e,c⟩
 |set S n=>obtain⟨ob,es,ep,t,e,c⟩:=x;exact⟨ob,es,ep,t,k _ _ (.inl rfl) e,c⟩
 |ins C dx fs=>
  obtain⟨d,z,ne,e,Y,⟨J,es,ep,e2,c⟩,r⟩:=x;exact⟨ho _ d,z,ne,k _ _ (.inl rfl) e,Y,⟨J,es,ep,k _ _ (.inr d) e2,c⟩,r⟩
 |own y=>obtain⟨ob,e⟩:=x;exact⟨ob,k _ _ (.inl rfl) e⟩
 |xd fs=>obtain⟨Y,⟨J,es,ep,e,c⟩,r⟩:=x;exact⟨Y,⟨J,es,ep,k _ _ (.inl rfl) e,c⟩,r⟩
 |rng lo hi=>obtain⟨t,u,v,e⟩:=x;exact⟨t,u,v,k _ _ (.inl rfl) e⟩
 |frz ob u ih=>obtain⟨e,q⟩:=x;exact⟨k _ _ (.inl rfl) e,ih q⟩
 |cot q=>obtain⟨ps,e,g⟩:=x;exact⟨ps,k _ _ (.inl rfl) e,g.imp λc ⟨oc,z,i⟩=>⟨oc,hz _ _ _ z,i⟩⟩
 |tbl ps=>
  have e:h.get? a=some { cls:=.none,data:=.fields ps }:=x;show h'.get? a=some { cls:=.none,data:=.fields ps };exact k a _ (.inl rfl) e
 |met f y=>
  have e:h.get? a=some (W.methodObj (.ref f) (.ref y)):=x;show h'.get? a=some (W.methodObj (.ref f) (.ref y));exact k a _ (.inl rfl) e
 |ext φ=>obtain⟨p,⟨o,e⟩,st⟩:=x;exact⟨st _ _ p λo q=>k _ _ (.inl rfl) q,⟨o,k _ _ (.inl rfl) e⟩,st⟩
def HOk.lt(x:HOk P w H h)(e:H a=some o):a<h.objs.size:=(x a o e).lt
def HOk.fresh(x:HOk P w H h)(e:h.objs.size<=a):H a=none:=by
 cases q:H a with
 |none=>rfl
 |some u=>exact absurd (xi (x.lt q) e) (wf _)
def HOk.kept(x:HOk P w H h)(k:∀b u,h.get? b=some u->h'.get? b=some u):HOk P w H h':=λa o e=>
 (x a o e).stay (λb u _ q=>k b u q) (λ_ q=>q) (λ_ _ q=>q) λ_ _ _ q=>q
def HOk.laid(x:HOk P w H h)(k:∀b u,h.get? b=some u->h'.get? b=some u)(hp:h.objs.size<=a)(J:ObjOk P w (upd H a o) h' a o):HOk P w (upd H a o) h':=λb u e=>by
 have W:=x.fresh hp
 by_cases Y:b=a
 ·subst Y;rw[yx] at e;cases e;exact J
 ·rw [ww Y] at e
  exact(x b u e).stay (λc v _ q=>k c v q) (λc q=>by rw[ww (yC q W)];exact q) (λc xs q=>by rw[ww (yC q W)];exact q) λc o u q=>by rw[ww (yC q W)];exact q
end
def Rd(H:Hp)(a:Addr)(u:HO):Prop:=H a=some u\/∃o,H a=some (.frz o u)
def Rd.ok(r:Rd H a u)(x:HOk P w H h):ObjOk P w H h a u:=by
 rcases r with r |⟨o,r⟩
 ·exact x a u r
 ·obtain⟨_,q⟩:=x a _ r;exact q
noncomputable def Mut:Option HO->Prop
 |some (.lst _)=>True
 |some (.dK _)=>True
 |some (.dT _)=>True
 |some (.set _ _)=>True
 |some (.ins _ _ _)=>True
 |some (.ext _)=>True
 |_=>False
section
variable {P:Qq3}{w:Qqa}{H:Hp}{h h':Heap}{x e:Addr}{o':HO}
def HOk.write(ok:HOk P w H h)(Y:Mut (H x))(he:e=x\/H e=some (.own x))(k:∀b u,b≠e->h.get? b=some u->h'.get? b=some u)(ad:∃u,h'.get? e=some u)
  (ac:ObjOk P w (upd H x o') h' x o'):HOk P w (upd H x o') h':=λb u q=>by
 have W:∀c y,H c=some (.own y)->c≠x:=λc y r z=>by subst z;rw[r] at Y;exact Y
 have aa:∀c xs,H c=some (.tup xs)->c≠x:=λc xs r z=>by subst z;rw[r] at Y;exact Y
 by_cases hb:b=x
 ·subst hb;rw[yx] at q;cases q;exact ac
 ·rw [ww hb] at q
  by_cases J:b=e
  ·have q' : H b = some (.own x) := by
    rcases he with z |z
    ·exact absurd (J.trans z) hb
    ·rw[J];exact z
   rw[q] at q';cases q';obtain⟨v,hv⟩:=ad
   exact⟨v,by rw[J];exact hv⟩
  ·refine (ok b u q).stay (λc v hc r => k c v ?_ r) (λc r => by rw [ww (W c b r)]; exact r) (λc xs r => by rw [ww (aa c xs r)]; exact r) λc o u r => by rw [ww (λz => by rw [<- z, r] at Y; exact Y)]; exact r
   rcases hc with rfl |hc
   ·exact J
   ·rintro rfl
    rcases he with z |z
    ·exact W c b hc z
    ·rw[hc] at z;cases z;exact hb rfl
end
structure Un(fs ex:Qqc)(H H':Hp)(h h':Heap):Prop where
 keep:∀b o,h.get? b=some o->H b=none->b ∉ fs->b ∉ ex->h'.get? b=some o
 slot:∀b o,h.get? b=some o->H b=none->b∈fs->b ∉ ex->∃sl,h'.get? b=some { o with slots:=sl }
 free:∀b o,h.get? b=some o->H b=none->b ∉ ex->H' b=none
 there:∀b o,h.get? b=some o->b ∉ ex->∃o',h'.get? b=some o'
 tups:∀b xs,H b=some (.tup xs)->H' b=some (.tup xs)
 frzs:∀b o u,H b=some (.frz o u)->H' b=some (.frz o u)
 tbls:∀b ps,H b=some (.tbl ps)->∃more,H' b=some (.tbl (ps++more))
section
variable {fs fs' ex ex':Qqc}{H H1 H2:Hp}{h h1 h2 h':Heap}{a x e:Addr}{o:HO}
def Un.any(u:Un fs ex H H1 h h1)(q:h.get? b=some ob)(n:H b=none)(hx:b ∉ ex):∃W,h1.get? b=some { ob with slots:=W }:=by
 by_cases J:b∈fs
 ·exact u.slot b ob q n J hx
 ·exact⟨ob.slots,u.keep b ob q n J hx⟩
def Un.kept(k:∀b u,h.get? b=some u->h'.get? b=some u):Un fs ex H H h h':=
 ⟨λb ob q _ _ _=>k b ob q,λb ob q _ _ _=>⟨ob.slots,k b ob q⟩,λ_ _ _ n _=>n,λb ob q _=>⟨ob,k b ob q⟩,λ_ _ q=>q,λ_ _ _ q=>q,λ_ ps q=>⟨#[],by rw[q];simp⟩⟩
def Un.refl:Un fs ex H H h h:=Un.kept λ_ _ q=>q
def Un.laid(k:∀b u,h.get? b=some u->h'.get? b=some u)(W:h.objs.size<=a)(J:H a=none):Un fs ex H (upd H a o) h h' where
 keep:=λb u q _ _ _=>k b u q
 slot:=λb u q _ _ _=>⟨u.slots,k b u q⟩
 free:=λb u q n _=>by rw[ww (zJ (xi (zw q) W))];exact n
 there:=λb u q _=>⟨u,k b u q⟩
 tups:=λb xs q=>by rw[ww (yC q J)];exact q
 frzs:=λb u xs q=>by rw[ww (yC q J)];exact q
 tbls:=λb ps q=>⟨#[],by rw[ww (yC q J),q];simp⟩
def Un.write(W:Mut (H x))(he:e=x\/H e=some (.own x))(k:∀b u,b≠e->h.get? b=some u->h'.get? b=some u)(aa:∃u,h'.get? e=some u):Un fs ex H (upd H x o) h h':=by
 have hx:∀b,H b=none->b≠x:=λb n z=>by subst z;rw[n] at W;exact W
 have hb:∀b,H b=none->b≠e:=λb n z=>by
  subst z
  rcases he with r |r
  ·exact hx b n r
  ·rw[n] at r;cases r
 have Y:∀b u,H b=some u->¬ Mut (some u)->b≠x:=λb u q nm z=>by subst z;rw[q] at W;exact nm W
 refine⟨λb u q n _ _=>k b u (hb b n) q,λb u q n _ _=>⟨u.slots,k b u (hb b n) q⟩,λb u q n _=>by rw[ww (hx b n)];exact n,λb u q _=>?_,
  λb xs q=>by rw[ww (Y b _ q λz=>z)];exact q,λb u xs q=>by rw[ww (Y b _ q λz=>z)];exact q,λb ps q=>⟨#[],by rw[ww (Y b _ q λz=>z),q];simp⟩⟩
 by_cases J:b=e
 ·subst J;exact aa
 ·exact⟨u,k b u J q⟩
end
def trk(h:Heap)(H:Hp):List Addr:=(List.range h.objs.size).filter λa=>(H a).isSome
def zD4(h:Heap)(H:Hp):Heap:=W.hideAll h (trk h H)
def zx9(h:Heap)(H:Hp):(zD4 h H).objs.size=h.objs.size:=W.hideAll_size _ _
def zM0(e:h.get? b=some o)(n:H b=none):(zD4 h H).get? b=some o:=
 PySem.W.hideAll_get _ e λJ=>by
  have q:(H b).isSome=true:=(zB.mp J).2;rw[n] at q;simp at q
def zY5(e:(zD4 h H).get? b=some o):h.get? b=some o/\H b=none:=by
 have e':h.get? b=some o:=W.of_hideAll (trk h H) e;refine⟨e',?_⟩
 cases q:H b with
 |none=>rfl
 |some x=>
  have J:b∈trk h H:=zB.mpr ⟨vv.mpr (zw e'),by simp[q]⟩
  have z:(zD4 h H).get? b=none:=W.hideAll_none (trk h H) J;rw[z] at e;cases e
noncomputable def xc8(g h:Heap)(L:Addr):List (Addr × Obj):=(List.range h.objs.size).filterMap λa=>if a=L\/(g.get? a).isSome=true then none else(h.get? a).map λo=>(a,o)
noncomputable def rest(g h:Heap)(L d:Addr):List (Addr × Obj):=(xc8 g h L).filter λp=>decide (p.1≠d)
structure Mod(K:Qq5)(mg:QqM)(base:Heap):Prop where
 kin:K.In base
 glob:base.Ns mainGlobals mg
 blt:∃mb,base.Ns builtinsNs mb/\∀x:Str,x ≠ "__name__" -> mb x=bootBuiltins x
 nolimit:base.NoLimit
structure Cx where
 prog:Program
 w:World
 K:W.Frag
 mg:Str->Option Value
 base:Heap
 A:Around
 N:List Str
 s₀:Shared
 H₀:Hp
 env:Env
 outer:List Env
 stack:List Env
 ex:List Addr
 fn:Str->Bool
 calm:Bool
 pn:List (Addr × Obj)
 xe:Value->Shared->Prop
def frs(l:List Env):List Addr:=l.filterMap (·.frame)
abbrev Cx.fs(X:Cx):List Addr:=frs X.outer
def Vis(sc:Scope)(x:Str):Prop:=sc.names.lookup x=some .local\/sc.names.lookup x=some .cell\/sc.names.lookup x=some .free
def Loc(sc:Scope)(x:Str):Prop:=sc.names.lookup x=some .local\/sc.names.lookup x=some .cell
def xQ3(env:Env)(h:Heap)(m:QqM)(x:Str)(u:Value):Prop:=
 (env.kindOf x=some .local/\m x=some u)\/((env.kindOf x=some .cell\/env.kindOf x=some .free)/\∃c,env.cells.lookup x=some c/\h.IsCell c (some u))
structure Cx.Ok(X:Cx):Prop where
 mod:Mod X.K X.mg X.base
 kind:X.env.scope.kind=.function
 glob:X.env.globals=mainGlobals
 blt:X.env.builtins=builtinsNs
 above:X.s₀.heap.objs.size<=X.env.locals
 inj:∀x y c,X.env.cells.lookup x=some c->X.env.cells.lookup y=some c->x=y
 has:∀x,(X.env.kindOf x=some .cell\/X.env.kindOf x=some .free)->∃c,X.env.cells.lookup x=some c
 cab:∀x c,X.fn x=true->X.env.cells.lookup x=some c->X.s₀.heap.objs.size<=c
 hd:X.calm=true->X.A.handled=none
 frames:X.A.frames=some X.stack
 stk:X.stack=X.outer\/(X.stack=X.env::X.outer/\X.env.frame=some X.env.locals)
 exf:∀b∈X.ex,b≠X.env.locals/\∀x c,X.env.cells.lookup x=some c->c≠b
 bs:∀b o,X.base.get? b=some o->X.s₀.heap.get? b=some o/\X.H₀ b=none
 bsz:X.base.objs.size<=X.s₀.heap.objs.size
 noex:∀b o,X.base.get? b=some o->b ∉ X.ex
 exfs:∀b∈X.ex,b ∉ X.fs
 funs:X.s₀.heap.FunFrames X.base X.outer
 frf:∀b∈X.fs,X.H₀ b=none
structure Inv(X:Cx)(pins:QqL)(σ:List (Option V))(H:Hp)(s:Qq1):Prop where
 ok:X.Ok
 os:s.os=X.s₀.os
 bare:AllBare s.gens
 base:Un X.fs X.ex X.H₀ H X.s₀.heap s.heap
 loc:∃m,s.heap.Ns X.env.locals m/\∀(i:Nat) (x:Str) (v:V),X.N[i]?=some x->σ[i]?=some (some v)->Vis X.env.scope x->∃u,RelV v u/\xQ3 X.env s.heap m x u
 cell:∀x c,X.env.cells.lookup x=some c->∃v,s.heap.IsCell c v
 free:H X.env.locals=none
 freeC:∀x c,X.env.cells.lookup x=some c->H c=none
 pin:∀p∈X.pn++pins,s.heap.get? p.1=some p.2/\H p.1=none/\p.1≠X.env.locals/\p.1 ∉ X.fs/\∀v,p.2.data≠.cell v
 hok:HOk X.prog X.w H s.heap
 len:σ.length=X.N.length
section
variable {X:Cx}{pins:QqL}{σ:List (Option V)}{H H':Hp}{s:Qq1}{h':Heap}
def Cx.Ok.nofr(ok:X.Ok)(e:X.base.get? b=some o):b ∉ X.fs:=λJ=>by
 have:=(ok.funs.mem J).1;rw[e] at this;cases this
def Inv.bs(I:Inv X pins σ H s):∀b o,X.base.get? b=some o->s.heap.get? b=some o/\H b=none:=λb o e=>
 ⟨I.base.keep b o (I.ok.bs b o e).1 (I.ok.bs b o e).2 (I.ok.nofr e) (I.ok.noex b o e),I.base.free b o (I.ok.bs b o e).1 (I.ok.bs b o e).2 (I.ok.noex b o e)⟩
def Inv.bk(I:Inv X pins σ H s):∀b o,X.base.get? b=some o->s.heap.get? b=some o:=λb o e=>(I.bs b o e).1
def Inv.mod(I:Inv X pins σ H s):Mod X.K X.mg X.base:=I.ok.mod
def Inv.kIn(I:Inv X pins σ H s):X.K.In s.heap:=I.ok.mod.kin.keeps I.bk
def Inv.nolimit(I:Inv X pins σ H s):s.heap.NoLimit:=I.ok.mod.nolimit.keeps I.bk
def Inv.lt(I:Inv X pins σ H s):X.env.locals<s.heap.objs.size:=let ⟨_,J,_⟩:=I.loc;J.lt
def Inv.sz(I:Inv X pins σ H s):X.s₀.heap.objs.size<=s.heap.objs.size:=zG I.ok.above (wb I.lt)
def Inv.nofs(I:Inv X pins σ H s)(h:s.heap.objs.size<=a):a ∉ X.fs:=λJ=>by
 obtain⟨_,o,ho,_⟩:=I.ok.funs.mem J;exact absurd (xi (zw ho) (zG I.sz h)) (wf _)
def Inv.cne(I:Inv X pins σ H s):∀x c,X.env.cells.lookup x=some c->c≠X.env.locals:=λx c e z=>by
 obtain⟨v,o,ho,hd⟩:=I.cell x c e;obtain⟨m,⟨o',es,ep,ho',hd',_⟩,_⟩:=I.loc;rw[z,ho'] at ho;cases ho;rw[hd'] at hd;cases hd
def Inv.funs(I:Inv X pins σ H s):s.heap.FunFrames X.base X.outer:=by
 have all:∀(l:List Env),(∀b∈frs l,b∈X.fs)->X.s₀.heap.FunFrames X.base l->s.heap.FunFrames X.base l:=by
  intro l
  induction l with
  |nil=>intro _ _;trivial
  |cons env r ih=>
   intro hs hl;obtain⟨hk,⟨L,o,J,hn,ho,hd⟩,hr⟩:=hl
   have Y:L∈X.fs:=hs L (by unfold frs;rw[vp,J];exact xj)
   obtain⟨sl,e⟩:=I.base.slot L o ho (I.ok.frf L Y) Y λz=>I.ok.exfs L z Y
   exact⟨hk,⟨L,_,J,hn,e,hd⟩,ih (λb W=>hs b (by unfold frs;rw[vp,J];exact zk _ W)) hr⟩
 exact all X.outer (λ_ W=>W) I.ok.funs
def Inv.stack(I:Inv X pins σ H s):s.heap.FunFrames X.base X.stack:=by
 rcases I.ok.stk with e |⟨e,W⟩
 ·rw[e];exact I.funs
 ·rw [e];obtain⟨m,J,_⟩:=I.loc
  refine .cons (by rw[I.ok.kind];decide) W J ?_ I.funs
  exact Heap.get?_none_of_le (zG I.ok.bsz I.ok.above)
def Inv.stkSub(I:Inv X pins σ H s):∀b∈frs X.stack,b∈X.env.locals::X.fs:=λb J=>by
 rcases I.ok.stk with e |⟨e,W⟩
 ·rw[e] at J;exact zk _ J
 ·rw[e] at J;unfold frs at J;rw[vp,W] at J;exact J
def Inv.stkFree(I:Inv X pins σ H s):∀b∈frs X.stack,H b=none:=λb J=>by
 rcases zn.mp (I.stkSub b J) with e |J
 ·rw[e];exact I.free
 ·obtain⟨_,o,ho,_⟩:=I.ok.funs.mem J;exact I.base.free b o ho (I.ok.frf b J) λz=>I.ok.exfs b z J
def Inv.step{g':Array GenState}{t':Nat}{d':Drawn}{ch:Qqc}(I:Inv X pins σ H s)
  (W:∀b∈ch,(b∈X.ex\/X.s₀.heap.objs.size<=b)/\b≠X.env.locals/\(∀x c,X.env.cells.lookup x=some c->c≠b)/\∀p∈X.pn++pins,p.1≠b)
  (keep:∀b o,b≠X.env.locals->b ∉ X.fs->b ∉ ch->s.heap.get? b=some o->H b=none->h'.get? b=some o)
  (slot:∀b o,b≠X.env.locals->b∈X.fs->b ∉ ch->s.heap.get? b=some o->H b=none->∃sl,h'.get? b=some { o with slots:=sl }) (free:∀b o,b ∉ ch->s.heap.get? b=some o->H b=none->H' b=none)
  (there:∀b o,b ∉ ch->s.heap.get? b=some o->∃o',h'.get? b=some o')
  (tups:∀b xs,H b=some (.tup xs)->H' b=some (.tup xs)) (frzs:∀b o u,H b=some (.frz o u)->H' b=some (.frz o u)) (tbls:∀b ps,H b=some (.tbl ps)->∃more,H' b=some (.tbl (ps++more)))
  (ns:∀m,s.heap.Ns X.env.locals m->h'.Ns X.env.locals m) (hok:HOk X.prog X.w H' h') (hg:AllBare g') :
  Inv X pins σ H' { s with heap:=h',gens:=g',drawn:=d',toks:=t' }:=by
 have ac:∀b o,X.s₀.heap.get? b=some o->b≠X.env.locals:=λb o e=>zJ (xi (zw e) I.ok.above)
 have aa:∀b o,X.s₀.heap.get? b=some o->b ∉ X.ex->b ∉ ch:=λb o e hx hb=>by
  rcases(W b hb).1 with z |z
  ·exact hx z
  ·exact absurd (xi (zw e) z) (wf _)
 have Y:∀x c,X.env.cells.lookup x=some c->∀v,s.heap.IsCell c v->h'.IsCell c v:=λx c e v ⟨o,ho,hd⟩=>by
  have J:c ∉ ch:=λz=>(W c z).2.2.1 x c e rfl
  by_cases hc:c∈X.fs
  ·obtain⟨sl,q⟩:=slot c o (I.cne x c e) hc J ho (I.freeC x c e);exact⟨_,q,hd⟩
  ·exact⟨o,keep c o (I.cne x c e) hc J ho (I.freeC x c e),hd⟩
 refine⟨I.ok,I.os,hg,⟨λb o e n hb hx=>?_,λb o e n hb hx=>?_,λb o e n hx=>?_,λb o e hx=>?_,λb xs e=>tups b xs (I.base.tups b xs e),λb o xs e=>frzs b o xs (I.base.frzs b o xs e),λb ps e=>?_⟩,?_,λx c e=>?_,?_,λx c e=>?_,λp hp=>?_,hok,I.len⟩
 ·exact keep b o (ac b o e) hb (aa b o e hx) (I.base.keep b o e n hb hx) (I.base.free b o e n hx)
 ·obtain⟨sl,e1⟩:=I.base.slot b o e n hb hx;obtain⟨sl',e2⟩:=slot b _ (ac b o e) hb (aa b o e hx) e1 (I.base.free b o e n hx);exact⟨sl',e2⟩
 ·obtain⟨o',e1⟩:=I.base.there b o e hx;exact free b o' (aa b o e hx) e1 (I.base.free b o e n hx)
 ·obtain⟨o',e1⟩:=I.base.there b o e hx;exact there b o' (aa b o e hx) e1
 ·obtain ⟨m1, e1⟩ := I.base.tbls b ps e;obtain⟨m2,e2⟩:=tbls b _ e1
  exact⟨m1++m2,by rw[e2,Array.append_assoc]⟩
 ·obtain ⟨m, hn, hl⟩ := I.loc;refine⟨m,ns m hn,λi x v e1 e2 e3=>?_⟩;obtain⟨u,r,l⟩:=hl i x v e1 e2 e3;refine⟨u,r,?_⟩
  rcases l with l |⟨k,c,e,z⟩
  ·exact .inl l
  ·exact .inr ⟨k,c,e,Y x c e _ z⟩
 ·obtain⟨v,z⟩:=I.cell x c e;exact⟨v,Y x c e v z⟩
 ·obtain⟨m,⟨o,_,_,ho,_⟩,_⟩:=I.loc;exact free _ o (λz=>(W _ z).2.1 rfl) ho I.free
 ·obtain⟨v,o,ho,hd⟩:=I.cell x c e;exact free c o (λz=>(W c z).2.2.1 x c e rfl) ho (I.freeC x c e)
 ·obtain⟨e,n,ne,nf,d⟩:=I.pin p hp;have J:p.1 ∉ ch:=λz=>(W p.1 z).2.2.2 p hp rfl;exact⟨keep p.1 p.2 ne nf J e n,free p.1 p.2 J e n,ne,nf,d⟩
def Inv.un{t':Nat}(I:Inv X pins σ H s)(u:Un X.fs [] H H' s.heap h')(hok:HOk X.prog X.w H' h'):Inv X pins σ H' { s with heap:=h',toks:=t' }:=by
 obtain⟨m,⟨o,es,ep,ho,r⟩,_⟩:=id I.loc
 obtain⟨sl,Y⟩:=u.any ho I.free (by simp)
 exact I.step (g':=s.gens) (d':=s.drawn) (ch:=[]) (λ_ z=>nomatch z) (λb o _ J _ e n=>u.keep b o e n J (by simp)) (λb o _ J _ e n=>u.slot b o e n J (by simp)) (λb o _ e n=>u.free b o e n (by simp)) (λb o _ e=>u.there b o e (by simp)) u.tups u.frzs u.tbls (λm' W=>by
  obtain⟨o',es',ep',ho',r'⟩:=W;rw[ho] at ho';cases ho'
  exact⟨_,es',ep',Y,r'⟩) hok I.bare
def Inv.call{t':Nat}(I:Inv X pins σ H s)(u:Un (frs X.stack) ch H H' s.heap h')(hok:HOk X.prog X.w H' h')(hg:AllBare g')
  (W:∀b∈ch,(b∈X.ex\/X.s₀.heap.objs.size<=b)/\b≠X.env.locals/\(∀x c,X.env.cells.lookup x=some c->c≠b)/\∀p∈X.pn++pins,p.1≠b) :
  Inv X pins σ H' { s with heap:=h',gens:=g',drawn:=d',toks:=t' }:=by
 obtain⟨m,⟨o,es,ep,ho,r⟩,_⟩:=id I.loc;obtain⟨sl,Y⟩:=u.any ho I.free λz=>(W _ z).2.1 rfl
 exact I.step (ch:=ch) W (λb o Y hb J e n=>u.keep b o e n (λz=>(zn.mp (I.stkSub b z)).elim Y hb) J) (λb o _ _ J e n=>u.any e n J) (λb o J e n=>u.free b o e n J) (λb o J e=>u.there b o e J) u.tups u.frzs u.tbls (λm' hm=>by
  obtain⟨o',es',ep',ho',r'⟩:=hm;rw[ho] at ho';cases ho'
  exact⟨_,es',ep',Y,r'⟩) hok hg
def Inv.turned{t':Nat}(I:Inv X pins σ H s)(k:∀b o,b≠it->s.heap.get? b=some o->h'.get? b=some o)(hn:H it=none)(Y:it≠X.env.locals)
  (h1:it∈X.ex\/X.s₀.heap.objs.size<=it) (h2:∀x c,X.env.cells.lookup x=some c->c≠it) (h3:∀p∈X.pn++pins,p.1≠it):Inv X pins σ H { s with heap:=h',toks:=t' }:=by
 have W:∀b u,H b=some u->b≠it:=λb u e z=>by rw[z,hn] at e;cases e
 refine I.step (g':=s.gens) (d':=s.drawn) (ch:=[it]) (λb hb=>?_) (λb o _ _ J e _=>k b o (λz=>J (by simp[z])) e) (λb o _ _ J e _=>⟨o.slots,k b o (λz=>J (by simp[z])) e⟩) (λ_ _ _ _ n=>n)
  (λb o J e=>⟨o,k b o (λz=>J (by simp[z])) e⟩) (λ_ _ e=>e) (λ_ _ _ e=>e) (λb ps e=>⟨#[],by rw[e];simp⟩) (λm hm=>?_) (λb u e=>?_) I.bare
 ·have e : b = it := by simpa using hb
  subst e;exact⟨h1,Y,h2,h3⟩
 ·obtain⟨o,es,ep,ho,r⟩:=hm;exact⟨o,es,ep,k _ o (Ne.symm Y) ho,r⟩
 ·refine (I.hok b u e).stay (λc v J q => k c v ?_ q) (λ_ q => q) (λ_ _ q => q) λ_ _ _ q => q
  rcases J with z |z
  ·rw[z];exact W b u e
  ·exact W c _ z
def Inv.tok(I:Inv X pins σ H s)(t:Nat):Inv X pins σ H { s with toks:=t }:=I.un (h':=s.heap) (t':=t) Un.refl I.hok
def Inv.kept{t':Nat}(I:Inv X pins σ H s)(k:∀b u,s.heap.get? b=some u->h'.get? b=some u):Inv X pins σ H { s with heap:=h',toks:=t' }:=I.un (Un.kept k) (I.hok.kept k)
def Inv.laid{t':Nat}(I:Inv X pins σ H s)(k:∀b u,s.heap.get? b=some u->h'.get? b=some u)(W:s.heap.objs.size<=a)(J:ObjOk X.prog X.w (upd H a o) h' a o) :
  Inv X pins σ (upd H a o) { s with heap:=h',toks:=t' }:=I.un (Un.laid k W (I.hok.fresh W)) (I.hok.laid k W J)
def Inv.write{t':Nat}(I:Inv X pins σ H s)(Y:Mut (H x))(he:e=x\/H e=some (.own x))(k:∀b u,b≠e->s.heap.get? b=some u->h'.get? b=some u)(J:∃u,h'.get? e=some u)
  (W:ObjOk X.prog X.w (upd H x o) h' x o):Inv X pins σ (upd H x o) { s with heap:=h',toks:=t' }:=I.un (Un.write Y he k J) (I.hok.write Y he k J W)
def Inv.weak(I:Inv X pins σ H s)(W:σ'.length=σ.length)(w:∀(i:Nat) v,σ'[i]?=some (some v)->σ[i]?=some (some v)):Inv X pins σ' H s:=
 ⟨I.ok,I.os,I.bare,I.base,let ⟨m,J,hl'⟩:=I.loc;⟨m,J,λi x v e1 e2 Y=>hl' i x v e1 (w i v e2) Y⟩,I.cell,I.free,I.freeC,I.pin,I.hok,W.trans I.len⟩
def Inv.pins_of(I:Inv X pins σ H s)(h:∀p∈pins',s.heap.get? p.1=some p.2/\H p.1=none/\p.1≠X.env.locals/\p.1 ∉ X.fs/\∀v,p.2.data≠.cell v):Inv X pins' σ H s:=
 ⟨I.ok,I.os,I.bare,I.base,I.loc,I.cell,I.free,I.freeC,λp J=>(xk.mp J).elim (λz=>I.pin p (xu _ z)) (h p),I.hok,I.len⟩
def zf5{N:Qq2}(hN:N.Nodup){i j:Nat}{x:Str}(a:N[i]?=some x)(b:N[j]?=some x):i=j:=by
 obtain⟨h1,W⟩:=zu.mp a;obtain⟨h2,J⟩:=zu.mp b;exact(List.getElem_inj hN).mp (W.trans J.symm)
def Kq{i:Nat}(I:Inv X pins σ H s)(hN:X.N.Nodup)(hi:X.N[i]?=some x)(hx:Loc X.env.scope x)(r:RelV v u)
  (h:∀s',Inv X pins (σ.set i (some v)) H s'->(∃a,Heap.SameBut a s.heap s'.heap/\(a=X.env.locals\/X.env.cells.lookup x=some a))->Q () s') (hf:X.fn x=true\/X.env.scope.names.lookup x=some .local:=by first |exact .inl rfl |exact .inr rfl |assumption):wpAny M A (storeName X.env x u) Q E s:=by
 obtain⟨m,hn,hl⟩:=id I.loc
 have af:(X.env.scope.kind == .class||(X.env.scope.kind == .module&&X.env.locals != X.env.globals))=false:=by rw[I.ok.kind];rfl
 have ae:i<σ.length:=by rw[I.len];exact(zu.mp hi).1
 have cne:=I.cne
 have tracked:∀{a:Addr}{h':Heap},(∃o,s.heap.get? a=some o/\H a=none)->Heap.SameBut a s.heap h'->HOk X.prog X.w H h':=λ{a h'} ha hs b ob e=>by
  obtain⟨_,_,Y⟩:=ha;refine(I.hok b ob e).stay (λc w' W q=>(hs.2 c ?_).trans q) (λ_ q=>q) (λ_ _ q=>q) λ_ _ _ q=>q;rintro rfl
  rcases W with rfl |W
  ·rw[Y] at e;cases e
  ·rw[Y] at W;cases W
 rcases hx with hk |hk
 ·refine wpAny_storeName_local hk hn (λh' hn' hs => ?_) af;obtain⟨oL,_,_,ah,_⟩:=id hn
  refine h _ ⟨I.ok,I.os,I.bare,⟨λb o e n hb hx=>?_,λb o e n hb hx=>?_,I.base.free,λb o e hx=>?_,I.base.tups,I.base.frzs,I.base.tbls⟩,⟨_,hn',λj y v' J e2 e3=>?_⟩,λy c e=>?_,I.free,I.freeC,λp hp=>?_,tracked ⟨oL,ah,I.free⟩ hs,by simpa using I.len⟩ ⟨_,hs,.inl rfl⟩
  ·exact(hs.2 b (zJ (xi (zw e) I.ok.above))).trans (I.base.keep b o e n hb hx)
  ·obtain⟨sl,J⟩:=I.base.slot b o e n hb hx;exact⟨sl,(hs.2 b (zJ (xi (zw e) I.ok.above))).trans J⟩
  ·obtain⟨o',J⟩:=I.base.there b o e hx;exact⟨o',(hs.2 b (zJ (xi (zw e) I.ok.above))).trans J⟩
  ·by_cases hj : j = i
   ·subst hj;rw[hi] at J;cases J;rw[xg ae] at e2;cases e2
    exact⟨u,r,.inl ⟨hk,by simp⟩⟩
   ·rw [xq (Ne.symm hj)] at e2;obtain⟨u',r',q⟩:=hl j y v' J e2 e3;refine⟨u',r',?_⟩
    rcases q with ⟨k,e⟩ |⟨k,c,e,z⟩
    ·refine .inl ⟨k,?_⟩;have:y≠x:=λe=>hj (zf5 hN J (e ▸ hi));simp[this,e]
    ·exact .inr ⟨k,c,e,z.sameBut hs (cne y c e)⟩
  ·obtain⟨w',z⟩:=I.cell y c e;exact⟨w',z.sameBut hs (cne y c e)⟩
  ·obtain⟨e,n,ne,nf,d⟩:=I.pin p hp;exact⟨(hs.2 p.1 ne).trans e,n,ne,nf,d⟩
 ·have aa : X.fn x = true := by
   rcases hf with z |z
   ·exact z
   ·rw[z] at hk;cases hk
  obtain⟨c,W⟩:=I.ok.has x (.inl hk);obtain⟨w',z⟩:=I.cell x c W;refine wpAny_storeName_cell I.ok.kind hk W z (λh' hc' hs=>?_);obtain⟨oc,ad,ac⟩:=id z
  refine h { s with heap:=h' } ⟨I.ok,I.os,I.bare,⟨λb o e n hb hx=>?_,λb o e n hb hx=>?_,I.base.free,λb o e hx=>?_,I.base.tups,I.base.frzs,I.base.tbls⟩,⟨m,hn.sameBut hs (Ne.symm (cne x c W)),λj y v' J e2 e3=>?_⟩,λy c' e=>?_,I.free,I.freeC,λp hp=>?_,tracked ⟨oc,ad,I.freeC x c W⟩ hs,by simpa using I.len⟩ ⟨c,hs,.inr W⟩
  ·exact(hs.2 b (zJ (xi (zw e) (I.ok.cab x c aa W)))).trans (I.base.keep b o e n hb hx)
  ·obtain⟨sl,J⟩:=I.base.slot b o e n hb hx;exact⟨sl,(hs.2 b (zJ (xi (zw e) (I.ok.cab x c aa W)))).trans J⟩
  ·obtain⟨o',J⟩:=I.base.there b o e hx;exact⟨o',(hs.2 b (zJ (xi (zw e) (I.ok.cab x c aa W)))).trans J⟩
  ·by_cases hj : j = i
   ·subst hj;rw[hi] at J;cases J;rw[xg ae] at e2;cases e2;exact⟨u,r,.inr ⟨.inl hk,c,W,hc'⟩⟩
   ·rw [xq (Ne.symm hj)] at e2;obtain⟨u',r',q⟩:=hl j y v' J e2 e3;refine⟨u',r',?_⟩
    rcases q with q |⟨k,c',e,z'⟩
    ·exact .inl q
    ·refine .inr ⟨k,c',e,z'.sameBut hs ?_⟩;rintro rfl;exact hj (zf5 hN J (I.ok.inj _ _ _ e W ▸ hi))
  ·by_cases ag : c' = c
   ·subst ag;exact⟨_,hc'⟩
   ·obtain⟨w2,z2⟩:=I.cell y c' e;exact⟨w2,z2.sameBut hs ag⟩
  ·obtain ⟨e, n, ne, nf, d⟩ := I.pin p hp;refine⟨(hs.2 p.1 ?_).trans e,n,ne,nf,d⟩;intro q;rw[q,ad] at e;have q':oc=p.2:=zD e
   exact d w' (by rw[<- q'];exact ac)
def Yz{i:Nat}(I:Inv X pins σ H s)(hN:X.N.Nodup)(hi:X.N[i]?=some x)(hx:Loc X.env.scope x)(r:RelV v u)
  (h:∀s',Inv X pins (σ.set i (some v)) H s'->Q () s') (J:X.fn x=true\/X.env.scope.names.lookup x=some .local:=by first |exact .inl rfl |exact .inr rfl |assumption):wpAny M A (storeName X.env x u) Q E s:=
 Kq I hN hi hx r (λs' I' _=>h s' I') J
def Inv.call'(I:Inv X pins σ H s)(ho:s'.os=s.os)(u:Un (frs X.stack) ch H H' s.heap s'.heap)(hok:HOk X.prog X.w H' s'.heap)(W:AllBare s'.gens)
  (J:∀b∈ch,(b∈X.ex\/X.s₀.heap.objs.size<=b)/\b≠X.env.locals/\(∀x c,X.env.cells.lookup x=some c->c≠b)/\∀p∈X.pn++pins,p.1≠b):Inv X pins σ H' s':=by
 obtain⟨h',g',d',t',o'⟩:=s';have e:o'=s.os:=ho;subst e;exact I.call (g':=g') (t':=t') (d':=d') u hok W J
end
abbrev XK:=Value->Option Addr->Hp->Prop
abbrev St:=List (Option V)
abbrev VK:=V->Hp->Prop
abbrev TE:=St->Hp->VK->Prop
abbrev TT:=St->Hp->(Bool->Hp->Prop)->Prop
abbrev TA:=St->Hp->(List V->Hp->Prop)->Prop
structure zT0 where
 nx:St->Hp->Prop
 rt:VK
 bk:St->Hp->Prop:=λ_ _=>False
 ct:St->Hp->Prop:=λ_ _=>False
abbrev TS:=zT0->St->Hp->Prop
def EP(X:Cx)(pins:QqL)(σ:St)(Q:VK)(u:Value)(s':Qq1):Prop:=∃v H',Inv X pins σ H' s'/\RelV v u/\Q v H'
def TP(X:Cx)(pins:QqL)(σ:St)(Q:Bool->Hp->Prop)(b:Bool)(s':Qq1):Prop:=∃H',Inv X pins σ H' s'/\Q b H'
def AP(X:Cx)(pins:QqL)(σ:St)(Q:List V->Hp->Prop)(us:QqW)(s':Qq1):Prop:=∃vs H',Inv X pins σ H' s'/\Vals vs us/\Q vs H'
def SP(X:Cx)(pins:QqL)(D:zT0)(f:Flow)(s':Qq1):Prop:=
 match f with
 |.next=>∃σ' H',Inv X pins σ' H' s'/\D.nx σ' H'
 |.brk=>∃σ' H',Inv X pins σ' H' s'/\D.bk σ' H'
 |.cont=>∃σ' H',Inv X pins σ' H' s'/\D.ct σ' H'
 |.ret u=>∃v σ' H',Inv X pins σ' H' s'/\RelV v u/\D.rt v H'
def PE(X:Cx)(e:Expr)(t:TE):Prop:=
 ∀(pins:QqL) (s:Qq1) (σ:St) (H:Hp) (Q:VK),Inv X pins σ H s->t σ H Q->wpAny (model X.prog X.w) X.A (eval e X.env) (EP X pins σ Q) X.xe s
def PT(X:Cx)(e:Expr)(t:TT):Prop:=
 ∀(pins:QqL) (s:Qq1) (σ:St) (H:Hp) (Q:Bool->Hp->Prop),Inv X pins σ H s->t σ H Q->wpAny (model X.prog X.w) X.A (isTrue e X.env (eval e X.env)) (TP X pins σ Q) X.xe s
def PW(X:Cx)(e:Expr)(t:TT):Prop:=
 ∀(J:Sem Value) (pins:QqL) (s:Qq1) (σ:St) (H:Hp) (Q:Bool->Hp->Prop),Inv X pins σ H s->t σ H Q->wpAny (model X.prog X.w) X.A (isTrue e X.env J) (TP X pins σ Q) X.xe s
def PW.pt(h:PW X e t):PT X e t:=h _
def PA(X:Cx)(es:Qq9)(t:TA):Prop:=
 ∀(pos:Pos) (pins:QqL) (s:Qq1) (σ:St) (H:Hp) (Q:List V->Hp->Prop),Inv X pins σ H s->t σ H Q->wpAny (model X.prog X.w) X.A (spliced (backTo pos (starEach es X.env))) (AP X pins σ Q) X.xe s
def PS(X:Cx)(st:Stmt)(t:TS):Prop:=
 ∀(pins:QqL) (s:Qq1) (σ:St) (H:Hp) (D:zT0),Inv X pins σ H s->t D σ H->wpAny (model X.prog X.w) X.A (exec st X.env) (SP X pins D) X.xe s
def PSs(X:Cx)(st:List Stmt)(t:TS):Prop:=
 ∀(pins:QqL) (s:Qq1) (σ:St) (H:Hp) (D:zT0),Inv X pins σ H s->t D σ H->wpAny (model X.prog X.w) X.A (execs st X.env) (SP X pins D) X.xe s
def thn{α:Type}{t:Sem α}{Q Q':α->Shared->Prop}{M:Model}{A:Around}{E:QqV}{s:Qq1}(h:wpAny M A t Q E s)(J:∀a s,Q a s->Q' a s):wpAny M A t Q' E s:=wV h J λ_ _ x=>x
section
variable {X:Cx}
def xD2(i:Nat):TE:=λσ H Q=>∃v,σ[i]?=some (some v)/\Q v H
def tC(v:V):TE:=λ_ H Q=>Q v H
def jH{i:Nat}(hN:X.N[i]?=some x)(hv:Vis X.env.scope x)(hd:(x == ("__debug__" : Str))=false:=by decide)(W:(x == ("__classdict__" : Str))=false:=by decide):PE X (.Name x pos) (xD2 i):=by
 intro pins s σ H Q I h;obtain⟨v,e,h⟩:=h;obtain⟨m,hn,hl⟩:=I.loc;obtain⟨u,r,l⟩:=hl i x v hN e hv;have fin:EP X pins σ Q u s:=⟨v,H,I,r,h⟩
 rcases l with ⟨hk,hm⟩ |⟨hk,c,Y,J⟩
 ·exact wpAny_Name (wpAny_loadName_local I.ok.kind hk hn hm fin) hd
 ·rcases hk with hk | hk
  ·exact wpAny_Name (wpAny_loadName_cell I.ok.kind hk Y J fin) hd
  ·exact wpAny_Name (wpAny_loadName_free I.ok.kind hk Y J fin W) hd
def ze9{i j pos}:PE X (.Constant (.int i) j pos) (tC (.int i)):=λ_ _ _ H _ I h=>wpAny_Constant_int ⟨.int i,H,I.tok _,⟨_,rfl⟩,h⟩
def xA8{b j pos}:PE X (.Constant (.bool b) j pos) (tC (.bl b)):=λ_ _ _ H _ I h=>Constant_bool ⟨.bl b,H,I,rfl,h⟩
def xi2{j pos}:PE X (.Constant .none j pos) (tC .non):=λ_ _ _ H _ I h=>Constant_none ⟨.non,H,I,rfl,h⟩
def xh9{x j pos}:PE X (.Constant (.str x) j pos) (tC (.str x)):=λ_ _ _ H _ I h=>Calls.Constant_str ⟨.str x,H,I.tok _,⟨_,rfl⟩,h⟩
def Gl(X:Cx)(x:Str):Prop:=X.env.kindOf x=some .globalImplicit
def zw2(I:Inv X pins σ H s)(W:Gl X x)(J:X.mg x=some u)(h:Q u s)
  (hd:(x == ("__debug__" : Str))=false:=by decide):wpAny (model X.prog X.w) X.A (eval (.Name x pos) X.env) Q E s:=
 Calls.Name_function_global I.ok.kind W (Calls.loadGlobal_global (by rw[I.ok.glob];exact I.mod.glob.keeps I.bk) J h) hd
def Jw(I:Inv X pins σ H s)(hg:Gl X x)(Y:X.mg x=none)(J:bootBuiltins x=some u)(h:Q u s)
  (W:x ≠ "__name__" := by decide) (hd:(x == ("__debug__" : Str))=false:=by decide):wpAny (model X.prog X.w) X.A (eval (.Name x pos) X.env) Q E s:=by
 obtain⟨mb,h1,h2⟩:=I.mod.blt
 exact Calls.Name_function_global I.ok.kind hg (Calls.loadGlobal_builtin (by rw[I.ok.glob];exact I.mod.glob.keeps I.bk) Y (by rw[I.ok.blt];exact h1.keeps I.bk) ((h2 x W).trans J) h) hd
def zW2(W:Gl X x)(J:X.mg x=some u)(r:RelV v u)(hd:(x == ("__debug__" : Str))=false:=by decide):PE X (.Name x pos) (tC v):=
 λ_ _ _ H _ I h=>zw2 I W J ⟨v,H,I,r,h⟩ hd
variable {a b:Expr}{ta tb:TE}{pos:Pos}
def tB(t:TE):TT:=λσ H Q=>t σ H λx H1=>∃c,x=.bl c/\Q c H1
def xh2{e:Expr}{t:TE}(h:PE X e t)(he:∀J,isTrue e X.env J=(do let v <- J;standAt e.pos;holding [v] (truthy v)):=by intro _;rfl):PT X e (tB t):=by
 intro pins s σ H Q I hw;refine isTrue_plain (thn (h pins s σ H _ I hw) λv s1 ⟨x,H1,I1,W,Y⟩=>?_) (he _);obtain⟨d,rfl,q⟩:=Y;cases W;exact ye ⟨H1,I1,q⟩
variable {tA tB':TT}{rest:Qq9}
def xL0(t u:TT):TT:=λσ H Q=>t σ H λc H1=>if c=true then u σ H1 Q else Q false H1
def tOr(t u:TT):TT:=λσ H Q=>t σ H λc H1=>if c=true then Q true H1 else u σ H1 Q
def xK4(t:TT):TT:=λσ H Q=>t σ H λc H1=>Q (!c) H1
def zV2(ha:PT X a tA):PW X (.BoolOp .And [a] pos) tA:=by
 intro J pins s σ H Q I h;refine isTrue_and (thn (ha pins s σ H Q I h) λc s1 e=>?_)
 cases c with
 |true=>exact isTrue_and_nil e
 |false=>exact e
def xg9(ha:PT X a tA):PW X (.BoolOp .Or [a] pos) tA:=by
 intro J pins s σ H Q I h;refine isTrue_or (thn (ha pins s σ H Q I h) λc s1 e=>?_)
 cases c with
 |false=>exact isTrue_or_nil e
 |true=>exact e
def xh0(ha:PT X a tA)(hb:PW X (.BoolOp .And (b::rest) pos) tB'):PW X (.BoolOp .And (a::b::rest) pos) (xL0 tA tB'):=by
 intro Y pins s σ H Q I h;refine isTrue_and (thn (ha pins s σ H _ I h) λc s1 ⟨H1,W,J⟩=>?_)
 cases c with
 |true=>exact hb Y pins s1 σ H1 Q W J
 |false=>exact⟨H1,W,J⟩
def xA2(ha:PT X a tA)(hb:PW X (.BoolOp .Or (b::rest) pos) tB'):PW X (.BoolOp .Or (a::b::rest) pos) (tOr tA tB'):=by
 intro Y pins s σ H Q I h;refine isTrue_or (thn (ha pins s σ H _ I h) λc s1 ⟨H1,W,J⟩=>?_)
 cases c with
 |true=>exact⟨H1,W,J⟩
 |false=>exact hb Y pins s1 σ H1 Q W J
def xh3(ha:PT X a tA):PT X (.UnaryOp .Not a pos) (xK4 tA):=by
 intro pins s σ H Q I h;exact isTrue_not (ha pins s σ H (λc H1=>Q (!c) H1) I h)
def xt7(ta tb:TE):TE:=λσ H Q=>ta σ H λx H1=>∃c,x=.bl c/\if c=true then tb σ H1 Q else Q (.bl false) H1
def xt0(ta:TE):TE:=λσ H Q=>ta σ H λx H1=>∃c,x=.bl c/\Q (.bl (!c)) H1
def xi0{op}(h:PE X a t):PE X (.BoolOp op [a] pos) t:=λpins s σ H Q I J=>BoolOp_one (h pins s σ H Q I J)
def xi3(ha:PE X a ta)(hb:PE X (.BoolOp .And (b::rest) pos) tb):PE X (.BoolOp .And (a::b::rest) pos) (xt7 ta tb):=by
 intro pins s σ H Q I h;refine BoolOp_and (thn (ha pins s σ H _ I h) λv s1 ⟨x,H1,W,Y,J⟩=>?_);obtain⟨c,rfl,J⟩:=J;cases Y;refine ye ?_
 cases c with
 |true=>exact hb pins s1 σ H1 Q W J
 |false=>exact⟨.bl false,H1,W,rfl,J⟩
def xi1(ha:PE X a ta):PE X (.UnaryOp .Not a pos) (xt0 ta):=by
 intro pins s σ H Q I h;refine UnaryOp_ (thn (ha pins s σ H _ I h) λv s1 ⟨x,H1,Y,W,J⟩=>?_);obtain⟨c,rfl,J⟩:=J;cases W;exact not_of (ye ⟨.bl (!c),H1,Y,rfl,J⟩)
def tIf(t:TT)(ta tb:TE):TE:=λσ H Q=>t σ H λc H1=>if c=true then ta σ H1 Q else tb σ H1 Q
def zH6{c:Expr}(Y:PT X c tA)(ha:PE X a ta)(hb:PE X b tb):PE X (.IfExp c a b pos) (tIf tA ta tb):=by
 intro pins s σ H Q I h;refine wpAny_IfExp (thn (Y pins s σ H _ I h) λd s1 ⟨H1,W,J⟩=>?_)
 cases d with
 |true=>exact ha pins s1 σ H1 Q W J
 |false=>exact hb pins s1 σ H1 Q W J
end
def SqL(K:Qq5)(H:Hp)(a:Addr)(xs:List V):Prop:=
 Rd H a (.lst xs) \/
  ∃(o:Obj) (its:Qq8) (n:Nat),K.lookup a=some o/\o.cls=.type "list" /\ o.dict=none/\o.data=.seq its n/\its.size<=sizeLine/\Vals xs its.toList
def SqT(K:Qq5)(H:Hp)(a:Addr)(xs:List V):Prop:=
 Rd H a (.tup xs) \/
  ∃(o:Obj) (its:Qq8) (n:Nat),K.lookup a=some o/\o.cls=.type "tuple" /\ o.data=.seq its n/\its.size<=sizeLine/\Vals xs its.toList
noncomputable def xQ2:Value->Option V
 |.none=>some .non
 |.bool b=>some (.bl b)
 |.int i _=>some (.int i)
 |.str x _=>some (.str x)
 |.bytes b _=>some (.byt b)
 |.float b _=>some (.flt b)
 |.ref a=>some (.ref a)
 |.type n=>some (.ty n)
 |_=>none
def RelV.abs(r:RelV x u):xQ2 u=some x:=by
 cases x with
 |non=>cases r;rfl
 |bl _=>cases r;rfl
 |int _=>obtain⟨t,rfl⟩:=r;rfl
 |str _=>obtain⟨t,rfl⟩:=r;rfl
 |byt _=>obtain⟨t,rfl⟩:=r;rfl
 |flt _=>obtain⟨t,rfl⟩:=r;rfl
 |ref _=>cases r;rfl
 |ty _=>cases r;rfl
def RelV.inj(r:RelV x u)(q:RelV y u):x=y:=zD (r.abs.symm.trans q.abs)
theorem Vals.inj:∀{xs ys:List V}{us:QqW},Vals xs us->Vals ys us->xs=ys
 |_,_,_,.nil,.nil=>rfl
 |_,_,_,.cons r t,.cons r' t'=>by rw[r.inj r',Vals.inj t t']
section
variable {X:Cx}{pins:QqL}{σ:St}{H:Hp}{s:Qq1}{a:Addr}{xs ys:List V}
def SqL.of{K:Qq5}(h:H a=some (.lst xs)):SqL K H a xs:=.inl (.inl h)
def Inv.list(I:Inv X pins σ H s)(h:SqL X.K H a xs):∃its:List Value,Vals xs its/\PlainL s.heap a its.toArray/\xs.length<=sizeLine:=by
 rcases h with h |⟨o,its,n,hk,J,hd,hs,hz,r⟩
 ·obtain⟨z,its,n,r,e⟩:=h.ok I.hok;exact⟨its,r,⟨_,n,e,rfl,rfl,rfl⟩,z⟩
 ·refine ⟨its.toList, r, ⟨o, n, I.kIn a o hk, J, hd, by simpa using hs⟩, ?_⟩
  have e:=r.length;simp only[zm] at e;lia
def Inv.tuple(I:Inv X pins σ H s)(h:SqT X.K H a xs):∃its:List Value,Vals xs its/\IsTup s.heap a its.toArray/\xs.length<=sizeLine:=by
 rcases h with h |⟨o,its,n,hk,J,hs,hz,r⟩
 ·obtain⟨z,its,r,p⟩:=h.ok I.hok;exact⟨its,r,p,z⟩
 ·refine ⟨its.toList, r, ⟨o, I.kIn a o hk, J, n, by simpa using hs⟩, ?_⟩
  have e:=r.length;simp only[zm] at e;lia
def Inv.list_inj(I:Inv X pins σ H s)(h:SqL X.K H a xs)(h':SqL X.K H a ys):xs=ys:=by
 obtain⟨its,r,⟨o,n,e,_,_,d⟩,_⟩:=I.list h;obtain⟨its',r',⟨o',n',e',_,_,d'⟩,_⟩:=I.list h';rw[e] at e';cases e';rw[d] at d';injection d' with d1 _
 have:its=its':=by simpa using congrArg Array.toList d1
 subst this;exact r.inj r'
def Inv.tuple_inj(I:Inv X pins σ H s)(h:SqT X.K H a xs)(h':SqT X.K H a ys):xs=ys:=by
 obtain⟨its,r,⟨o,e,_,n,d⟩,_⟩:=I.tuple h;obtain⟨its',r',⟨o',e',_,n',d'⟩,_⟩:=I.tuple h';rw[e] at e';cases e';rw[d] at d';injection d' with d1 _
 have:its=its':=by simpa using congrArg Array.toList d1
 subst this;exact r.inj r'
end
abbrev Cx.wish(X:Cx)(E:QqV):Cx:={ X with xe:=E }
abbrev Cx.nox(X:Cx):Cx:=X.wish λ_ _=>False
def Cx.Ok.wish{X:Cx}(ok:X.Ok)(E:QqV):(X.wish E).Ok:=
 ⟨ok.mod,ok.kind,ok.glob,ok.blt,ok.above,ok.inj,ok.has,ok.cab,ok.hd,ok.frames,ok.stk,ok.exf,ok.bs,ok.bsz,ok.noex,ok.exfs,ok.funs,ok.frf⟩
def Cx.Ok.unwish{X:Cx}{E:QqV}(ok:(X.wish E).Ok):X.Ok:=
 ⟨ok.mod,ok.kind,ok.glob,ok.blt,ok.above,ok.inj,ok.has,ok.cab,ok.hd,ok.frames,ok.stk,ok.exf,ok.bs,ok.bsz,ok.noex,ok.exfs,ok.funs,ok.frf⟩
section
variable {X:Cx}{pins:QqL}{σ:St}{H:Hp}{s:Qq1}{E:QqV}
def Inv.wish(I:Inv X pins σ H s)(E:QqV):Inv (X.wish E) pins σ H s:=⟨I.ok.wish E,I.os,I.bare,I.base,I.loc,I.cell,I.free,I.freeC,I.pin,I.hok,I.len⟩
def Inv.unwish(I:Inv (X.wish E) pins σ H s):Inv X pins σ H s:=⟨I.ok.unwish,I.os,I.bare,I.base,I.loc,I.cell,I.free,I.freeC,I.pin,I.hok,I.len⟩
def SP.unwish(h:SP (X.wish E) pins D f s'):SP X pins D f s':=by
 cases f with
 |next=>obtain⟨σ',H',I,q⟩:=h;exact⟨σ',H',I.unwish,q⟩
 |brk=>obtain⟨σ',H',I,q⟩:=h;exact⟨σ',H',I.unwish,q⟩
 |cont=>obtain⟨σ',H',I,q⟩:=h;exact⟨σ',H',I.unwish,q⟩
 |ret u=>obtain⟨v,σ',H',I,r,q⟩:=h;exact⟨v,σ',H',I.unwish,r,q⟩
def PSs.nox{st:List Stmt}{t:TS}(h:PSs X.nox st t):PSs X st t:=λpins s σ H D I J=>
 wV (h pins s σ H D (I.wish _) J) (λ_ _ q=>q.unwish) λ_ _ z=>False.elim z
end
section
variable {X:Cx}{st:Stmt}{rest:List Stmt}{t u:TS}{e:Expr}{te:TE}{pos:Pos}
def xt1:TS:=λD σ H=>D.nx σ H
def xD3(t u:TS):TS:=λD σ H=>t { D with nx:=u D } σ H
def zr8:PSs X [] xt1:=λ_ _ σ H _ I h=>wpAny_execs_nil ⟨σ,H,I,h⟩
def Uv(h1:PS X st t)(h2:PSs X rest u):PSs X (st::rest) (xD3 t u):=by
 intro pins s σ H D I h;refine wpAny_execs_cons (thn (h1 pins s σ H { D with nx:=u D } I h) λf s1 q=>?_)
 cases f with
 |next=>
  obtain⟨σ',H',I',q⟩:=q;exact h2 pins s1 σ' H' D I' q
 |ret v=>exact q
 |brk=>exact q
 |cont=>exact q
def zV5(h1:PS X st t):PSs X [st] t:=by
 intro pins s σ H D I h;refine wpAny_execs_cons (thn (h1 pins s σ H D I h) λf s1 q=>?_)
 cases f with
 |next=>exact wpAny_execs_nil q
 |ret v=>exact q
 |brk=>exact q
 |cont=>exact q
def Inv.quiet(I:Inv X pins σ H s):interactive X.env=false:=by simp[interactive,I.ok.kind]
def xt2(te:TE):TS:=λD σ H=>te σ H λ_ H1=>D.nx σ H1
def zs1(he:PE X e te)(hs:swapsWith e none pos.line X.env=pure false:=by rfl):PS X (.Expr e pos) (xt2 te):=by
 intro pins s σ H D I h;exact wpAny_Expr_any (thn (he pins s σ H _ I h) λv s1 ⟨x,H1,W,Y,J⟩=>⟨σ,H1,W,J⟩) I.quiet hs
def xK2(te:TE):TS:=λD σ H=>te σ H D.rt
def zP7(he:PE X e te):PS X (.Return (some e) pos) (xK2 te):=by
 intro pins s σ H D I h;exact wpAny_Return_some (thn (he pins s σ H _ I h) λv s1 ⟨x,H1,Y,J,W⟩=>⟨x,σ,H1,Y,J,W⟩)
def xK7(c:TT)(t u:TS):TS:=λD σ H=>c σ H λb H1=>if b=true then t D σ H1 else u D σ H1
def xA4{c:Expr}{a b:List Stmt}{tc:TT}(Y:PT X c tc)(ha:PSs X a t)(hb:PSs X b u):PS X (.If c a b pos) (xK7 tc t u):=by
 intro pins s σ H D I h;refine wpAny_If (thn (Y pins s σ H _ I h) λd s1 ⟨H1,W,J⟩=>?_)
 cases d with
 |true=>exact ha pins s1 σ H1 D W J
 |false=>exact hb pins s1 σ H1 D W J
end
abbrev TG:=V->St->Hp->(St->Hp->Prop)->Prop
abbrev TGs:=List V->St->Hp->(St->Hp->Prop)->Prop
def PG(X:Cx)(target:Expr)(t:TG):Prop:=
 ∀(pins:QqL) (s:Qq1) (σ:St) (H:Hp) (v:V) (u:Value) (Q:St->Hp->Prop),Inv X pins σ H s->RelV v u->t v σ H Q ->
  wpAny (model X.prog X.w) X.A (assign target X.env u) (λ_ s'=>∃σ' H',Inv X pins σ' H' s'/\Q σ' H') X.xe s
def PGs(X:Cx)(ts:Qq9)(t:TGs):Prop:=
 ∀(pins:QqL) (s:Qq1) (σ:St) (H:Hp) (vs:List V) (us:QqW) (Q:St->Hp->Prop),Inv X pins σ H s->Vals vs us->t vs σ H Q ->
  wpAny (model X.prog X.w) X.A (assignInOrder ((assignEach ts X.env).map (·.2)) us) (λ_ s'=>∃σ' H',Inv X pins σ' H' s'/\Q σ' H') X.xe s
abbrev xC7:=V->V->V->Hp->(Hp->Prop)->Prop
def xJ5(X:Cx)(t:xC7):Prop:=
 ∀(pins:QqL) (s:Qq1) (σ:St) (H:Hp) (o i v:V) (J W u:Value) (Q:Hp->Prop),Inv X pins σ H s->RelV o J->RelV i W->RelV v u->t o i v H Q ->
  wpAny (model X.prog X.w) X.A (setItem J W u) (λ_ s'=>∃H',Inv X pins σ H' s'/\Q H') X.xe s
abbrev TIp:=V->V->Hp->VK->Prop
def PIp(X:Cx)(op:Operator)(t:TIp):Prop:=
 ∀(pins:QqL) (s:Qq1) (σ:St) (H:Hp) (x y:V) (v u:Value) (Q:VK),Inv X pins σ H s->RelV x v->RelV y u->t x y H Q ->
  wpAny (model X.prog X.w) X.A (inplaceOp op v u) (EP X pins σ Q) X.xe s
section
variable {X:Cx}{pos:Pos}
def zM4(i:Nat):TG:=λv σ H Q=>Q (σ.set i (some v)) H
def Uy{i:Nat}(hN:X.N.Nodup)(hi:X.N[i]?=some x)(hx:Loc X.env.scope x)(J:X.fn x=true\/X.env.scope.names.lookup x=some .local:=by first |exact .inl rfl |exact .inr rfl |assumption):PG X (.Name x pos) (zM4 i):=by
 intro pins s σ H v u Q I r h;exact wpAny_assign_Name (Yz I hN hi hx r (λs' I'=>⟨_,H,I',h⟩) J)
def xP5:TGs:=λvs σ H Q=>vs=[]/\Q σ H
def xC2(t:TG)(u:TGs):TGs:=λvs σ H Q=>∃v r,vs=v::r/\t v σ H λσ' H'=>u r σ' H' Q
def zs5:PGs X [] xP5:=by
 intro pins s σ H vs us Q I r h;obtain⟨e,h⟩:=h;subst e;cases r;exact assignInOrder_nil ⟨σ,H,I,h⟩
def XR{e:Expr}{es:Qq9}{t:TG}{u:TGs}(h1:PG X e t)(h2:PGs X es u)
  (hs:(assignEach (e::es) X.env).map (·.2)=assign e X.env::(assignEach es X.env).map (·.2):=by rfl):PGs X (e::es) (xC2 t u):=by
 intro pins s σ H vs us Q I r h;obtain⟨v,vr,e1,h⟩:=h;subst e1
 cases r with
 |cons r W=>
  rw[hs];refine assignInOrder_cons (thn (h1 pins s σ H _ _ _ I r h) λ_ s1 ⟨J,H1,I1,Y⟩=>?_);exact h2 pins s1 J H1 _ _ Q I1 W Y
def xP3(K:Qq5)(n:Nat)(t:TGs):TG:=λv σ H Q=>∃a xs,v=.ref a/\SqT K H a xs/\xs.length=n/\t xs σ H Q
def zQ0{k:Nat}{n:Nat}(hc:X.calm=true)(h:PGs X es t)
  (hn:(assignEach es X.env).length=n:=by rfl) (W:(assignEach es X.env).findIdx? (·.1)=none:=by rfl):PG X (.Tuple es k pos) (xP3 X.K n t):=by
 intro pins s σ H v u Q I r J;obtain⟨a,xs,e1,Y,hl,J⟩:=J;subst e1;cases r;obtain⟨its,rv,ht,hz⟩:=I.tuple Y
 refine assign_Tuple_tuple (I.ok.hd hc) ht (by simp[hn,<- hl,rv.length]) W λh' hx=>?_
 have I1:Inv X pins σ H { s with heap:=h' }:=I.kept (t':=s.toks) λb o e=>hx b o (zJ (zw e)) e
 exact h pins _ σ H xs _ Q I1 (by simpa using rv) J
def xP4(to ti:TE)(t:xC7):TG:=λv σ H Q=>to σ H λo H1=>ti σ H1 λi H2=>t o i v H2 λJ=>Q σ J
def xh8{o i:Expr}{to ti:TE}{t:xC7}(ho:PE X o to)(hi:PE X i ti)(hs:xJ5 X t)
  (ha : ∀ v, assign (.Subscript o i pos) X.env v = (do
   let J <- holding [v] (eval o X.env)
   let W <- holding [v,J] (eval i X.env)
   standAt pos
   holding [v,J,W] (setItem J W v)
   release [v,J,W] []):=by intro _;rfl):PG X (.Subscript o i pos) (xP4 to ti t):=by
 intro pins s σ H v u Q I r h;rw[ha];refine zb (xJ (thn (ho pins s σ H _ I h) λJ s1 ⟨x,H1,I1,r1,q1⟩=>?_));refine zb (xJ (thn (hi pins s1 σ H1 _ I1 q1) λW Y ⟨y,H2,I2,r2,q2⟩=>?_));refine zb (wpAny_standAt (zb (xJ (thn (hs pins Y σ H2 x y v J W u _ I2 r1 r2 r q2) λ_ s3 ⟨H3,I3,q3⟩=>?_))));exact wpAny_release ⟨σ,H3,I3,q3⟩
def xt6(te:TE)(g:TG):TS:=λD σ H=>te σ H λx H1=>g x σ H1 D.nx
def ze4{tg e:Expr}{te:TE}{g:TG}(he:PE X e te)(hg:PG X tg g)(hs:swapsWithSole [tg] e pos.line X.env=pure false:=by rfl)(Y:swappedStores [tg] e X.env=pure none:=by rfl)
  (h1:(assignEach [tg] X.env).map (·.2)=[assign tg X.env]:=by rfl):PS X (.Assign [tg] e pos) (xt6 te g):=by
 intro pins s σ H D I h;refine wpAny_Assign_stores (thn (he pins s σ H _ I h) λv s1 ⟨x,H1,I1,J,W⟩=>?_) hs Y;rw[h1];exact thn (hg pins s1 σ H1 x v _ I1 J W) λ_ s2 q=>q
def ze3{i:Nat}{x:Str}{e:Expr}{te:TE}{pos':Pos}(hN:X.N.Nodup)(hi:X.N[i]?=some x)(hx:Loc X.env.scope x)(he:PE X e te)(hs:swapsWith e (some (.Name x pos')) pos.line X.env=pure false:=by rfl)(Y:X.fn x=true\/X.env.scope.names.lookup x=some .local:=by first |exact .inl rfl |exact .inr rfl |assumption) :
  PS X (.Assign [.Name x pos'] e pos) (xt6 te (zM4 i)):=by
 intro pins s σ H D I h;refine wpAny_Assign_Name (thn (he pins s σ H _ I h) λv s1 ⟨y,H1,I1,J,W⟩=>?_) hs;exact Yz I1 hN hi hx J (λs2 I2=>⟨_,H1,I2,W⟩) Y
def xK3(i j:Nat)(ta:TA):TS:=λD σ H=>ta σ H λvs H1=>∃v w,vs=[v,w]/\D.nx ((σ.set i (some v)).set j (some w)) H1
def zP8{i j:Nat}{x y:Str}{a b:Expr}{ta:TA}{px py pt:Pos}{Y k2 J}(hc:X.calm=true)(hN:X.N.Nodup)(hi:X.N[i]?=some x)(hj:X.N[j]?=some y)(aa:i≠j)
  (hx:X.env.scope.names.lookup x=some .local) (hy:X.env.scope.names.lookup y=some .local) (ha:PA X [a,b] ta)
  (hw:swappedStores [.Tuple [.Name x px,.Name y py] Y pt] (.Tuple [a,b] k2 J) X.env=pure (some [x,y]))
  (hs:swapsWithSole [.Tuple [.Name x px,.Name y py] Y pt] (.Tuple [a,b] k2 J) pos.line X.env=pure false:=by rfl) :
  PS X (.Assign [.Tuple [.Name x px,.Name y py] Y pt] (.Tuple [a,b] k2 J) pos) (xK3 i j ta):=by
 intro pins s σ H D I h;rw[exec_Assign_arm];refine zb (wpAny_standAt ?_);rw[hs];refine zb (ze ?_)
 rw[if_neg q9]
 refine zb (Tuple_ (thn (ha _ pins s σ H _ I h) λus s1 ⟨vs,H1,I1,r1,W⟩=>?_));obtain⟨v,w,e1,W⟩:=W;subst e1
 obtain⟨u1,u2,rfl,rv,rw'⟩:∃u1 u2,us=[u1,u2]/\RelV v u1/\RelV w u2:=by
  cases r1 with
  | cons p q =>
   cases q with
   |cons p' q'=>
    cases q';exact⟨_,_,rfl,p,p'⟩
 refine xD ?_ (by show 2<=sizeLine;decide)
 have I2:Inv X pins σ H1 { s1 with heap:=s1.heap.push { cls:=.type "tuple",data:=.seq [u1,u2].toArray } }:=I1.kept (t':=s1.toks) λb o e=>zg _ e;rw[hw];refine zb (ze ?_)
 show wpAny (model X.prog X.w) X.A (do rule "assign.swapped-stores";let items <- unpackItems (.ref s1.heap.objs.size) 2 none;assignInOrder [λv=>bindName X.env y v,λv=>bindName X.env x v] items.reverse;pure Flow.next) _ _ _
 refine zb (ym (zb (unpackItems_tuple (items:=#[u1,u2]) (I.ok.hd hc) (IsTup.new s1.heap _) λh' hx'=>?_)));have I3:=I2.kept (h':=h') (t':=s1.toks) λb o e=>hx' b o (zJ (zw e)) e;show wpAny _ _ (assignInOrder [λv=>bindName X.env y v,λv=>bindName X.env x v] [u2,u1] >>= λ_=>pure Flow.next) _ _ _;refine zb (assignInOrder_cons (wpAny_bindName (Yz I3 hN hj (.inl hy) rw' (λs2 I4=>?_) (.inr hy))));refine assignInOrder_cons (wpAny_bindName (Yz I4 hN hi (.inl hx) rv (λs3 I5=>assignInOrder_nil (ze ?_)) (.inr hx)));rw[set_comm _ _ (Ne.symm aa)] at I5;exact⟨_,H1,I5,W⟩
def xK9(i:Nat)(te:TE)(ti:TIp):TS:=λD σ H=>∃x,σ[i]?=some (some x)/\te σ H λy H1=>ti x y H1 λz H2=>D.nx (σ.set i (some z)) H2
def xh5{i:Nat}{x:Str}{e:Expr}{te:TE}{op:Operator}{ti:TIp}{pos':Pos}(hN:X.N.Nodup)(hi:X.N[i]?=some x)(hx:Loc X.env.scope x)(he:PE X e te)(ho:PIp X op ti)(hf:X.fn x=true\/X.env.scope.names.lookup x=some .local:=by first |exact .inl rfl |exact .inr rfl |assumption) :
  PS X (.AugAssign (.Name x pos') op e pos) (xK9 i te ti):=by
 intro pins s σ H D I h;obtain⟨v,e1,h⟩:=h;obtain⟨m,hn,hl⟩:=I.loc
 have W:Vis X.env.scope x:=by rcases hx with k |k;exact .inl k;exact .inr (.inl k)
 obtain⟨u,r,l⟩:=hl i x v hi e1 W;refine wpAny_AugAssign_Name ?_
 have go:wpAny (model X.prog X.w) X.A (eval e X.env) (λw s₂=>wpAny (model X.prog X.w) X.A (inplaceOp op u w) (λr Y=>wpAny (model X.prog X.w) X.A (storeName X.env x r) (λ_=>SP X pins D .next) X.xe Y) X.xe s₂) X.xe s:=by
  refine thn (he pins s σ H _ I h) λw s1 ⟨y,H1,I1,r1,q1⟩=>?_;refine thn (ho pins s1 σ H1 v y u w _ I1 r r1 q1) λz s2 ⟨zv,H2,I2,r2,q2⟩=>?_;exact Yz I2 hN hi hx r2 (λs3 I3=>⟨_,H2,I3,q2⟩) hf
 rcases l with ⟨hk,hm⟩ |⟨hk,c,hc,J⟩
 ·exact wpAny_loadName_local I.ok.kind hk hn hm go
 ·rcases hk with hk | hk
  ·exact wpAny_loadName_cell I.ok.kind hk hc J go
  ·rcases hx with k | k
   ·have:X.env.scope.names.lookup x=some .free:=hk;rw[k] at this;cases this
   ·have:X.env.scope.names.lookup x=some .free:=hk;rw[k] at this;cases this
def ipI(f:Int->Int->Int):TIp:=λx y H Q=>∃i j,x=.int i/\y=.int j/\Q (.int (f i j)) H
def xm2:PIp X .Add (ipI λi j=>i+j):=by
 intro pins s σ H x y v u Q I W J h;obtain⟨i,j,e1,Y,q⟩:=h;subst e1;subst Y;obtain⟨t,rfl⟩:=W;obtain⟨t',rfl⟩:=J;exact iadd_int ⟨.int _,H,I.tok _,⟨_,rfl⟩,q⟩
def xe1(c:TT)(tb:TS):TS:=λD σ H=>∃W:Nat->St->Hp->Prop,(∃m,W m σ H)/\∀m σ H,W m σ H ->
 c σ H λb H1=>if b=true then ∃N:St->Hp->Prop,(∀σ' H',N σ' H'->∃m',m'<m/\W m' σ' H')/\tb { D with nx:=N,ct:=N,bk:=D.nx } σ H1 else D.nx σ H1
def zH4{c:Expr}{body:List Stmt}{tc:TT}{tb:TS}(hp:PassesOwn (model X.prog X.w) X.A X.env X.xe)(hc:PT X c tc)(hb:PSs X body tb):PS X (.While c body [] pos) (xe1 tc tb):=by
 intro pins s σ H D I h;obtain⟨W,⟨m0,w0⟩,turn⟩:=h;refine wpAny_While (codeAny_whileLoop (λn s'=>∃σ' H',Inv X pins σ' H' s'/\W n σ' H') ?_ m0 ⟨σ,H,I,w0⟩);rintro n s1 ⟨σ1,H1,I1,w1⟩;refine yX hp (thn (hc pins s1 σ1 H1 _ I1 (turn n σ1 H1 w1)) λb s2 ⟨H2,I2,q2⟩=>?_)
 cases b with
 | true =>
  obtain⟨N,hN,q2⟩:=q2;rw[if_pos rfl];refine yX hp (thn (hb pins s2 σ1 H2 _ I2 q2) λf s3 q3=>?_)
  cases f with
  |next=>
   obtain⟨J,Y,I3,n3⟩:=q3;obtain⟨m',hm,w3⟩:=hN J Y n3;exact⟨m',hm,J,Y,I3,w3⟩
  |cont=>
   obtain⟨J,Y,I3,n3⟩:=q3;obtain⟨m',hm,w3⟩:=hN J Y n3;exact⟨m',hm,J,Y,I3,w3⟩
  |brk=>exact q3
  |ret v=>exact q3
 |false=>
  rw[if_neg xl];exact wpAny_execs_nil ⟨σ1,H2,I2,q2⟩
end
structure It where
 go:Nat->Hp->Prop
 yld:Nat->Hp->V->Hp->Prop
 stop:Nat->Hp->Prop
def FpOk(X:Cx)(pins:QqL)(H:Hp)(b:Addr):Prop:=
 H b=none/\b≠X.env.locals/\b ∉ X.fs/\(b∈X.ex\/X.s₀.heap.objs.size<=b)/\(∀x c,X.env.cells.lookup x=some c->c≠b)/\∀p∈X.pn++pins,p.1≠b
def Inv.fpOk(I:Inv X pins σ H s)(J:s.heap.objs.size<=b)(Y:H' b=none):FpOk X pins H' b:=by
 refine⟨Y,wm (xi I.lt J),I.nofs J,.inr (zG I.sz J),λx c e z=>?_,λp W z=>?_⟩
 ·obtain ⟨v, q⟩ := I.cell x c e
  exact absurd (xi q.lt (by rw[z];exact J)) (wf _)
 ·exact absurd (xi (zw (I.pin p W).1) (by rw[z];exact J)) (wf _)
structure Turn(P:Qq3)(w:Qqa)(K:Qq5)(tg:Expr)(J:It)(fp:Qqc)(it:Addr)(tn:Nat->Heap->Prop):Prop where
 mem:it∈fp
 obj:∀i h,tn i h->∀b∈fp,∃o,h.get? b=some o/\∀v,o.data≠.cell v
 keep:∀i h h',tn i h->(∀b∈fp,∀o,h.get? b=some o->h'.get? b=some o)->tn i h'
 item:∀(X:Cx),X.prog=P->X.w=w->X.K=K->X.calm=true->∀(i:Nat) (pins:QqL) (s:Qq1) (σ:St) (H:Hp) (E:QqV),Inv X pins σ H s->(∀b∈fp,FpOk X pins H b)->tn i s.heap->J.go i H ->
  wpAny (model P w) X.A (pyNext (.ref it)) (λr s1=>∃u,r=some u /\
   wpAny (model P w) X.A (letOwnedTupleGo tg (.ref it) u) (λ_ s2=>∃x H',Inv X pins σ H' s2/\RelV x u/\J.yld i H x H'/\tn (i+1) s2.heap/\∀b∈fp,H' b=none) E s1) E s
 done:∀(X:Cx),X.prog=P->X.w=w->X.K=K->X.calm=true->∀(i:Nat) (pins:QqL) (s:Qq1) (σ:St) (H:Hp) (E:QqV),Inv X pins σ H s->(∀b∈fp,FpOk X pins H b)->tn i s.heap->J.stop i H ->
  wpAny (model P w) X.A (pyNext (.ref it)) (λr s1=>r=none/\Inv X pins σ H s1) E s
 self:∀(A:Around) (i:Nat) (s:Qq1) (Q:QqV) (E:QqV),tn i s.heap->Q (.ref it) s->wpAny (model P w) A (pyIter (.ref it)) Q E s
abbrev TI:=St->Hp->(It->Hp->Prop)->Prop
def PIE(X:Cx)(pins:QqL)(σ:St)(tg:Expr)(R:It->Hp->Prop)(W:Value)(s2:Qq1):Prop:=
 ∃(it:Addr) (fp:Qqc) (Y:Nat->Heap->Prop) (J:It) (H':Hp),W=.ref it/\Inv X pins σ H' s2/\Turn X.prog X.w X.K tg J fp it Y/\Y 0 s2.heap/\(∀b∈fp,FpOk X pins H' b)/\R J H'
def PI(X:Cx)(tg iter:Expr)(wi:TI):Prop:=
 ∀(pins:QqL) (s:Qq1) (σ:St) (H:Hp) (R:It->Hp->Prop),Inv X pins σ H s->wi σ H R ->
  wpAny (model X.prog X.w) X.A (eval iter X.env) (λv s1=>wpAny (model X.prog X.w) X.A (pyIter v) (PIE X pins σ tg R) X.xe s1) X.xe s
def xa9(ho:s.heap.get? it=some o)(Y:o.cls=.type n)(hd:o.data=.fields vs)
    (W:["enumerate","zip","dict_itemiterator","dict_reverseitemiterator","odict_iterator","itertools.zip_longest","itertools.pairwise"].contains n=false) (J:Q () s):wpAny M A (letOwnedTupleGo tg (.ref it) u) Q E s:=by
  unfold letOwnedTupleGo
  cases tg <;> first
    |exact ze J
    |(cases u<;>first
        |exact ze J
        | (refine zb (wpAny_load ho ?_)
           rw[Y,hd]
           show wpAny M A (if (["enumerate","zip","dict_itemiterator","dict_reverseitemiterator","odict_iterator","itertools.zip_longest","itertools.pairwise"].contains n&&vs[0]? == some (rawInt _))=true then _ else _) Q E s
           rw[if_neg (by intro h;rw[W,Bool.false_and] at h;cases h)]
           exact ze J))
def Itl(K:Qq5)(a:Addr):It:=
 ⟨λi H=>∃xs x,SqL K H a xs/\xs[i]?=some x,λi H x H'=>H'=H/\∀xs,SqL K H a xs->xs[i]?=some x,λi H=>∃xs,SqL K H a xs/\xs.length<=i⟩
def Itt(K:Qq5)(a:Addr):It:=
 ⟨λi H=>∃xs x,SqT K H a xs/\xs[i]?=some x,λi H x H'=>H'=H/\∀xs,SqT K H a xs->xs[i]?=some x,λi H=>∃xs,SqT K H a xs/\xs.length<=i⟩
def Itr(lo:Int)(n:Nat):It:=⟨λi _=>i<n,λi H x H'=>H'=H/\x=.int (lo+i),λi _=>n<=i⟩
def zo6{P:Qq3}{w:Qqa}{K:Qq5}{tg:Expr}(a it:Addr):Turn P w K tg (Itl K a) [it] it (λi h=>h.IsListIter it a i) where
 mem:=by simp
 obj:=λi h st b J=>by
  have e:b=it:=by simpa using J
  subst e;obtain⟨o,e,c,d⟩:=st
  exact⟨o,e,λv z=>by rw[d] at z;cases z⟩
 keep:=λi h h' st k=>st.at λo e=>k it (by simp) o e
 item:=by
  intro X hP hw hK hc i pins s σ H E I hf st hg;subst hP hw hK;obtain⟨xs,x,Y,hx⟩:=hg;obtain⟨its,rv,p,hz⟩:=I.list Y;obtain⟨u,hu,ru⟩:=rv.get hx
  obtain⟨f0,f1,f2,f3,f4,f5⟩:=hf it (by simp)
  refine wpAny_pyNext_list_item st p.isList (x:=u) (by simpa using hu) λh' st' sb=>?_
  have I1:Inv X pins σ H { s with heap:=h' }:=I.turned (t':=s.toks) (λb o J e=>(sb.2 b J).trans e) f0 f1 f3 f4 f5;obtain⟨o,e,c,d⟩:=id st'
  exact⟨u,rfl,xa9 (s:={ s with heap:=h' }) e c d q9 ⟨x,H,I1,ru,⟨rfl,λys hy=>by rw[I.list_inj hy Y];exact hx⟩,st',λb J=>(hf b J).1⟩⟩
 done:=by
  intro X hP hw hK hc i pins s σ H E I hf st hg;subst hP hw hK;obtain⟨xs,Y,hx⟩:=hg;obtain⟨its,rv,p,hz⟩:=I.list Y
  obtain⟨f0,f1,f2,f3,f4,f5⟩:=hf it (by simp)
  have hl:=rv.length
  exact wpAny_pyNext_list_end (I.ok.hd hc) st p.isList (by simp;lia) λh' eb=>⟨rfl,I.turned (t':=s.toks) (λb o J e=>eb b o J e) f0 f1 f3 f4 f5⟩
 self:=λ_ _ _ _ _ st h=>wpAny_pyIter_listiter st h
def zj1{P:Qq3}{w:Qqa}{K:Qq5}{tg:Expr}(a it:Addr):Turn P w K tg (Itt K a) [it] it (λi h=>h.IsTupleIter it a i) where
 mem:=by simp
 obj:=λi h st b J=>by
  have e:b=it:=by simpa using J
  subst e;obtain⟨o,e,c,d⟩:=st
  exact⟨o,e,λv z=>by rw[d] at z;cases z⟩
 keep:=λi h h' st k=>st.at λo e=>k it (by simp) o e
 item:=by
  intro X hP hw hK hc i pins s σ H E I hf st hg;subst hP hw hK;obtain⟨xs,x,Y,hx⟩:=hg;obtain⟨its,rv,p,hz⟩:=I.tuple Y;obtain⟨u,hu,ru⟩:=rv.get hx
  obtain⟨f0,f1,f2,f3,f4,f5⟩:=hf it (by simp)
  refine wpAny_pyNext_tuple_item st (show s.heap.IsTuple a its.toArray from p) (x:=u) (by simpa using hu) λh' st' sb=>?_
  have I1:Inv X pins σ H { s with heap:=h' }:=I.turned (t':=s.toks) (λb o J e=>(sb.2 b J).trans e) f0 f1 f3 f4 f5;obtain⟨o,e,c,d⟩:=id st'
  exact⟨u,rfl,xa9 (s:={ s with heap:=h' }) e c d q9 ⟨x,H,I1,ru,⟨rfl,λys hy=>by rw[I.tuple_inj hy Y];exact hx⟩,st',λb J=>(hf b J).1⟩⟩
 done:=by
  intro X hP hw hK hc i pins s σ H E I hf st hg;subst hP hw hK;obtain⟨xs,Y,hx⟩:=hg;obtain⟨its,rv,p,hz⟩:=I.tuple Y
  obtain⟨f0,f1,f2,f3,f4,f5⟩:=hf it (by simp)
  have hl:=rv.length
  exact wpAny_pyNext_tuple_end (I.ok.hd hc) st (show s.heap.IsTuple a its.toArray from p) (by simp;lia) λh' eb=>⟨rfl,I.turned (t':=s.toks) (λb o J e=>eb b o J e) f0 f1 f3 f4 f5⟩
 self:=λ_ _ _ _ _ st h=>wpAny_pyIter_tupleiter st h
def zj2{P:Qq3}{w:Qqa}{K:PySem.W.Frag}{tg:Expr}(it:Addr)(lo:Int)(n:Nat):Turn P w K tg (Itr lo n) [it] it (λi h=>IsRangeIter h it (lo+(i:Nat)*1) ((n:Int)-(i:Nat)) 1) where
 mem:=by simp
 obj:=λi h st b J=>by
  have e:b=it:=by simpa using J
  subst e
  exact⟨_,st,λv z=>by
   have z':Data.fields _=Data.cell v:=z
   cases z'⟩
 keep:=λi h h' st k=>k it (by simp) _ st
 item:=by
  intro X hP hw hK hc i pins s σ H E I Y st hg;subst hP hw hK
  obtain⟨f0,f1,f2,f3,f4,f5⟩:=Y it (by simp)
  have W:=Walks.range (prog:=X.prog) (w:=X.w) (I.ok.hd hc) it lo 1 n;refine W.item i s _ _ hg st λv h' tk hv st' kk=>?_;obtain⟨t,rfl⟩:=hv
  have I1:Inv X pins σ H { s with heap:=h',toks:=tk }:=I.turned (λb o J e=>kk b o (by simpa using J) e) f0 f1 f3 f4 f5
  refine⟨_,rfl,xa9 (s:={ s with heap:=h',toks:=tk }) (n := "range_iterator") st' rfl rfl q9 ⟨.int (lo+i),H,I1,⟨t,?_⟩,⟨rfl,rfl⟩,st',λb J=>(Y b J).1⟩⟩
  rw[Int.mul_one]
 done:=by
  intro X hP hw hK hc i pins s σ H E I Y st hg;subst hP hw hK
  obtain⟨f0,f1,f2,f3,f4,f5⟩:=Y it (by simp)
  exact wpAny_pyNext_range_end (I.ok.hd hc) st (by have:n<=i:=hg;lia) λh' eb=>⟨rfl,I.turned (t':=s.toks) (λb o J e=>eb b o J e) f0 f1 f3 f4 f5⟩
 self:=λ_ _ _ _ _ st h=>wpAny_pyIter_rangeiter st h
section
variable {X:Cx}{tg:Expr}
def zG3{lo hi:Int}{J:Nat}(I:Inv X pins σ H s)(h1:-(2^62)<=lo)(h2:lo<2^62)(h3:-(2^62)<=hi)(h4:hi<2^62)
  (q:R (Itr lo (hi-lo).toNat) H):wpAny (model X.prog X.w) X.A (pyIter (.ref s.heap.objs.size)) (PIE X pins σ tg R) E { s with heap:=s.heap.push { cls:=.type "range",data:=.fields #[.int lo t,.int hi u,.int 1 v] },toks:=J }:=by
 refine wpAny_pyIter_range (IsRange.new ..) (small_one h1 h2 h3 h4) ?_;have W:Inv X pins σ H { s with heap:=s.heap.push { cls:=.type "range",data:=.fields #[.int lo t,.int hi u,.int 1 v] },toks:=J }:=I.kept λb o e=>zg _ e
 refine⟨(s.heap.push { cls:=.type "range",data:=.fields #[.int lo t,.int hi u,.int 1 v] }).objs.size,[(s.heap.push { cls:=.type "range",data:=.fields #[.int lo t,.int hi u,.int 1 v] }).objs.size],_,_,H,rfl,
  W.kept (t':=J) λb o e=>zg _ e,zj2 _ lo (hi-lo).toNat,?_,λb Y=>?_,q⟩
 ·have e1 : lo + ((0 : Nat) : Int) * 1 = lo := by simp
  have e2:(((hi-lo).toNat:Nat):Int)-((0:Nat):Int)=Builtin.Range.rangeSize lo hi 1:=by rw[rangeSize_one];split<;>lia
  show IsRangeIter _ _ (lo+((0:Nat):Int)*1) ((((hi-lo).toNat:Nat):Int)-((0:Nat):Int)) 1;rw[e1,e2];exact zr _ rfl
 ·have e : b = (s.heap.push { cls := .type "range", data := .fields #[.int lo t, .int hi u, .int 1 v] }).objs.size := by simpa using Y
  subst e;exact W.fpOk (zj _) (W.hok.fresh (zj _))
def xC1(ta:TA):TI:=λσ H R=>ta σ H λvs H1=>∃j:Int,vs=[.int j]/\-(2^62)<=j/\j<2^62/\R (Itr 0 j.toNat) H1
def zs4{a:Expr}{ta:TA}{p pos:Pos}(hg:Gl X "range")(hm:X.mg "range" = none)(ha:PA X [a] ta)(hs:starEach [a] X.env=[(false,eval a X.env)]:=by rfl):PI X tg (.Call (.Name "range" p) [a] [] pos) (xC1 ta):=by
 intro pins s σ H R I h;refine Call_ (Jw I hg hm boot_range (PyProof.Rows.callWith_type1 (thn (ha pos pins s σ H _ I h) λus s1 ⟨vs,H1,I1,Y,J⟩=>?_) hs rfl));obtain⟨j,e,J,q2,q⟩:=J;subst e
 cases Y with
 |cons r W=>
  cases W;obtain⟨t,rfl⟩:=r
  exact call_range_1 (zG3 I1 q5 q5 J q2 (by simpa using q))
def xK8(wi:TI)(g:TG)(tb:TS):TS:=λD σ H=>wi σ H λJ H1=>∃W:Nat->Nat->St->Hp->Prop,(∃m,W 0 m σ H1)/\∀i m σ H,W i m σ H ->
 (J.stop i H/\D.nx σ H)\/(J.go i H/\∃N:St->Hp->Prop,(∀σ' H',N σ' H'->∃m',m'<m/\W (i+1) m' σ' H')/\∀x H',J.yld i H x H'->g x σ H' λY H2=>tb { D with nx:=N,ct:=N,bk:=D.nx } Y H2)
noncomputable def Vw(fp:Qqc)(h:Heap):List (Addr × Obj):=fp.filterMap λb=>(h.get? b).map λo=>(b,o)
def Zx(J:b∈fp)(e:h.get? b=some o):(b,o)∈Vw fp h:=List.mem_filterMap.mpr ⟨b,J,by rw[e];rfl⟩
def Jf(J:p∈Vw fp h):p.1∈fp/\h.get? p.1=some p.2:=by
 obtain⟨b,W,e⟩:=List.mem_filterMap.mp J
 cases q:h.get? b with
 |none=>rw[q] at e;cases e
 |some o=>
  rw[q] at e;have e':(b,o)=p:=zD e;subst e';exact⟨W,q⟩
def Inv.pinned(I:Inv X pins σ H s)(Y:∀b∈fp,FpOk X pins H b)(ho:∀b∈fp,∃o,s.heap.get? b=some o/\∀v,o.data≠.cell v):Inv X (pins++Vw fp s.heap) σ H s:=
 I.pins_of λp W=>(xk.mp W).elim (λz=>I.pin p (xf _ z)) λz=>by
  obtain⟨J,e⟩:=Jf z;obtain⟨f0,f1,f2,_⟩:=Y p.1 J;obtain⟨o,e',d⟩:=ho p.1 J;rw[e] at e';cases e';exact⟨e,f0,f1,f2,d⟩
def Inv.unpinned(I:Inv X (pins++pl) σ H s):Inv X pins σ H s:=I.pins_of λp J=>I.pin p (xf _ (xu _ J))
def xh4{iter:Expr}{body:List Stmt}{wi:TI}{g:TG}{tb:TS}{pos:Pos}(hp:PassesOwn (model X.prog X.w) X.A X.env X.xe)(hc:X.calm=true)(hi:PI X tg iter wi)(hg:PG X tg g)(hb:PSs X body tb)
  (hs:∀x,foldedSetIterable iter X.env x=pure x:=by intro _;rfl):PS X (.For tg iter body [] pos) (xK8 wi g tb):=by
 intro pins s σ H D I h;refine wpAny_For (thn (hi pins s σ H _ I h) λv s1 h1=>thn h1 λah s2 h2=>?_) hs;obtain⟨it,fp,tn,J,H2,e,I2,T,af,f2,W,⟨m0,w0⟩,turn⟩:=h2;subst e;have aa:∀{H':Hp},(∀b∈fp,H' b=none)->∀b∈fp,FpOk X pins H' b:=λhn b hb=>⟨hn b hb,(f2 b hb).2⟩;refine codeAny_forLoop_any (λn s'=>∃i σ' H',Inv X pins σ' H' s'/\tn i s'.heap/\(∀b∈fp,H' b=none)/\W i n σ' H') ?_ m0 ⟨0,σ,H2,I2,af,λb hb=>(f2 b hb).1,w0⟩;rintro n s3 ⟨i,σ3,H3,I3,ad,ae,w3⟩
 rcases turn i n σ3 H3 w3 with ⟨stop,qn⟩ |⟨go,N,hN,step⟩
 ·refine yX hp (thn (T.done X rfl rfl rfl hc i pins s3 σ3 H3 X.xe I3 (aa ae) ad stop) λr s4 ⟨hr,I4⟩=>?_);subst hr;exact wpAny_execs_nil ⟨σ3,H3,I4,qn⟩
 ·refine yX hp (thn (T.item X rfl rfl rfl hc i pins s3 σ3 H3 X.xe I3 (aa ae) ad go) λr s4 ⟨u, hr, h4⟩ => ?_);subst hr;refine yX hp (thn h4 λ_ s5 ⟨x,H5,I5,r5,y5,ac,ag⟩=>?_);have I5':=I5.pinned (aa ag) (T.obj _ _ ac);refine yX hp (thn (hg _ s5 σ3 H5 x u _ I5' r5 (step x H5 y5)) λ_ s6 ⟨σ6,H6,I6,q6⟩=>?_);refine yX hp (thn (hb _ s6 σ6 H6 _ I6 q6) λf s7 q7=>?_)
  have again:∀{Y:St}{H7:Hp},Inv X (pins++Vw fp s5.heap) Y H7 s7->N Y H7->∃m,m<n/\∃i σ' H',Inv X pins σ' H' s7/\tn i s7.heap/\(∀b∈fp,H' b=none)/\W i m σ' H':=λ{Y H7} I7 n7=>by
   obtain⟨m',hm,w7⟩:=hN Y H7 n7;refine⟨m',hm,i+1,Y,H7,I7.unpinned,T.keep _ _ _ ac λb hb o e=>(I7.pin (b,o) (xf _ (xf _ (Zx hb e)))).1,λb hb=>?_,w7⟩;obtain⟨o,e,d⟩:=T.obj _ _ ac b hb;exact(I7.pin (b,o) (xf _ (xf _ (Zx hb e)))).2.1
  cases f with
  |next=>obtain⟨Y,H7,I7,n7⟩:=q7;exact again I7 n7
  |cont=>obtain⟨Y,H7,I7,n7⟩:=q7;exact again I7 n7
  |brk=>obtain⟨Y,H7,I7,q7⟩:=q7;exact⟨Y,H7,I7.unpinned,q7⟩
  |ret v=>obtain⟨x7,Y,H7,I7,r7,q7⟩:=q7;exact⟨x7,Y,H7,I7.unpinned,r7,q7⟩
end
abbrev R2:=V->V->Hp->VK->Prop
def OpR(X:Cx)(f:Value->Value->Sem Value)(r:R2):Prop:=
 ∀(pins:QqL) (s:Qq1) (σ:St) (H:Hp) (x y:V) (v u:Value) (Q:VK),Inv X pins σ H s->RelV x v->RelV y u->r x y H Q ->
  wpAny (model X.prog X.w) X.A (f v u) (EP X pins σ Q) X.xe s
def UnR(X:Cx)(f:Value->Sem Value)(r:V->Hp->VK->Prop):Prop:=
 ∀(pins:QqL) (s:Qq1) (σ:St) (H:Hp) (x:V) (v:Value) (Q:VK),Inv X pins σ H s->RelV x v->r x H Q ->
  wpAny (model X.prog X.w) X.A (f v) (EP X pins σ Q) X.xe s
def qy(X:Cx)(f:Value)(r:List V->Hp->VK->Prop):Prop:=
 ∀(pins:QqL) (s:Qq1) (σ:St) (H:Hp) (xs:List V) (us:QqW) (Q:VK),Inv X pins σ H s->Vals xs us->r xs H Q ->
  wpAny (model X.prog X.w) X.A (call f us) (EP X pins σ Q) X.xe s
def tOp(r:R2)(ta tb:TE):TE:=λσ H Q=>ta σ H λx H1=>tb σ H1 λy H2=>r x y H2 Q
def tUn(r:V->Hp->VK->Prop)(ta:TE):TE:=λσ H Q=>ta σ H λx H1=>r x H1 Q
def rI(C:Int->Int->Prop)(g:Int->Int->V):R2:=λx y H Q=>∃i j,x=.int i/\y=.int j/\C i j/\Q (g i j) H
def rI0(g:Int->Int->V):R2:=λx y H Q=>∃i j,x=.int i/\y=.int j/\Q (g i j) H
def rU(g:Int->V):V->Hp->VK->Prop:=λx H Q=>∃i,x=.int i/\Q (g i) H
section
variable {X:Cx}{a b c:Expr}{ta tb tc:TE}{pos:Pos}
def xC5(ha:PE X a ta)(hb:PE X b tb){pins:QqL}{s:Qq1}{σ:St}{H:Hp}{R:V->V->Hp->Prop}(I:Inv X pins σ H s)
  (h:ta σ H λx H1=>tb σ H1 λy H2=>R x y H2) {Q:QqV}{f:Value->Value->Sem Value}
  (hf:∀v u J x y H2,Inv X pins σ H2 J->RelV x v->RelV y u->R x y H2->wpAny (model X.prog X.w) X.A (f v u) Q X.xe J) :
  wpAny (model X.prog X.w) X.A (eval a X.env) (λv Y=>wpAny (model X.prog X.w) X.A (eval b X.env) (λu W=>wpAny (model X.prog X.w) X.A (f v u) Q X.xe W) X.xe Y) X.xe s:=by
 refine thn (ha pins s σ H _ I h) λv s1 ⟨x,H1,I1,r1,q1⟩=>?_;refine thn (hb pins s1 σ H1 _ I1 q1) λu J ⟨y,H2,I2,r2,q2⟩=>?_;exact hf v u J x y H2 I2 r1 r2 q2
def xA6(ho:OpR X (binaryOp op) r)(ha:PE X a ta)(hb:PE X b tb):PE X (.BinOp a op b pos) (tOp r ta tb):=by
 intro pins s σ H Q I h;exact wpAny_BinOp (xC5 ha hb I h λv u J x y H2 I2 Y W q=>ho pins J σ H2 x y v u Q I2 Y W q)
def xA5{op:UnaryOp}{r:V->Hp->VK->Prop}(ho:UnR X (unaryOp op) r)(ha:PE X a ta):PE X (.UnaryOp op a pos) (tUn r ta):=by
 intro pins s σ H Q I h;exact UnaryOp_ (thn (ha pins s σ H _ I h) λv s1 ⟨x,H1,Y,J,W⟩=>ho pins s1 σ H1 x v Q Y J W)
def opI{f:Value->Value->Sem Value}{C:Int->Int->Prop}{g:Int->Int->Int}
  (rule:∀(i j:Int) (t u:Tok) (s:Qq1) (Q:QqV) (E:QqV),C i j->Q (.int (g i j) s.toks) { s with toks:=s.toks+1 }->wpAny (model X.prog X.w) X.A (f (.int i t) (.int j u)) Q E s) :
  OpR X f (rI C λi j=>.int (g i j)):=by
 intro pins s σ H x y v u Q I W J h;obtain⟨i,j,rfl,rfl,Y,q⟩:=h;obtain⟨t,rfl⟩:=W;obtain⟨t',rfl⟩:=J;exact rule i j t t' s _ _ Y ⟨.int (g i j),H,I.tok _,⟨_,rfl⟩,q⟩
def xI2{f:Value->Value->Sem Value}{g:Int->Int->Int}
  (rule:∀(i j:Int) (t u:Tok) (s:Qq1) (Q:QqV) (E:QqV),Q (.int (g i j) s.toks) { s with toks:=s.toks+1 }->wpAny (model X.prog X.w) X.A (f (.int i t) (.int j u)) Q E s) :
  OpR X f (rI0 λi j=>.int (g i j)):=by
 intro pins s σ H x y v u Q I W J h;obtain⟨i,j,rfl,rfl,q⟩:=h;obtain⟨t,rfl⟩:=W;obtain⟨t',rfl⟩:=J;exact rule i j t t' s _ _ ⟨.int (g i j),H,I.tok _,⟨_,rfl⟩,q⟩
def xB2{f:Value->Value->Sem Value}{g:Int->Int->Bool}
  (rule:∀(i j:Int) (t u:Tok) (s:Qq1) (Q:QqV) (E:QqV),Q (.bool (g i j)) s->wpAny (model X.prog X.w) X.A (f (.int i t) (.int j u)) Q E s) :
  OpR X f (rI0 λi j=>.bl (g i j)):=by
 intro pins s σ H x y v u Q I W J h;obtain⟨i,j,rfl,rfl,q⟩:=h;obtain⟨t,rfl⟩:=W;obtain⟨t',rfl⟩:=J;exact rule i j t t' s _ _ ⟨.bl (g i j),H,I,rfl,q⟩
def xC9(i j:Int):Prop:=0<j/\j<1073741824
def xJ7(i j:Int):Prop:=0<=j/\j<=1000000/\i.natAbs<2^64
def CMul(i j:Int):Prop:=(-(2^64)<i/\i<2^64)\/(-(2^64)<j/\j<2^64)
def CMul.ok{i j:Int}(h:CMul i j):IntMulOk i j:=by
 rcases h with ⟨h1,h2⟩ |⟨h1,h2⟩
 ·exact .of_left (intBits_le_64 h1 h2)
 ·exact .of_right (intBits_le_64 h1 h2)
def xj4:OpR X (binaryOp .Add) (rI0 λi j=>.int (i+j)):=xI2 λ_ _ _ _ _ _ _ q=>add_int q
def xi8:OpR X (binaryOp .Sub) (rI0 λi j=>.int (i-j)):=xI2 λ_ _ _ _ _ _ _ q=>sub_int q
def xj0:OpR X (binaryOp .Mult) (rI CMul λi j=>.int (i*j)):=opI λ_ _ _ _ _ _ _ J q=>mul_int q J.ok
def zX1:OpR X (binaryOp .FloorDiv) (rI xC9 λi j=>.int (i/j)):=opI λi j _ _ _ _ _ J q=>by
 have h1:(0:Int)<j:=J.1;have h2:j<1073741824:=J.2
 exact floordiv_int q5 (by rw[Int.fdiv_eq_ediv_of_nonneg i q5];exact q) (.inl (PyProof.noPylong_small q5))
def xj1:OpR X (binaryOp .Mod) (rI (λ_ j=>0<j) λi j=>.int (i%j)):=opI λi j _ _ _ _ _ J q=>by
 have h1:(0:Int)<j:=J
 exact mod_int' q5 (by rw[Int.fmod_eq_emod_of_nonneg i q5];exact q)
def xi9:OpR X (binaryOp .Pow) (rI xJ7 λi j=>.int (i^j.toNat)):=opI λ_ _ _ _ _ _ _ J q=>pow_int_small J.1 J.2.1 J.2.2 q
def unI{f:Value->Sem Value}{g:Int->Int}
  (rule:∀(i:Int) (t:Tok) (s:Qq1) (Q:QqV) (E:QqV),Q (.int (g i) s.toks) { s with toks:=s.toks+1 }->wpAny (model X.prog X.w) X.A (f (.int i t)) Q E s) :
  UnR X f (rU λi=>.int (g i)):=by
 intro pins s σ H x v Q I J h;obtain⟨i,rfl,q⟩:=h;obtain⟨t,rfl⟩:=J;exact rule i t s _ _ ⟨.int (g i),H,I.tok _,⟨_,rfl⟩,q⟩
def xd7:UnR X (unaryOp .USub) (rU λi=>.int (-i)):=unI λ_ _ _ _ _ q=>neg_int q
end
noncomputable def xD6:V->V->Bool
 |.non,.non=>true |.non,.int _=>true |.int _,.non=>true |.non,.bl _=>true |.bl _,.non=>true |.non,.str _=>true |.str _,.non=>true
 |.int _,.int _=>true |.bl _,.bl _=>true |.str _,.str _=>true |.byt _,.byt _=>true
 |.int _,.str _=>true |.str _,.int _=>true |.bl _,.str _=>true |.str _,.bl _=>true
 |_,_=>false
def rEq:R2:=λx y H Q=>xD6 x y=true/\Q (.bl (decide (x=y))) H
def xb5{i j:Int}:decide (V.int i=V.int j)=(i == j):=by
 rw[wS];simp
def xn5{i j:Bool}:decide (V.bl i=V.bl j)=(i == j):=by
 rw[wS];simp
def xb4:decide (V.str i=V.str j)=(i == j):=by
 rw[wS];simp
def xb6:decide (V.byt i=V.byt j)=(i.toList == j.toList):=by
 rw[wS];cases i;cases j;simp
section
variable {X:Cx}{a b c:Expr}{ta tb tc:TE}{pos:Pos}
def qm{k k':Bool}(I:Inv X pins σ H s)(q:Q (.bl k) H)(e:k=k'):EP X pins σ Q (.bool k') s:=by
 subst e;exact⟨.bl k,H,I,rfl,q⟩
def UD:OpR X (compareOp .Eq) rEq:=by
 intro pins s σ H x y v u Q I Y J h;obtain⟨hs,q⟩:=h
 cases x with
 |non=>
  cases Y
  cases y with
  |non=>cases J;exact PySem.EqNone.eq_none_none (qm I q (by simp))
  |bl j=>cases J;exact PySem.EqNone.eq_none_bool (qm I q (by simp))
  |int j=>obtain⟨t',rfl⟩:=J;exact PySem.EqNone.eq_none_int (qm I q (by simp))
  |str j=>obtain⟨t',rfl⟩:=J;exact PySem.EqNone.eq_none_str (qm I q (by simp))
  |_=>exact absurd (show false=true from hs) xl
 |bl i=>
  cases Y
  cases y with
  |non=>cases J;exact PySem.EqNone.eq_bool_none (qm I q (by simp))
  |bl j=>cases J;exact eq_bool (qm I q xn5)
  |str j=>obtain⟨t',rfl⟩:=J;exact PySem.EqMixed.eq_bool_str (qm I q (by simp))
  |_=>exact absurd (show false=true from hs) xl
 |int i=>
  obtain⟨t,rfl⟩:=Y
  cases y with
  |non=>cases J;exact PySem.EqNone.eq_int_none (qm I q (by simp))
  |int j=>obtain⟨t',rfl⟩:=J;exact eq_int (qm I q xb5)
  |str j=>obtain⟨t',rfl⟩:=J;exact PySem.EqMixed.eq_int_str (qm I q (by simp))
  |_=>exact absurd (show false=true from hs) xl
 |str i=>
  obtain⟨t,rfl⟩:=Y
  cases y with
  |non=>cases J;exact PySem.EqNone.eq_str_none (qm I q (by simp))
  |bl j=>cases J;exact PySem.EqMixed.eq_str_bool (qm I q (by simp))
  |int j=>obtain⟨t',rfl⟩:=J;exact PySem.EqMixed.eq_str_int (qm I q (by simp))
  |str j=>obtain⟨t',rfl⟩:=J;exact eq_str (qm I q xb4)
  |_=>exact absurd (show false=true from hs) xl
 |byt i=>
  obtain⟨t,rfl⟩:=Y
  cases y with
  |byt j=>obtain⟨t',rfl⟩:=J;exact W.eq_bytes (qm I q xb6)
  |_=>exact absurd (show false=true from hs) xl
 |_=>cases y<;>exact absurd (show false=true from hs) xl
def xj2:OpR X (compareOp .Lt) (rI0 λi j=>.bl (decide (i<j))):=xB2 λ_ _ _ _ _ _ _ q=>lt_int q
def UC:OpR X (compareOp .Gt) (rI0 λi j=>.bl (decide (j<i))):=xB2 λ_ _ _ _ _ _ _ q=>gt_int q
def xB1:OpR X (compareOp .GtE) (rI0 λi j=>.bl (decide (j<=i))):=xB2 λ_ _ _ _ _ _ _ q=>ge_int q
def jY:OpR X (compareOp .Is) (λx y H Q=>y=.non/\Q (.bl (decide (x=.non))) H):=by
 intro pins s σ H x y v u Q I J W h;obtain⟨rfl,q⟩:=h;cases W;refine is_none_gen (qm I q ?_)
 cases x<;>first
  |(cases J;rfl)
  |(obtain⟨t,rfl⟩:=J;rfl)
def Xb:OpR X (compareOp .IsNot) (λx y H Q=>y=.non/\Q (.bl (!decide (x=.non))) H):=by
 intro pins s σ H x y v u Q I J W h;obtain⟨rfl,q⟩:=h;cases W;refine isnot_none_gen (qm I q ?_)
 cases x<;>first
  |(cases J;rfl)
  |(obtain⟨t,rfl⟩:=J;rfl)
def yE(b:Expr)(h:op≠.In:=by decide)(h2:op≠.NotIn:=by decide):behindInMarks op b=false:=by
 have W:(op == CmpOp.In)=false:=by cases op<;>first |rfl |exact absurd rfl h
 have J:(op == CmpOp.NotIn)=false:=by cases op<;>first |rfl |exact absurd rfl h2
 cases b<;>simp[behindInMarks,W,J]
def zW6(ho:OpR X (compareOp op) r)(ha:PE X a ta)(hb:PE X b tb)(hm:behindInMarks op b=false):PE X (.Compare a [op] [b] pos) (tOp r ta tb):=by
 intro pins s σ H Q I h;exact wpAny_Compare1 (xC5 ha hb I h λv u J x y H2 I2 Y W q=>ho pins J σ H2 x y v u Q I2 Y W q) hm
def xe2(t:TE):TT:=λσ H Q=>t σ H λx H'=>∃k,x=.bl k/\Q k H'
def zr6{op:CmpOp}{r:R2}(ho:OpR X (compareOp op) r)(ha:PE X a ta)(hb:PE X b tb)(hm:behindInMarks op b=false):PT X (.Compare a [op] [b] pos) (xe2 (tOp r ta tb)):=by
 intro pins s σ H Q I h
 refine wpAny_isTrue_Compare1 (thn (ha pins s σ H _ I h) λv s1 ⟨x,H1,I1,r1,q1⟩=>thn (hb pins s1 σ H1 _ I1 q1) λu J ⟨y,H2,I2,Y,q2⟩=>
  thn (ho pins J σ H2 x y v u _ I2 r1 Y q2) λc s3 ⟨z,H3,I3,W,k,e,q3⟩=>?_) hm
 subst e;cases W;exact ye ⟨H3,I3,q3⟩
def VD:(sizeLine:Nat)<2^63:=by rw[sizeLine_eq];decide
def YI(r:Vals [x] us):∃u,us=[u]/\RelV x u:=by
 cases r with
 |cons W J=>cases J;exact⟨_,rfl,W⟩
def zT3(r:Vals [x,y] us):∃u w',us=[u,w']/\RelV x u/\RelV y w':=by
 cases r with
 |cons r1 Y=>
  cases Y with
  |cons W J=>cases J;exact⟨_,_,rfl,r1,W⟩
def zi2:qy X (.builtin "abs") (λxs H Q=>∃i,xs=[.int i]/\Q (.int (if i<0 then -i else i)) H):=by
 intro pins s σ H xs us Q I r h;obtain⟨i,rfl,q⟩:=h;obtain⟨u,rfl,t,rfl⟩:=YI r
 exact call_abs_int λu J=>⟨.int (if i<0 then -i else i),H,I.tok _,⟨_,rfl⟩,q⟩
def JP(J:X.calm=true):qy X (.builtin "max") (λxs H Q=>∃i j,xs=[.int i,.int j]/\Q (.int (if j > i then j else i)) H):=by
 intro pins s σ H xs us Q I r h;obtain⟨i,j,rfl,q⟩:=h;obtain⟨u,w',rfl,⟨t,rfl⟩,⟨t',rfl⟩⟩:=zT3 r;refine max_two_ints (I.ok.hd J) λh' W k=>⟨_,H,I.kept k,?_,q⟩
 by_cases hj:j > i
 ·rw[if_pos hj,if_pos hj];exact⟨_,rfl⟩
 ·rw[if_neg hj,if_neg hj];exact⟨_,rfl⟩
def JM(J:X.calm=true):qy X (.builtin "min") (λxs H Q=>∃i j,xs=[.int i,.int j]/\Q (.int (if j<i then j else i)) H):=by
 intro pins s σ H xs us Q I r h;obtain⟨i,j,rfl,q⟩:=h;obtain⟨u,w',rfl,⟨t,rfl⟩,⟨t',rfl⟩⟩:=zT3 r;refine min_two_ints (I.ok.hd J) λh' W k=>⟨_,H,I.kept k,?_,q⟩
 by_cases hj:j<i
 ·rw[if_pos hj,if_pos hj];exact⟨_,rfl⟩
 ·rw[if_neg hj,if_neg hj];exact⟨_,rfl⟩
def WP:qy X (.type "int") (λxs H Q=>(∃i,xs=[.int i]/\Q (.int i) H)\/∃k,xs=[.bl k]/\Q (.int (if k then 1 else 0)) H):=by
 intro pins s σ H xs us Q I r h
 rcases h with ⟨i,rfl,q⟩ |⟨k,rfl,q⟩
 ·obtain⟨u,rfl,t,rfl⟩:=YI r;exact call_int_int ⟨.int i,H,I,⟨_,rfl⟩,q⟩
 ·obtain ⟨u, rfl, J⟩ := YI r;cases J
  exact call_int_bool ⟨.int (if k then 1 else 0),H,I.tok _,⟨_,rfl⟩,q⟩
end
section
variable {prog:Qq3}{w:Qqa}{A:Around}{E:QqV}{s:Qq1}{K:Qq5}{x dx C f:Addr}{mA:QqM}{name:Str}{v:Value}
end
def RelO.some_of(r:RelO (some v) o):∃u,o=some u/\RelV v u:=by
 cases o with
 |none=>exact(show False from r).elim
 |some u=>exact⟨u,rfl,r⟩
section
variable {P:Qq3}{w:Qqa}{H H':Hp}{h h':Heap}{a C dx:Addr}{fs fs':List (Str × V)}
end
section
variable {X:Cx}{pins:QqL}{σ:St}{H:Hp}{s:Qq1}{a C dx:Addr}{fs:List (Str × V)}{f:Str}{v:V}{A:Around}{E:QqV}
end
section
variable {X:Cx}{o e value:Expr}{f:Str}{pos pos' tpos:Pos}{ta tv:TE}
end
section
variable {X:Cx}{pins:QqL}{σ:St}{H:Hp}{s:Qq1}{A:Around}{E:QqV}{Q:QqV}{c:Value}{b:Bool}
end
structure Room(k:Nat)(A:Around):Prop where
 hd:A.handled=none
 dp:A.depth+3*k+5<recursionLimit
 un:A.units+16*k+200<cLine
 gd:A.guards=some []
def Room.mono{j k:Nat}(r:Room k A)(h:j<=k):Room j A:=⟨r.hd,by have:=r.dp;lia,by have:=r.un;lia,r.gd⟩
def Room.deeper{k:Nat}(r:Room (k+1) A)(env:Env):Room k (A.deeper env):=
 ⟨r.hd,by have:=r.dp;show A.depth+1+3*k+5<_;lia,by have:=r.un;show A.units+3+16*k+200<_;lia,r.gd⟩
def Room.in1{k:Nat}(r:Room (k+1) A):Room k A.in1:=
 ⟨r.hd,by have:=r.dp;show A.depth+3*k+5<_;lia,by have:=r.un;show A.units+1+16*k+200<_;lia,r.gd⟩
def Room.depth{k:Nat}(r:Room k A):A.depth<recursionLimit:=by have:=r.dp;lia
def Room.units{k:Nat}(r:Room k A):A.units+64<cLine:=by have:=r.un;lia
def xK5:TA:=λ_ H Q=>Q [] H
def xt4(ta:TE)(tr:TA):TA:=λσ H Q=>ta σ H λx H1=>tr σ H1 λxs H2=>Q (x::xs) H2
section
variable {X:Cx}{e:Expr}{es:Qq9}{te:TE}{t:TA}{pos:Pos}
def Xx:PA X [] xK5:=λ_ _ _ _ H Q I h=>Calls.spliced_nil ⟨[],H,I,.nil,h⟩
def jv(ha:PE X e te)(hr:PA X es t)(hs:starEach (e::es) X.env=(false,eval e X.env)::starEach es X.env:=by rfl):PA X (e::es) (xt4 te t):=by
 intro pos pins s σ H Q I h;rw[hs];show wpAny _ _ (spliced ((false,eval e X.env)::backTo pos (starEach es X.env))) _ _ s;refine Calls.spliced_cons (thn (ha pins s σ H _ I h) λu s1 ⟨x,H1,I1,W,q1⟩=>?_);exact thn (hr pos pins s1 σ H1 _ I1 q1) λus s2 ⟨xs,H2,I2,J,Y⟩=>⟨x::xs,H2,I2,.cons W J,Y⟩
def xK1(t:TA):TE:=λσ H Q=>t σ H λxs H1=>xs.length<=sizeLine/\∀p,H1 p=none->Q (.ref p) (upd H1 p (.tup xs))
def xK6(t:TA):TE:=λσ H Q=>t σ H λxs H1=>xs.length<=sizeLine/\∀p,H1 p=none->Q (.ref p) (upd H1 p (.lst xs))
def zs6{W}(h:PA X es t):PE X (.Tuple es W pos) (xK1 t):=by
 intro pins s σ H Q I Y
 refine wpAny_Tuple_spliced (thn (h pos pins s σ H _ I Y) λus s1 ⟨xs,H1,J,r,z,q⟩=>⟨by rw[<- r.length];exact z,?_⟩)
 have hf:H1 s1.heap.objs.size=none:=J.hok.fresh (zj _);refine⟨.ref s1.heap.objs.size,upd H1 s1.heap.objs.size (.tup xs),J.laid (t':=s1.toks) (λb u e=>zg _ e) (zj _) ?_,rfl,q _ hf⟩;exact⟨z,us,r,⟨_,zr _ rfl,rfl,_,rfl⟩⟩
def ze8(h:PA X es t):PE X (.List es pos) (xK6 t):=by
 intro pins s σ H Q I W
 refine wpAny_List_spliced (thn (h pos pins s σ H _ I W) λus s1 ⟨xs,H1,J,r,z,q⟩=>⟨by rw[<- r.length];exact z,?_⟩)
 have Y:H1 s1.heap.objs.size=none:=J.hok.fresh (zj _);refine⟨.ref s1.heap.objs.size,upd H1 s1.heap.objs.size (.lst xs),J.laid (t':=s1.toks) (λb u e=>zg _ e) (zj _) ?_,rfl,q _ Y⟩;exact⟨z,us,0,r,zr _ rfl⟩
end
abbrev Sp:=List V->Hp->VK->XK->Prop
abbrev CXT:=List Env->Hp->Shared->XK->Value->Shared->Prop
structure Env0(P:Qq3)(w:Qqa)(K:Qq5)(mg:QqM)(base:Heap)(A:Around)(outer:List Env)(s:Qq1)(H:Hp):Prop where
 frames:A.frames=some outer
 mod:Mod K mg base
 bs:∀b o,base.get? b=some o->s.heap.get? b=some o/\H b=none
 bsz:base.objs.size<=s.heap.objs.size
 funs:s.heap.FunFrames base outer
 frf:∀b∈frs outer,H b=none
 hok:HOk P w H s.heap
 bare:AllBare s.gens
def CE(outer:List Env)(P:Qq3)(w:Qqa)(H:Hp)(s:Qq1)(Q:VK)(u:Value)(s':Qq1):Prop:=
 ∃v H',s'.os=s.os/\AllBare s'.gens/\Un (frs outer) [] H H' s.heap s'.heap/\HOk P w H' s'.heap/\RelV v u/\Q v H'
def CR(CX:CXT)(outer:List Env)(P:Qq3)(w:Qqa)(H:Hp)(s:Qq1)(Q:VK)(E:XK)(r:Result)(s':Qq1):Prop:=
 match r with
 |.ok (.ret u)=>CE outer P w H s Q u s'
 |.ok _=>False
 |.error e=>CX outer H s E e s'
structure FnOk(P:Qq3)(w:Qqa)(K:Qq5)(mg:QqM)(base:Heap)(CX:CXT)(k:Nat)(f:Addr)(fd:Qqb)(ps:Qq2)(sp:Sp):Prop where
 len:∀vs H Q E,sp vs H Q E->vs.length=ps.length
 run:∀(A:Around) (outer:List Env) (s:Qq1) (H:Hp) (args:Args) (us:QqW) (vs:List V) (Q:VK) (E:XK),Room k A->Env0 P w K mg base A outer s H->BindsTo s fd args (ps.zip us)->Vals vs us->sp vs H Q E ->
  codeAny (model P w) A (.call (.ref f) args) (CR CX outer P w H s Q E) s
section
variable {X:Cx}{pins:QqL}{σ:St}{H:Hp}{s s':Qq1}
def Inv.env0(I:Inv X pins σ H s):Env0 X.prog X.w X.K X.mg X.base X.A X.stack s H:=
 ⟨I.ok.frames,I.ok.mod,I.bs,zG I.ok.bsz I.sz,I.stack,I.stkFree,I.hok,I.bare⟩
def Inv.after(I:Inv X pins σ H s)(h:CE X.stack X.prog X.w H s Q u s'):EP X pins σ Q u s':=by
 obtain⟨v,H',os,bare,un,hok,r,q⟩:=h;obtain⟨hh,g,d,t,os'⟩:=s';obtain rfl:os'=s.os:=os
 exact⟨v,H',I.call (h':=hh) (g':=g) (d':=d) (t':=t) (ch:=[]) un hok bare (λb z=>absurd z (by simp)),r,q⟩
end
def xt5(sp:Sp)(J:List V)(E:XK)(t:TA):TE:=λσ H Q=>t σ H λvs H1=>sp (vs++J) H1 Q E
def Binds(K:Qq5)(fd:Qqb)(ps:Qq2)(ds:QqW):Prop:=
 ∀(s:Qq1) (us:QqW),K.In s.heap->(us++ds).length=ps.length->BindsTo s fd ⟨us,[]⟩ (ps.zip (us++ds))
def Binds.all{K:Qq5}{fd:Qqb}{ps:Qq2}(h:∀us:List Value,us.length=ps.length->bindArgs fd ⟨us,[]⟩=pure (ps.zip us)):Binds K fd ps []:=λs us _ J=>by
 rw[wv] at J ⊢;exact .of_eq (h us J)
def zC8(CX:CXT)(X:Cx)(E:XK):Prop:=∀(pins:QqL) (σ:St) (H:Hp) (s:Qq1) (e:Value) (s':Qq1),Inv X pins σ H s->CX X.stack H s E e s'->X.xe e s'
section
variable {X:Cx}{CX:CXT}{k:Nat}{f C:Addr}{fd:Qqb}{ps:Qq2}{sp:Sp}{dvs:List V}{ds:QqW}{E:XK}{x m:Str}{p pos apos:Pos}{e o:Expr}{es:Qq9}{ta:TE}{t:TA}
def xf5(F:FnOk X.prog X.w X.K X.mg X.base CX k f fd ps sp)(Y:Room k X.A)(hb:Binds X.K fd ps ds)(hd:Vals dvs ds)(hx:zC8 CX X E)
  (I:Inv X pins σ H s) (r:Vals vs us) (h:sp (vs++dvs) H Q E):wpAny (model X.prog X.w) X.A (call (.ref f) us) (EP X pins σ Q) X.xe s:=by
 have W:Vals (vs++dvs) (us++ds):=r.append hd
 have hl:(us++ds).length=ps.length:=by rw[<- W.length];exact F.len _ _ _ _ h
 refine wpAny_call (codeAny_mono (F.run X.A X.stack s H ⟨us,[]⟩ (us++ds) (vs++dvs) Q E Y I.env0 (hb s us I.kIn hl) W h) λr s' J=>?_)
 cases r with
 |error e=>exact hx pins σ H s e s' I J
 |ok fl=>
  cases fl with
  |ret u=>exact I.after J
  |next=>exact False.elim J
  |brk=>exact False.elim J
  |cont=>exact False.elim J
def UB(F:FnOk X.prog X.w X.K X.mg X.base CX k f fd ps sp)(hr:Room k X.A)(hg:Gl X x)(hm:X.mg x=some (.ref f))(hk:W.keepIn X.K (.ref f)=true)(hb:Binds X.K fd ps ds)(hd:Vals dvs ds)(hx:zC8 CX X E)
  (ha:PA X (e::es) t) (Y:(x == ("__debug__" : Str))=false:=by decide) (he:starEach (e::es) X.env=(false,eval e X.env)::starEach es X.env:=by rfl) (J:(backTo pos (starEach es X.env)).any (·.1)=false:=by rfl) :
  PE X (.Call (.Name x p) (e::es) [] pos) (xt5 sp dvs E t):=by
 intro pins s σ H Q I h;refine wpAny_Call_Name_kw (zw2 I hg hm ?_ Y);refine W.callWith_K (h₀:=X.base) I.ok.mod.kin hk (thn (ha pos pins s σ H _ I h) λus s1 ⟨vs,H1,I1,r,q⟩=>⟨I1.kIn,?_⟩) he J;exact xf5 F hr hb hd hx I1 r q
end
section
variable {X:Cx}{CX:CXT}{k:Nat}{f C:Addr}{fd:Qqb}{ps ks:Qq2}{sp:Sp}{E:XK}{x m:Str}{p pos apos kpos:Pos}{e o:Expr}{es:Qq9}{kws:List Keyword}{te ta:TE}{t tk:TA}{nm:Option Str}
variable {g:List Value->List Value->List Value}{gV:List V->List V->List V}
end
structure FnScope(N P:Qq2)(sc:Scope):Prop where
 kind:sc.kind=.function
 co:sc.isCoroutine=false
 gen:sc.isGenerator=false
 nd:N.Nodup
 pre:N.take P.length=P
 par:∀x∈P,sc.names.lookup x=some .local\/sc.names.lookup x=some .cell
 nofree:∀y∈sc.names,y.2≠.free
theorem JS{kindOf:Str->Option NameKind}{x:Str}:∀{binds:List (Str × Value)}{m:QqM},(∀v,(x,v) ∉ binds)->bindL kindOf binds m x=m x
 |[],_,_=>rfl
 | (n, v) :: r, m, h => by
  unfold bindL;rw[JS λw J=>h w (zk _ J)]
  split
  ·have : x ≠ n := by rintro rfl; exact h v xj
   simp[this]
  ·rfl
theorem JU{kindOf:Str->Option NameKind}{x:Str}:∀{binds:List (Str × Value)}{m:QqM},(∀v,(x,v) ∉ binds)->bindC kindOf binds m x=m x
 |[],_,_=>rfl
 | (n, v) :: r, m, h => by
  unfold bindC;rw[JU λw J=>h w (zk _ J)]
  split
  ·rfl
  ·have : x ≠ n := by rintro rfl; exact h v xj
   simp[this]
def JT{kindOf:Str->Option NameKind}{x:Str}{v:Value}:∀{P:Qq2}{vs:QqW}{i:Nat}{m:QqM},P.Nodup->P[i]?=some x->vs[i]?=some v->kindOf x=some .local ->
  bindL kindOf (P.zip vs) m x=some v
 |[],_,_,_,_,h,_,_=>by simp at h
 |_::_,[],_,_,_,_,h,_=>by simp at h
 |p::P,w::vs,0,m,nd,h1,h2,hk=>by
  simp at h1 h2;subst h1;subst h2;show bindL kindOf ((p,w)::P.zip vs) m p=_;unfold bindL;rw[JS λv J=>(xM.mp nd).1 (of_mem_zip J).1,if_pos hk];simp
 |p::P,w::vs,i+1,m,nd,h1,h2,hk=>by
  show bindL kindOf ((p,w)::P.zip vs) m x=_;unfold bindL
  exact JT (i:=i) (xM.mp nd).2 (by simpa using h1) (by simpa using h2) hk
def JV{kindOf:Str->Option NameKind}{x:Str}{v:Value}:∀{P:Qq2}{vs:QqW}{i:Nat}{m:QqM},P.Nodup->P[i]?=some x->vs[i]?=some v->kindOf x≠some .local ->
  bindC kindOf (P.zip vs) m x=some v
 |[],_,_,_,_,h,_,_=>by simp at h
 |_::_,[],_,_,_,_,h,_=>by simp at h
 |p::P,w::vs,0,m,nd,h1,h2,hk=>by
  simp at h1 h2;subst h1;subst h2;show bindC kindOf ((p,w)::P.zip vs) m p=_;unfold bindC;rw[JU λv J=>(xM.mp nd).1 (of_mem_zip J).1,if_neg hk];simp
 |p::P,w::vs,i+1,m,nd,h1,h2,hk=>by
  show bindC kindOf ((p,w)::P.zip vs) m x=_;unfold bindC
  exact JV (i:=i) (xM.mp nd).2 (by simpa using h1) (by simpa using h2) hk
def start(N:Qq2)(vs:List V):St:=vs.map some++replicate (N.length-vs.length) none
def zD5(CX:CXT)(P:Qq3)(w:Qqa)(K:Qq5)(mg:QqM)(base:Heap)(N:Qq2)(J:Str)(scope:Scope)(f:Addr)(Y:Value)(A:Around)(outer:List Env)(s:Qq1)(H:Hp)(E:XK):Cx where
 prog:=P
 w:=w
 K:=K
 mg:=mg
 base:=base
 A:=A.deeper (envOfC J scope s.heap.objs.size f Y)
 N:=N
 s₀:=s
 H₀:=H
 env:=envOfC J scope s.heap.objs.size f Y
 outer:=outer
 stack:=envOfC J scope s.heap.objs.size f Y::outer
 ex:=[]
 calm:=true
 fn:=λ_=>true
 pn:=[]
 xe:=λe s'=>wpAny (model P w) (A.deeper (envOfC J scope s.heap.objs.size f Y)) (leaving (envOfC J scope s.heap.objs.size f Y) e) (λ_ s''=>CX outer H s E e s'') (λe' s''=>CX outer H s E e' s'') s'
def zi0{sc:Scope}{n:Nat}{x:Str}(h:sc.names.lookup x=some .cell):∃c,(cellsFrom n sc.names []).lookup x=some c:=by
 have q:=W.cellsFrom_some sc.names n [] (.inl h);exact Option.isSome_iff_exists.mp q
def zx5{CX:CXT}{P:Qq3}{w:Qqa}{K:Qq5}{mg:QqM}{base:Heap}{N ps:Qq2}{J:Str}{scope:Scope}{f:Addr}{cd:Value}{A:Around}{outer:List Env}{s s1:Qq1}{H:Hp}{E:XK}{us:QqW}{vs:List V}
  (S:FnScope N ps scope) (hd:A.handled=none) (e0:Env0 P w K mg base A outer s H) (hl:vs.length=ps.length) (r:Vals vs us)
  (x:InCallC s s.heap.objs.size (bindL (envOfC J scope s.heap.objs.size f cd).kindOf (ps.zip us) λ_=>none) (cellsFrom (s.heap.objs.size+1) scope.names []) (bindC (envOfC J scope s.heap.objs.size f cd).kindOf (ps.zip us) λ_=>none) s1) :
  Inv (zD5 CX P w K mg base N J scope f cd A outer s H E) [] (start N vs) H s1:=by
 have ac:ps.length<=N.length:=by have:=congrArg List.length S.pre;rw[xr] at this;lia
 obtain⟨h1,tk,rfl,hk⟩:=x.done
 have Y:∀b:Addr,b ∉ (zD5 CX P w K mg base N J scope f cd A outer s H E).ex:=λb z=>absurd (show b∈([]:Qqc) from z) (by simp)
 refine⟨⟨e0.mod,S.kind,rfl,rfl,zj _,λy z c h1 h2=>?_,λy hy=>?_,λy c _ h=>?_,λ_=>hd,Around.frames_deeper e0.frames,.inr ⟨rfl,rfl⟩,λb z=>absurd z (Y b),e0.bs,e0.bsz,λb _ _=>Y b,λb z=>absurd z (Y b),e0.funs,e0.frf⟩,
  rfl,e0.bare,Un.kept hk,⟨_,x.toInCall.ns,λi y v h1 h2 h3=>?_⟩,λy c h=>⟨_,x.cell y c h⟩,e0.hok.fresh (zj _),λy c h=>?_,λp hp=>absurd (show p∈([]:QqL) from hp) (by simp),e0.hok.kept hk,?_⟩
 ·exact name_of_addr x.apart (PySem.mem_of_lookup h1) (PySem.mem_of_lookup h2)
 ·have hy : scope.names.lookup y = some .cell \/ scope.names.lookup y = some .free := hy
  rcases hy with hy |hy
  ·exact zi0 hy
  ·exact absurd rfl (S.nofree _ (PySem.mem_of_lookup hy))
 ·exact wb (x.above y c (PySem.mem_of_lookup h))
 ·have hi : i < vs.length := by
   unfold start at h2
   by_cases hi:i<vs.length
   ·exact hi
   ·rw [xC (by simpa using hi)] at h2
    rw[xS] at h2
    split at h2<;>cases h2
  have ha:vs[i]?=some v:=by
   unfold start at h2
   rw[xW (by simpa using hi),zy] at h2
   cases e:vs[i]? with
   |none=>rw[e] at h2;cases h2
   |some a=>rw[e] at h2;cases h2;rfl
  obtain⟨u,hu,rv⟩:=r.get ha
  have hp:ps[i]?=some y:=by
   rw[<- S.pre,List.getElem?_take_of_lt q5];exact h1
  have aa:ps.Nodup:=by rw[<- S.pre];exact S.nd.sublist (ve _ _)
  refine⟨u,rv,?_⟩
  rcases S.par y (zV hp) with k |k
  ·exact .inl ⟨k,JT aa hp hu k⟩
  ·obtain ⟨c, e⟩ := zi0 (n := s.heap.objs.size + 1) k;refine .inr ⟨.inl k,c,e,?_⟩;have q:=x.cell y c e
   rw[JV aa hp hu (by show scope.names.lookup y≠_;rw[k];decide)] at q
   exact q
 ·exact e0.hok.fresh (wb (x.above y c (PySem.mem_of_lookup h)))
 ·unfold start;show _=N.length;rw[zF,zf,wN];lia
def xm8{CX:CXT}{P:Qq3}{w:Qqa}{K:Qq5}{mg:QqM}{base:Heap}{k:Nat}{f:Addr}{name Y:Str}{ac:Arguments}{body:List Stmt}{scope:Scope}{dV kV ag pm aa ct oc:Value}{an od:QqE}
  {ah:Array (Option Value)}{N ps:Qq2}{sp:Sp} (lk:K.lookup f=some ⟨oc,od,.func (W.fnOf name Y ac body scope dV kV ag pm an aa ct),ah⟩) (aj:W.codeIn K aa Y=true) (S:FnScope N ps scope)
  (len:∀vs H Q E,sp vs H Q E->vs.length=ps.length)
  (ae : ∀ (A : Around) (outer : List Env) (s : Shared) (H : Hp) (vs : List V) (Q : VK) (E : XK), Room k (A.deeper (envOfC Y scope s.heap.objs.size f aa)) -> sp vs H Q E ->
   ∃t,PSs (zD5 CX P w K mg base N Y scope f aa A outer s H E) body t/\t { nx:=λ_ H'=>Q .non H',rt:=Q } (start N vs) H) :
  FnOk P w K mg base CX (k+1) f (W.fnOf name Y ac body scope dV kV ag pm an aa ct) ps sp:=by
 refine⟨len,λA outer s H args us vs Q E hr e0 hb r af=>?_⟩;have hl:=len _ _ _ _ af;have KX:K.In s.heap:=e0.mod.kin.keeps λb o e=>(e0.bs b o e).1;have ai:s.heap.NoLimit:=e0.mod.nolimit.keeps λb o e=>(e0.bs b o e).1
 have ad:∀y∈ps.zip us,scope.names.lookup y.1=some .local\/(scope.names.lookup y.1=some .cell/\((cellsFrom (s.heap.objs.size+1) scope.names []).lookup y.1).isSome=true):=fun⟨n,v⟩ hy=>by
  rcases S.par n (of_mem_zip hy).1 with q |q
  ·exact .inl q
  ·exact .inr ⟨q,W.cellsFrom_some _ _ _ (.inl q)⟩
 refine codeAny_call_function hr.depth (KX _ _ lk) rfl S.co S.gen rfl (W.codeRec_of KX aj) (hb _ _ _ _ ?_);refine wpAny_newFunctionEnv_cells S.kind ad λenv he s1 x=>?_;subst he;refine⟨ai.keeps x.toInCall.keep,codeAny_func ?_⟩;obtain⟨t,ht,hq⟩:=ae A outer s H vs Q E (hr.deeper _) af;have I:Inv (zD5 CX P w K mg base N Y scope f aa A outer s H E) [] (start N vs) H s1:=zx5 S hr.hd e0 hl r x;refine wV (ht [] s1 (start N vs) H _ I hq) (λfl s' hs=>?_) λe s' hs=>hs
 have fin:∀{σ':St}{H':Hp}{v:V}{u:Value},Inv (zD5 CX P w K mg base N Y scope f aa A outer s H E) [] σ' H' s'->RelV v u->Q v H'->CE outer P w H s Q u s':=
  λ{σ' H' v u} J rv q=>⟨v,H',J.os,J.bare,J.base,J.hok,rv,q⟩
 cases fl with
 |ret u=>
  obtain⟨v,σ',H',J,rv,q⟩:=hs;exact fin J rv q
 |next=>
  obtain⟨σ',H',J,q⟩:=hs;exact fin (v:=V.non) (u:=Value.none) J rfl q
 |brk=>
  obtain⟨_,_,_,q⟩:=hs;exact False.elim q
 |cont=>
  obtain⟨_,_,_,q⟩:=hs;exact False.elim q
section
variable {X:Cx}{x:Str}{p pos:Pos}{e:Expr}{es:Qq9}{t:TA}{id T:String}{r:List V->Hp->VK->Prop}
def tCB(r:List V->Hp->VK->Prop)(t:TA):TE:=λσ H Q=>t σ H λvs H1=>r vs H1 Q
def UA(hc:qy X (.builtin id) r)(hg:Gl X x)(hm:X.mg x=none)(hv:bootBuiltins x=some (.builtin id))(ha:PA X (e::es) t)(hn:x ≠ "__name__" := by decide)(W:(x == ("__debug__" : Str))=false:=by decide)
  (he:starEach (e::es) X.env=(false,eval e X.env)::starEach es X.env:=by rfl) (J:(backTo pos (starEach es X.env)).any (·.1)=false:=by rfl):PE X (.Call (.Name x p) (e::es) [] pos) (tCB r t):=by
 intro pins s σ H Q I h;refine wpAny_Call_Name_kw (Jw I hg hm hv ?_ hn W);exact PyProof.Rows.callWith_builtin1 (thn (ha pos pins s σ H _ I h) λus s1 ⟨vs,H1,I1,Y,q1⟩=>hc pins s1 σ H1 vs us Q I1 Y q1) he J
def KP(hc:qy X (.type T) r)(hg:Gl X x)(hm:X.mg x=none)(hv:bootBuiltins x=some (.type T))(ha:PA X (e::es) t)(hn:x ≠ "__name__" := by decide)(W:(x == ("__debug__" : Str))=false:=by decide)
  (he:starEach (e::es) X.env=(false,eval e X.env)::starEach es X.env:=by rfl) (J:(backTo pos (starEach es X.env)).any (·.1)=false:=by rfl):PE X (.Call (.Name x p) (e::es) [] pos) (tCB r t):=by
 intro pins s σ H Q I h;refine wpAny_Call_Name_kw (Jw I hg hm hv ?_ hn W);exact PyProof.Rows.callWith_type1 (thn (ha pos pins s σ H _ I h) λus s1 ⟨vs,H1,I1,Y,q1⟩=>hc pins s1 σ H1 vs us Q I1 Y q1) he J
end
end L2
namespace HT
open PySem PyProof.Rows
noncomputable def qA:List Int->List Int->Bool
 |[],[]=>false
 |[],_::_=>true
 |_::_,[]=>false
 |x::xs,y::ys=>if x=y then qA xs ys else decide (x<y)
def je(x y:Int)(xs ys:Qq4):qA (x::xs) (y::ys)=if x=y then qA xs ys else decide (x<y):=rfl
def UL:qA [] []=false:=rfl
def Vj(y:Int)(ys:Qq4):qA [] (y::ys)=true:=rfl
def Vk(x:Int)(xs:Qq4):qA (x::xs) []=false:=rfl
def zM9(A:Around)(s:Qq1)(a:Int)(t:Tok)(c:Int)(u:Tok):∃e,SeqAt.EqAt A s (.int a t) (.int c u) e/\(e=true↔a=c):=
 ⟨(a == c),SeqAt.EqAt.int_int a t c u,by simp⟩
def zG2(A:Around)(s:Qq1)(a:Int)(t:Tok)(c:Int)(u:Tok)(prog:Qq3)(w:Qqa)(E:QqV)(Q:QqV)(h:Q (.bool (decide (a<c))) s) :
  wpAny (model prog w) A (richCompare .Lt (.int a t) (.int c u)) Q E s:=
 (PyProof.Rows.lt_int h:wpAny (model prog w) A (compareOp .Lt (.int a t) (.int c u)) Q E s)
section
open PySem.SeqAt
open PySem.AutoSeq1 (wpAny_loadPart')
open PySem.MeetsSeq PySem.MeetsSeq2 PySem.MeetsSeq3
def VP(l b:Addr)(items items2:Qq8)(n n2:Nat)(dd ag:QqE)(sl ad:Array (Option Value))(ns ms:Qq4)(hi:IntsAre items.toList ns)(hj:IntsAre items2.toList ms) :
  Meets (Builtin.«tuple.__lt__» ⟨[.ref l,.ref b],[]⟩)
   (λ_ R s => s.heap.get? l = some { cls := .type "tuple", dict := dd, data := .seq items n, slots := sl } /\ s.heap.get? b = some { cls := .type "tuple", dict := ag, data := .seq items2 n2, slots := ad } /\
    R (.ok (.ret (.bool (qA ns ms)))) s):=
 .of_wp λprog w A R s h=>by
  obtain⟨hp,g,d,tk,os⟩:=s;obtain⟨hl,hb,h⟩:=h;have f2:=AutoSeq1.sub_tuple_tuple
  have z1:items.size=ns.length:=by rw[<- hi.length];simp
  have z2:items2.size=ms.length:=by rw[<- hj.length];simp
  wp_walk using wpAny_loadPart' hl,wpAny_loadPart' hb,wpAny_forIn_list _ (λrest b s'=>b.1=none/\s'=⟨hp,g,d,tk,os⟩/\∃(vs ws:QqW) (ns' ms':Qq4),rest=vs.zip ws /\
   IntsAre vs ns'/\IntsAre ws ms'/\ns'.length+items2.size=ms'.length+items.size/\R (.ok (.ret (.bool (qA ns' ms')))) ⟨hp,g,d,tk,os⟩) _
  case turn=>
   rintro⟨y,x⟩ rest b s' ⟨hb',rfl,vs,ws,ns',ms',hz,aa,W,J,hR⟩
   cases aa with
   |nil=>rw[List.zip_nil_left] at hz;cases hz
   | cons a t hvi' =>
    cases W with
    |nil=>rw[List.zip_nil_right] at hz;cases hz
    | cons c u hwi' =>
     rw[yu] at hz;injection hz with ae ac;injection ae with hy hx;subst hy hx;rw[je] at hR;simp only[zP] at J;obtain⟨e,he,Y⟩:=zM9 A.in1 ⟨hp,g,d,tk,os⟩ a t c u;refine zb (he prog w _ _ ?_)
     cases e with
     |true=>
      rw[if_pos (Y.mp rfl)] at hR
      wp_walk
      exact⟨rfl,rfl,_,_,_,_,ac,hvi',hwi',q5,hR⟩
     |false=>
      rw[if_neg (λq=>absurd (Y.mpr q) xl)] at hR;have af:=zG2 A.in1 ⟨hp,g,d,tk,os⟩ a t c u prog w
      wp_walk using af
      exact⟨_,rfl,by simpa using hR⟩
  case fin=>
   rintro⟨b1,b2⟩ s' ⟨hb',rfl,vs,ws,ns',ms',hz,aa,W,J,hR⟩;simp only at hb';subst hb'
   have hv:qA ns' ms'=decide (items.size<items2.size):=by
    cases aa with
    | nil =>
     cases W with
     |nil=>
      simp only[length_nil] at J;rw[UL]
      exact(xn q5).symm
     |cons c u hw=>
      simp only[length_nil,zP] at J;rw[Vj]
      exact(xI q5).symm
    | cons a t hv =>
     cases W with
     |nil=>
      simp only[length_nil,zP] at J;rw[Vk]
      exact(xn q5).symm
     |cons c u hw=>
      rw[yu] at hz;cases hz
   rw[hv] at hR
   wp_walk
   exact⟨_,rfl,by simpa [Builtin.Tuple.tupleCompareSizes] using hR⟩
  case h=>
   exact⟨rfl,rfl,items.toList,items2.toList,ns,ms,rfl,hi,hj,q5,h⟩
end
section
variable {prog:Qq3}{w:Qqa}{A:Around}{E:QqV}{s:Qq1}
def VC(hl:IsTup s.heap l items)(hb:IsTup s.heap b items2)(hi:IntsAre items.toList ns)(hj:IntsAre items2.toList ms)
  (hu:A.units<cLine) (h:Q (.bool (qA ns ms)) s):wpAny (model prog w) A (compareOp .Lt (.ref l) (.ref b)) Q E s:=by
 obtain⟨⟨cls,dd,data,sl⟩,ho,hc,n,hd⟩:=id hl;obtain⟨⟨ad,aa,ac,Y⟩,J,hc2,n2,W⟩:=id hb;simp only at hc hd hc2 W;subst hc hd hc2 W
 exact richCompare_meets_room (op:=.Lt) ⟨_,ho,rfl⟩ ⟨_,J,rfl⟩ PySem.F.slot_tuple_lt PySem.F.entry_tuple_lt (PySem.F.args_tuple_lt_2 _ _) (VP l b items items2 n n2 dd aa sl Y ns ms hi hj)
  ⟨ho,J,show Value.bool (qA ns ms)≠Value.notImplemented/\Q (.bool (qA ns ms)) s from⟨(λx=>nomatch x),h⟩⟩ hu
def xc2(ht:IsTup s.heap t vs.toArray)(hb:IsTup s.heap b ws.toArray)(hv:vs≠[])
  (h1:ws=[]->Q (.ref t) s) (h2:ws≠[]->Q (.ref s.heap.objs.size) { s with heap:=s.heap.push { cls:=.type "tuple",data:=.seq (vs++ws).toArray } })
  (hsz:vs.length+ws.length<=sizeLine):wpAny (model prog w) A (binaryOp .Add (.ref t) (.ref b)) Q E s:=by
 obtain⟨⟨cls,dd,data,sl⟩,ho,hc,n,hd⟩:=id ht;obtain⟨⟨ad,aa,ac,W⟩,J,hc2,n2,Y⟩:=id hb;simp only at hc hd hc2 Y;subst hc hd hc2 Y
 have e:vs.toArray++ws.toArray=(vs++ws).toArray:=by simp
 by_cases hw:ws=[]
 ·exact concat_meets ⟨_,ho,rfl⟩ ⟨_,J,rfl⟩ noFill_tuple_add seq_tuple_add PySem.F.slot_tuple_add PySem.F.entry_tuple_add (PySem.F.args_tuple_add_2 _ _)
   (tuple_addW1 t b vs.toArray ws.toArray n n2 dd aa sl W (by simpa using hv) (by simp[hw])) ⟨ho,J,h1 hw⟩
 ·refine concat_meets ⟨_, ho, rfl⟩ ⟨_, J, rfl⟩ noFill_tuple_add seq_tuple_add PySem.F.slot_tuple_add PySem.F.entry_tuple_add (PySem.F.args_tuple_add_2 _ _)
   (tuple_addW2 t b vs.toArray ws.toArray n n2 dd aa sl W (by simpa using hv) (by simpa using hw) (by rw[zt,zt];exact hsz)) ⟨ho,J,?_⟩
  rw[e];exact h2 hw
noncomputable def sIx(n d:Nat):Option Int->Nat
 |none=>d
 |some v=>if v<0 then(v+(n:Int)).toNat else min v.toNat n
def Um(n d:Nat):sIx n d none=d:=rfl
def QA(n d k:Nat):sIx n d (some (k:Int))=min k n:=by
 show(if (k:Int)<0 then((k:Int)+(n:Int)).toNat else min (k:Int).toNat n)=min k n
 rw[if_neg q5,yA]
def xf3(n d:Nat)(hd:d<=n)(o:Option Int):sIx n d o<=n:=by
 cases o with
 |none=>exact hd
 |some v=>
  show(if v<0 then(v+(n:Int)).toNat else min v.toNat n)<=n
  by_cases J:v<0
  ·rw[if_pos J];lia
  ·rw[if_neg J];exact Nat.min_le_right _ _
def zB2(v:Int)(n d:Nat):(if v<0 then max (v+(n:Int)) 0 else min v (n:Int))=((sIx n d (some v):Nat):Int):=by
 show(if v<0 then max (v+(n:Int)) 0 else min v (n:Int))=(((if v<0 then(v+(n:Int)).toNat else min v.toNat n):Nat):Int)
 by_cases J:v<0
 ·simp only[if_pos J];lia
 ·simp only[if_neg J];lia
def zn4(lo hi:Option Int)(n:Nat):Builtin.Slice.sliceAdjust lo hi 1 (n:Int)=(((sIx n 0 lo:Nat):Int),((sIx n n hi:Nat):Int)):=by
 have h1:¬ ((1:Int)<0):=q5
 unfold Builtin.Slice.sliceAdjust;simp only[h1,if_false];refine Prod.ext ?_ ?_
 ·cases lo with
  |none=>rfl
  |some v=>exact zB2 v n 0
 ·cases hi with
  |none=>rfl
  |some v=>exact zB2 v n n
def zk1(i j:Nat):Builtin.Slice.slicePlaces (i:Int) (j:Int) 1=j-i:=by
 unfold Builtin.Slice.slicePlaces
 have h1:(1:Int) > 0:=q5
 simp only[h1,if_true,Int.ediv_one]
 split<;>lia
def Vr(p:IsPart v o)(h:Q o s):wpAny (model prog w) A (Builtin.Slice.slicePartIndex v) Q E s:=by
 cases p with
 |none=>exact slicePart_none h
 |int i t=>exact slicePart_int h
def jG{sl:Addr}{vl Y:Value}{lo hi:Option Int}{n:Nat}{Q:Int × Int × Nat->Shared->Prop}(hs:s.heap.IsSliceOf sl vl Y .none)(pl:IsPart vl lo)(pu:IsPart Y hi)
  (h:Q (((sIx n 0 lo:Nat):Int),1,sIx n n hi-sIx n 0 lo) s):wpAny (model prog w) A (Builtin.Slice.sliceApplied (.ref sl) (pure (n:Int))) Q E s:=by
 obtain⟨os,J,aa,W⟩:=id hs;unfold Builtin.Slice.sliceApplied Builtin.Slice.sliceFields;refine zb (zb (wF J W (x:=vl) rfl (zb (wF J W (x:=Y) rfl (zb (wF J W (x:=.none) rfl (ze ?_)))))));refine zb (slicePart_none ?_)
 show wpAny _ _ (if ((1:Int) == 0)=true then _ else _) _ _ s
 rw[if_neg q9]
 refine zb (Vr pl (zb (Vr pu (zb (ze ?_)))))
 show wpAny _ _ (match Builtin.Slice.sliceAdjust lo hi 1 (n:Int) with |(lo,hi)=>pure (lo,(1:Int),Builtin.Slice.slicePlaces lo hi 1)) _ _ s
 rw[zn4 lo hi n];show wpAny _ _ (pure (((sIx n 0 lo:Nat):Int),(1:Int),Builtin.Slice.slicePlaces ((sIx n 0 lo:Nat):Int) ((sIx n n hi:Nat):Int) 1)) _ _ s;rw[zk1];exact ze h
def zH5(xs:Qq8)(i k:Nat):((List.range k).filterMap fun(m:Nat)=>xs[((i:Int)+(m:Int)*1).toNat]?).toArray=((xs.toList.drop i).take k).toArray:=by
 have e:(fun(m:Nat)=>xs[((i:Int)+(m:Int)*1).toNat]?)=λm=>xs[i+m]?:=by
  funext m
  have:((i:Int)+(m:Int)*1).toNat=i+m:=q5
  rw[this]
 rw[e];have:=pick_run xs i k;rw[yN] at this;have J:((λx=>xs[x]?)∘λx=>i+x)=λm=>xs[i+m]?:=rfl;rw[J] at this;rw[this]
def Xk{t W:Addr}{items:Qq8}{vl vu:Value}{lo hi:Option Int}{Q:QqV}(ht:IsTup s.heap t items)(hs:s.heap.IsSliceOf W vl vu .none)(pl:IsPart vl lo)(pu:IsPart vu hi)
  (hw:¬ (sIx items.size 0 lo=0/\sIx items.size items.size hi=items.size))
  (h:Q (.ref s.heap.objs.size) { s with heap:=s.heap.push { cls:=.type "tuple",data:=.seq ((items.toList.drop (sIx items.size 0 lo)).take (sIx items.size items.size hi-sIx items.size 0 lo)).toArray } })
  (hsz:items.size<=sizeLine):wpAny (model prog w) A (getItem (.ref t) (.ref W)) Q E s:=by
 have J:sizeOk (.seq ((items.toList.drop (sIx items.size 0 lo)).take (sIx items.size items.size hi-sIx items.size 0 lo)).toArray):=by
  show((items.toList.drop (sIx items.size 0 lo)).take (sIx items.size items.size hi-sIx items.size 0 lo)).toArray.size<=sizeLine;rw[zt,xr,wY,zm];lia
 have hj:sIx items.size items.size hi<=items.size:=xf3 _ _ (zj _) hi;obtain⟨os,Y,ac,ae⟩:=id hs;have ad:s.TypeIs (.ref W) "slice" := ⟨os,Y,ac⟩;unfold getItem
 try with_reducible refine xJ ?_
 first |refine zb (ze ?_) |skip
 refine zb (wpAny_sequenceKey ht.typeIs q9 ?_)
 refine zb (xR (name:=Str.ofString "__getitem__") ht.typeIs PyProof.Rows.slot_tuple_getitem
  (wG PyProof.Rows.slot_tuple_getitem ht.typeIs entry_tuple_getitem ?_ (args_tuple_getitem _ _)))
 show wpAny _ _ (Builtin.Tuple.tupleItemsOf (.ref t) >>= _) _ _ s;refine zb (tupleItemsOf_ ht ?_);refine zb (wpAny_typeOf ad ?_)
 rw[if_pos q9]
 refine zb (jG hs pl pu ?_)
 have aa:¬ ((((sIx items.size 0 lo:Nat):Int) == 0&&(1:Int) == 1&&(sIx items.size items.size hi-sIx items.size 0 lo) == items.size)=true):=by
  intro q;rw[zW,zW] at q;have q1:((sIx items.size 0 lo:Nat):Int)=0:=eq_of_beq q.1.1;have q2:sIx items.size items.size hi-sIx items.size 0 lo=items.size:=eq_of_beq q.2
  exact hw ⟨q5,q5⟩
 show wpAny _ _ (if (((sIx items.size 0 lo:Nat):Int) == 0&&(1:Int) == 1&&(sIx items.size items.size hi-sIx items.size 0 lo) == items.size)=true then _ else _) _ _ s
 rw[if_neg aa,zH5]
 first
  |exact zb (m:=Builtin.Tuple.tupleExact _) (xD (ze ⟨_,rfl,ze h⟩) J)
  |exact zb (m:=Builtin.Tuple.tupleExact _) (xD (zb (ze (ze ⟨_,rfl,ze h⟩))) J)
  |exact zb (zb (m:=Builtin.Tuple.tupleExact _) (xD (ze (ze ⟨_,rfl,ze h⟩)) J))
  |exact zb (zb (m:=Builtin.Tuple.tupleExact _) (xD (ze ⟨_,rfl,ze h⟩) J))
end
end HT
namespace L2
abbrev TO:=St->Hp->(Option Int->Hp->Prop)->Prop
def PO(X:Cx)(e:Option Expr)(t:TO):Prop:=
 ∀(pins:QqL) (s:Qq1) (σ:St) (H:Hp) (Q:Option Int->Hp->Prop),Inv X pins σ H s->t σ H Q ->
  wpAny (model X.prog X.w) X.A (evalPart e X.env) (λu s'=>∃o H',Inv X pins σ H' s'/\IsPart u o/\Q o H') X.xe s
def zT9:TO:=λ_ H Q=>Q none H
def xs9(t:TE):TO:=λσ H Q=>t σ H λx H1=>∃i,x=.int i/\Q (some i) H1
def qf:∀{us:QqW},Vals (ns.map V.int) us->IntsAre us ns:=by
 induction ns with
 |nil=>intro us r;rw[map_nil] at r;cases r;exact .nil
 | cons n ns Y =>
  intro us r;rw[zN] at r
  cases r with
  |cons W J=>
   obtain⟨t,e⟩:=W;subst e;exact .cons n t (Y J)
section
variable {X:Cx}{e:Expr}{te:TE}{lo hi:Option Expr}{tl th:TO}{pos p2:Pos}
def zV9:PO X none zT9:=by
 intro pins s σ H Q I h;rw[evalPart_none];exact ze ⟨none,H,I,.none,h⟩
def zs3(h:PE X e te):PO X (some e) (xs9 te):=by
 intro pins s σ H Q I Y;rw[evalPart_some];refine thn (h pins s σ H _ I Y) λu s1 ⟨x,H1,I1,J,W⟩=>?_;obtain⟨i,rfl,q⟩:=W;obtain⟨t,rfl⟩:=J;exact⟨some i,H1,I1,.int i t,q⟩
def SlR(X:Cx)(r:V->Option Int->Option Int->Hp->VK->Prop):Prop:=
 ∀(pins:QqL) (s:Qq1) (σ:St) (H:Hp) (x:V) (v W J:Value) (lo hi:Option Int) (Y:Addr) (Q:VK),Inv X pins σ H s->RelV x v->s.heap.IsSliceOf Y W J .none->IsPart W lo->IsPart J hi->r x lo hi H Q ->
  ∃T id,typeLookup (.type T) "__getitem__" = pure (some (.builtin id))/\s.TypeIs v T/\wpAny (model X.prog X.w) X.A (getItem v (.ref Y)) (EP X pins σ Q) X.xe s
def tSl(r:V->Option Int->Option Int->Hp->VK->Prop)(te:TE)(tl th:TO):TE:=λσ H Q=>te σ H λx H1=>tl σ H1 λl H2=>th σ H2 λu J=>r x l u J Q
def ze7{r:V->Option Int->Option Int->Hp->VK->Prop}(hr:SlR X r)(he:PE X e te)(hl:PO X lo tl)(hu:PO X hi th):PE X (.Subscript e (.Slice lo hi none p2) pos) (tSl r te tl th):=by
 intro pins s σ H Q I h;refine Subscript_ (thn (he pins s σ H _ I h) λv s1 ⟨x,H1,I1,r1,q1⟩=>?_);refine wpAny_Slice (thn (hl pins s1 σ H1 _ I1 q1) λY s2 ⟨l,H2,I2,pl,q2⟩=>thn (hu pins s2 σ H2 _ I2 q2) λW J ⟨u,H3,I3,pu,q3⟩=>?_);rw[evalPart_none];refine ze ?_;have I4:Inv X pins σ H3 { J with heap:=J.heap.push { cls:=.type "slice",data:=.fields #[Y,W,.none] } }:=I3.kept (t':=J.toks) λb ob q=>zg _ q;obtain⟨T,id,hT,ht,hg⟩:=hr pins { J with heap:=J.heap.push { cls:=.type "slice",data:=.fields #[Y,W,.none] } } σ H3 x v Y W l u J.heap.objs.size Q I4 r1 (Heap.IsSliceOf.new ..) pl pu q3;show wpAny (model X.prog X.w) X.A (subscriptTail e (.Slice lo hi none p2) v (.ref J.heap.objs.size)) (EP X pins σ Q) X.xe { J with heap:=J.heap.push { cls:=.type "slice",data:=.fields #[Y,W,.none] } }
 exact tail_any (ops:=[.ref J.heap.objs.size,v]) ht hT hg (by with_unfolding_all rfl)
noncomputable def zN5(xs:List V)(lo hi:Option Int):List V:=(xs.drop (HT.sIx xs.length 0 lo)).take (HT.sIx xs.length xs.length hi-HT.sIx xs.length 0 lo)
def WL(xs:List V)(lo hi:Option Int):(zN5 xs lo hi).length<=xs.length:=by
 unfold zN5;rw[xr,wY];lia
noncomputable def xL5(K:Qq5):V->Option Int->Option Int->Hp->VK->Prop:=λx lo hi H Q=>∃a xs,x=.ref a/\SqT K H a xs /\
 ¬ (HT.sIx xs.length 0 lo=0/\HT.sIx xs.length xs.length hi=xs.length)/\∀p,H p=none->Q (.ref p) (upd H p (.tup (zN5 xs lo hi)))
def xe8:SlR X (xL5 X.K):=by
 intro pins s σ H x v vl vu lo hi sl Q I W hs pl Y h;obtain⟨a,xs,rfl,hx,hw,q⟩:=h;cases W;obtain⟨its,r,ht,hz⟩:=I.tuple hx
 have J:its.toArray.size=xs.length:=by rw[zt];exact r.length.symm
 refine⟨"tuple",_,PyProof.Rows.slot_tuple_getitem.lookup,ht.typeIs,?_⟩
 refine HT.Xk ht hs pl Y (by rw[J];exact hw) ?_ (by rw[J];exact hz)
 rw[J];refine⟨.ref s.heap.objs.size,_,I.laid (t':=s.toks) (o:=.tup (zN5 xs lo hi)) (λb ob q=>zg _ q) (zj _) ?_,rfl,q _ (I.hok.fresh (zj _))⟩;exact⟨zG (WL xs lo hi) hz,_,(r.drop (HT.sIx xs.length 0 lo)).take (HT.sIx xs.length xs.length hi-HT.sIx xs.length 0 lo),IsTup.new _ _⟩
def xu9(K:Qq5):R2:=λx y H Q=>∃a b xs ys,x=.ref a/\y=.ref b/\SqT K H a xs/\SqT K H b ys/\xs≠[]/\xs.length+ys.length<=sizeLine /\
 (ys=[]->Q (.ref a) H)/\(ys≠[]->∀p,H p=none->Q (.ref p) (upd H p (.tup (xs++ys))))
def Vals.nil_iff(r:Vals xs us):us=[]↔xs=[]:=by
 cases r with
 |nil=>simp
 |cons _ _=>simp
def zX2:OpR X (binaryOp .Add) (xu9 X.K):=by
 intro pins s σ H x y v u Q I rx ry h;obtain⟨a,b,xs,ys,rfl,rfl,ha,hb,hx,hz,q1,q2⟩:=h;cases rx;cases ry;obtain⟨its,W,p1,_⟩:=I.tuple ha;obtain⟨Y,J,p2,_⟩:=I.tuple hb
 refine HT.xc2 p1 p2 (λz=>hx (W.nil_iff.mp z)) (λz=>⟨.ref a,H,I,rfl,q1 (J.nil_iff.mp z)⟩) (λz=>?_) (by rw[<- W.length,<- J.length];exact hz)
 refine⟨.ref s.heap.objs.size,_,I.laid (t':=s.toks) (o:=.tup (xs++ys)) (λb ob q=>zg _ q) (zj _) ?_,rfl,q2 (λw=>z (J.nil_iff.mpr w)) _ (I.hok.fresh (zj _))⟩
 exact⟨by rw[zF];exact hz,_,W.append J,IsTup.new _ _⟩
end
noncomputable def ixN(n:Nat)(i:Int):Option Nat:=if 0<=i then(if i<n then some i.toNat else none) else if -(n:Int)<=i then some (i+n).toNat else none
def atI{α:Type}(xs:List α)(i:Int):Option α:=(ixN xs.length i).bind λj=>xs[j]?
def zx3{n:Nat}{i:Int}{j:Nat}(h:ixN n i=some j):seqIndex? i n=some j/\j<n/\-(n:Int)<=i/\i<n:=by
 unfold ixN at h
 by_cases h0:0<=i
 ·rw [if_pos h0] at h
  by_cases h1:i<n
  ·rw [if_pos h1] at h;have e:i.toNat=j:=zD h
   exact⟨by rw[seqIndex_of h0 h1,e],q5,q5,h1⟩
  ·rw[if_neg h1] at h;cases h
 ·rw [if_neg h0] at h
  by_cases h1:-(n:Int)<=i
  ·rw [if_pos h1] at h;have e:(i+n).toNat=j:=zD h
   exact⟨by rw[seqIndex_neg q5 h1,e],q5,h1,q5⟩
  ·rw[if_neg h1] at h;cases h
def zb7{α:Type}{xs:List α}{i:Int}{v:α}(h:atI xs i=some v):∃j,seqIndex? i xs.length=some j/\xs[j]?=some v/\j<xs.length/\-(xs.length:Int)<=i/\i<xs.length:=by
 unfold atI at h
 cases e:ixN xs.length i with
 |none=>rw[e] at h;cases h
 |some j=>
  rw[e] at h;obtain⟨h1,h2,h3,h4⟩:=zx3 e;exact⟨j,h1,h,h2,h3,h4⟩
def qM{α:Type}{xs:List α}{j:Nat}{v:α}(h:xs[j]?=some v):atI xs (j:Int)=some v:=by
 have hj:j<xs.length:=(zu.mp h).1
 have e:ixN xs.length (j:Int)=some j:=by
  unfold ixN
  rw[if_pos q5,if_pos q5];simp
 unfold atI;rw[e];exact h
def Ka(b:Expr):Prop:=∀o i,subscripted b false o i=operate [o,i] (getItem o i)
def IxR(X:Cx)(r:R2):Prop:=
 ∀(W J:Expr) (pins:QqL) (s:Qq1) (σ:St) (H:Hp) (x y:V) (v u:Value) (Q:VK),Inv X pins σ H s->RelV x v->RelV y u->r x y H Q ->
  subscripted J false v u=operate [v,u] (getItem v u)->wpAny (model X.prog X.w) X.A (subscriptTail W J v u) (EP X pins σ Q) X.xe s
def MtR(X:Cx)(id:String)(r:V->List V->Hp->VK->Prop):Prop:=
 ∀(pins:QqL) (s:Qq1) (σ:St) (H:Hp) (x:V) (xs:List V) (v:Value) (us:QqW) (Q:VK),Inv X pins σ H s->RelV x v->Vals xs us->r x xs H Q ->
  wpAny (model X.prog X.w) X.A (call (.builtin id) (v::us)) (EP X pins σ Q) X.xe s
section
variable {X:Cx}{a b:Expr}{ta tb:TE}{pos:Pos}
def IxR.or(h:IxR X r)(h':IxR X r'):IxR X (λx y H Q=>r x y H Q\/r' x y H Q):=by
 intro J W pins s σ H x y v u Q I rx Y q hs
 rcases q with q |q
 ·exact h J W pins s σ H x y v u Q I rx Y q hs
 ·exact h' J W pins s σ H x y v u Q I rx Y q hs
def zW1(hr:IxR X r)(ha:PE X a ta)(hb:PE X b tb)(hs:Ka b):PE X (.Subscript a b pos) (tOp r ta tb):=by
 intro pins s σ H Q I h;exact Subscript_ (xC5 ha hb I h λv u J x y H2 I2 Y W q=>hr a b pins J σ H2 x y v u Q I2 Y W q (hs _ _))
def xE3(K:Qq5):R2:=λx y H Q=>∃p xs i v,x=.ref p/\y=.int i/\SqL K H p xs/\atI xs i=some v/\Q v H
def xE1(K:Qq5):R2:=λx y H Q=>∃p xs i v,x=.ref p/\y=.int i/\SqT K H p xs/\atI xs i=some v/\Q v H
def xE2:R2:=λx y H Q=>∃z i c,x=.str z/\y=.int i/\z.length<=sizeLine/\atI z.cps.toList i=some c/\Q (.str ⟨#[c]⟩) H
def za0:IxR X (xE3 X.K):=by
 intro J W pins s σ H x y v u Q I rx ry h hs;obtain⟨p,xs,i,z,rfl,rfl,hq,he,q⟩:=h;cases rx;obtain⟨t,rfl⟩:=ry;obtain⟨its,r,pl,hz⟩:=I.list hq;obtain⟨j,h1,h2,h3,h4,h5⟩:=zb7 he;obtain⟨w,Y,rw'⟩:=r.get h2;have hl:=r.length;have hn:=VD;have fin:EP X pins σ Q w s:=⟨z,H,I,rw',q⟩
 by_cases h0:0<=i
 ·have hj : i.toNat = j := by
   rw[seqIndex_of h0 h5] at h1;exact zD h1
  exact item_listR pl.isList h0 q5 (by rw[hj];simpa using Y) fin hs
 ·have hj : (i + (its.toArray.size : Int)).toNat = j := by
   rw[seqIndex_neg q5 h4] at h1
   rw[zt,<- hl];exact zD h1
  exact subscriptTail_builtinR (x:=w) pl.isList.typeIs slot_list_getitem.lookup
   (wpAny_getItem_list_neg (Q:=λr s'=>r=w/\EP X pins σ Q r s') pl.isList q5 (by rw[zt]<;>lia) q5 (by rw[hj];simpa using Y) ⟨rfl,fin⟩) hs
def xm0:IxR X (xE1 X.K):=by
 intro J W pins s σ H x y v u Q I rx Y h hs;obtain⟨p,xs,i,z,rfl,rfl,hq,he,q⟩:=h;cases rx;obtain⟨t,rfl⟩:=Y;obtain⟨its,r,pl,hz⟩:=I.tuple hq;obtain⟨j,h1,h2,h3,h4,h5⟩:=zb7 he;obtain⟨w,ew,rw'⟩:=r.get h2;have hl:=r.length;have hn:=VD;have fin:EP X pins σ Q w s:=⟨z,H,I,rw',q⟩
 exact subscriptTail_builtinR (x:=w) pl.typeIs slot_tuple_getitem.lookup
  (getItem_tuple (j:=j) (Q:=λr s'=>r=w/\EP X pins σ Q r s') pl q5 q5 (by rw[zt,<- hl];exact h1) (by simpa using ew) ⟨rfl,fin⟩) hs
def xm1:IxR X xE2:=by
 intro J W pins s σ H x y v u Q I rx Y h hs;obtain⟨z,i,c,rfl,rfl,hz,he,q⟩:=h;obtain⟨t,rfl⟩:=rx;obtain⟨t',rfl⟩:=Y;obtain⟨j,h1,h2,h3,h4,h5⟩:=zb7 he
 have hl:z.cps.toList.length=z.length:=by simp[Str.length]
 rw[hl] at h1 h4 h5;have hn:=VD
 exact tail_any (typeIs_str s z t) slot_str_getitem.lookup (getItem_str (c:=c) (by
  have e1:decide (i < -(2^63:Int))=false:=xn q5
  have e2:decide (i>=2^63)=false:=xn q5
  rw[e1,e2,Bool.or_false]) (by rw[h1];simpa using h2) ⟨.str ⟨#[c]⟩,H,I.tok _,⟨_,rfl⟩,q⟩) hs
def rIx(K:Qq5):R2:=λx y H Q=>xE3 K x y H Q\/xE1 K x y H Q\/xE2 x y H Q
def wu:IxR X (rIx X.K):=za0.or (xm0.or xm1)
def zl7(its:QqW)(n j:Nat)(u:Value):Obj.mapSeq (·.setIfInBounds j u) { cls:=.type "list",data:=.seq its.toArray n }={ cls:=.type "list",data:=.seq (its.set j u).toArray n }:=by
 simp[Obj.mapSeq]
def Inv.lst(I:Inv X pins σ H s)(h:H p=some (.lst xs)) :
  ∃(its:QqW) (n:Nat),Vals xs its/\s.heap.get? p=some { cls:=.type "list",data:=.seq its.toArray n }/\xs.length<=sizeLine:=by
 obtain⟨z,its,n,r,e⟩:=I.hok p _ h;exact⟨its,n,r,e,z⟩
def Inv.lstUpd{pins:QqL}{σ:St}{H:Hp}{s:Qq1}{p:Addr}{xs ys:List V}{its its':QqW}{n n':Nat}{f:Obj->Obj}(I:Inv X pins σ H s)(h:H p=some (.lst xs))
  (ho:s.heap.get? p=some { cls:=.type "list",data:=.seq its.toArray n }) (J:f { cls:=.type "list",data:=.seq its.toArray n }={ cls:=.type "list",data:=.seq its'.toArray n' }) (r:Vals ys its') (hz:ys.length<=sizeLine) (t:Nat) :
  Inv X pins σ (upd H p (.lst ys)) { s with heap:=s.heap.update p f,toks:=t }:=by
 have e:(s.heap.update p f).get? p=some { cls:=.type "list",data:=.seq its'.toArray n' }:=by
  rw[we f ho (by rw[J]<;>rfl),J]
 refine I.write (x:=p) (e:=p) (by rw[h];trivial) (.inl rfl) (λb u W q=>(wH _ _ (Ne.symm W)).trans q) ⟨_,e⟩ ?_
 exact⟨hz,its',n',r,e⟩
def xu8:V->V->V->Hp->(Hp->Prop)->Prop:=λo i v H Q=>∃p xs k j,o=.ref p/\i=.int k/\H p=some (.lst xs)/\ixN xs.length k=some j/\Q (upd H p (.lst (xs.set j v)))
def zF1:xJ5 X xu8:=by
 intro pins s σ H o i v ov iv u Q I ro ri rv h;obtain⟨p,xs,k,j,rfl,rfl,Y,hj,q⟩:=h;cases ro;obtain⟨t,rfl⟩:=ri;obtain⟨its,n,r,ho,hz⟩:=I.lst Y;obtain⟨h1,h2,h3,h4⟩:=zx3 hj;have J:=r.length;have hn:=VD
 have I':Inv X pins σ (upd H p (.lst (xs.set j v))) { s with heap:=s.heap.update p (Obj.mapSeq (·.setIfInBounds j u)) }:=
  I.lstUpd Y ho (zl7 its n j u) (r.set rv j) (by rw[List.length_set];exact hz) s.toks
 by_cases h0:0<=k
 ·have hk : k.toNat = j := by
   rw[seqIndex_of h0 h4] at h1;exact zD h1
  exact W.ki_setAt ho h0 q5 (by rw[zt,<- J];exact h4) (by rw[hk];exact⟨_,I',q⟩)
 ·have hk : (k + (its.toArray.size : Int)).toNat = j := by
   rw[seqIndex_neg q5 h3] at h1
   rw[zt,<- J];exact zD h1
  exact W.ki_setBack ho q5 (by rw[zt,<- J];exact h3) q5 (by rw[hk];exact⟨_,I',q⟩)
def Kt(lo hi:Option Int)(n:Nat):(sliceBounds lo hi none n).1=((HT.sIx n 0 lo:Nat):Int)/\(sliceBounds lo hi none n).2.1=((HT.sIx n n hi:Nat):Int)/\(sliceBounds lo hi none n).2.2=1:=by
 refine⟨?_,?_,rfl⟩
 ·cases lo with
  |none=>simp[sliceBounds,HT.sIx]
  |some i=>
   simp only[sliceBounds,HT.sIx,Option.getD_none,show(1:Int) > 0 by decide,if_true]
   by_cases h:i<0
   ·simp only[h,if_true]<;>lia
   ·simp only[h,if_false]<;>lia
 ·cases hi with
  |none=>simp[sliceBounds,HT.sIx]
  |some i=>
   simp only[sliceBounds,HT.sIx,Option.getD_none,show(1:Int) > 0 by decide,if_true]
   by_cases h:i<0
   ·simp only[h,if_true]<;>lia
   ·simp only[h,if_false]<;>lia
def Uc(its:QqW)(lo hi:Option Int):slicePick its.toArray lo hi none=((its.drop (HT.sIx its.length 0 lo)).take (HT.sIx its.length its.length hi-HT.sIx its.length 0 lo)).toArray:=by
 obtain⟨h1,h2,h3⟩:=Kt lo hi its.toArray.size;unfold slicePick;rw[h1,h2,h3]
 simp only[sliceRange_one,pick_run,zt]<;>rfl
noncomputable def xL6(K:Qq5):V->Option Int->Option Int->Hp->VK->Prop:=λx lo hi H Q=>∃a xs,x=.ref a/\SqL K H a xs/\∀p,H p=none->Q (.ref p) (upd H p (.lst (zN5 xs lo hi)))
def zU1:SlR X (xL6 X.K):=by
 intro pins s σ H x v vl vu lo hi sl Q I W hs pl Y h;obtain⟨a,xs,rfl,hx,q⟩:=h;cases W;obtain⟨its,r,ht,hz⟩:=I.list hx;have J:=r.length;refine⟨"list",_,slot_list_getitem.lookup,ht.isList.typeIs,?_⟩
 refine wpAny_getItem_list_slice ht.isList hs pl Y .none (by simp) ?_ (by rw[zt]<;>lia)
 rw[Uc,<- J];refine⟨.ref s.heap.objs.size,_,I.laid (t':=s.toks) (o:=.lst (zN5 xs lo hi)) (λb ob q=>zg _ q) (zj _) ?_,rfl,q _ (I.hok.fresh (zj _))⟩;exact⟨zG (WL xs lo hi) hz,_,0,(r.drop (HT.sIx xs.length 0 lo)).take (HT.sIx xs.length xs.length hi-HT.sIx xs.length 0 lo),zr _ rfl⟩
def wA:qy X (.builtin "len") (λxs H Q=>∃p ys,xs=[.ref p]/\(SqL X.K H p ys\/SqT X.K H p ys)/\Q (.int ys.length) H):=by
 intro pins s σ H xs us Q I r h;obtain⟨p,ys,rfl,W,q⟩:=h;obtain⟨u,rfl,Y⟩:=YI r;cases Y;have hn:=VD
 rcases W with W |W
 ·obtain ⟨its, r', pl, hz⟩ := I.list W;have J:=r'.length
  exact Calls.call_len_list pl.isList (by simp only[zt]<;>lia) ⟨.int ys.length,H,I.tok _,⟨s.toks+1,by rw[zt,J]⟩,q⟩
 ·obtain ⟨its, r', pl, hz⟩ := I.tuple W;have J:=r'.length
  exact len_tuple pl (by simp only[zt]<;>lia) ⟨.int ys.length,H,I.tok _,⟨s.toks+1,by rw[zt,J]⟩,q⟩
def JQ:qy X (.type "list") (λxs H Q=>∃p ys,xs=[.ref p]/\(SqL X.K H p ys\/SqT X.K H p ys)/\∀l,H l=none->Q (.ref l) (upd H l (.lst ys))):=by
 intro pins s σ H xs us Q I r h;obtain⟨p,ys,rfl,J,q⟩:=h;obtain⟨u,rfl,rx⟩:=YI r;cases rx
 have fin:∀(its:QqW),Vals ys its->ys.length<=sizeLine->∀(h':Heap) (c':Nat),(∀b o',s.heap.get? b=some o'->h'.get? b=some o') ->
   h'.get? s.heap.objs.size=some { cls:=.type "list",dict:=none,data:=.seq its.toArray c',slots:=#[] }->EP X pins σ Q (.ref s.heap.objs.size) { s with heap:=h' }:=λits r' hz h' c' kp e=>
  ⟨.ref s.heap.objs.size,_,I.laid (t':=s.toks) kp (zj _) (show ObjOk X.prog X.w _ h' _ (.lst ys) from⟨hz,its,c',r',e⟩),rfl,q _ (I.hok.fresh (zj _))⟩
 rcases J with J |J
 ·obtain ⟨its, r', pl, hz⟩ := I.list J;have W:=r'.length;obtain⟨o,ho,Y,n,hd⟩:=pl.isList
  exact call_list_seq p (.inl rfl) ho Y hd (λh' c' kp e=>fin its r' hz h' c' kp e) (by simp only[zt]<;>lia)
 ·obtain ⟨its, r', pl, hz⟩ := I.tuple J;have W:=r'.length;obtain⟨o,ho,Y,n,hd⟩:=pl
  exact call_list_seq p (.inr rfl) ho Y hd (λh' c' kp e=>fin its r' hz h' c' kp e) (by simp only[zt]<;>lia)
def wo:qy X (.type "tuple") (λxs H Q=>∃p ys,xs=[.ref p]/\((SqL X.K H p ys/\∀l,H l=none->Q (.ref l) (upd H l (.tup ys)))\/(SqT X.K H p ys/\Q (.ref p) H))):=by
 intro pins s σ H xs us Q I r h;obtain⟨p,ys,rfl,h⟩:=h;obtain⟨u,rfl,rx⟩:=YI r;cases rx
 rcases h with ⟨J,q⟩ |⟨J,q⟩
 ·obtain ⟨its, r', pl, hz⟩ := I.list J;have W:=r'.length
  refine call_tuple_list pl.isList (λh' kp=>?_) (by simp only[zt]<;>lia)
  have Y:Inv X pins σ H { s with heap:=h' }:=I.kept (t':=s.toks) kp
  have I2:Inv X pins σ (upd H h'.objs.size (.tup ys)) { s with heap:=h'.push { cls:=.type "tuple",data:=.seq its.toArray } }:=
   Y.laid (t':=s.toks) (λb o e=>zg _ e) (zj _) (show ObjOk X.prog X.w _ _ _ (.tup ys) from⟨hz,its,r',IsTup.new _ _⟩)
  exact⟨.ref h'.objs.size,_,I2,rfl,q _ (Y.hok.fresh (zj _))⟩
 ·obtain⟨its,r',pl,hz⟩:=I.tuple J;exact call_tuple_same pl ⟨.ref p,H,I,rfl,q⟩
def tyV(K:Qq5)(T:String)(x:V)(H:Hp):Prop:=match x with
 |.str _=>T = "str"
 |.int _=>T = "int"
 | .ref p => (T = "list" /\ ∃ xs, SqL K H p xs) \/ (T = "tuple" /\ ∃ o, K.lookup p = some o /\ o.cls = .type "tuple" /\ o.dict = none) \/
   (T = "dict" /\ ((∃kvs,H p=some (.dK kvs))\/∃kvs,H p=some (.dT kvs)))\/(T = "set" /\ ∃S n,H p=some (.set S n))
 |_=>False
def xd8(I:Inv X pins σ H s)(r:RelV x v)(ty:tyV X.K T x H) :
  s.TypeIs v T/\∀a,v=.ref a->∃ob,s.heap.get? a=some ob/\ob.dict=none:=by
 cases x with
 |str z=>
  obtain⟨t,rfl⟩:=r;cases(show T = "str" from ty)
  exact⟨typeIs_str s z t,λ_ e=>nomatch e⟩
 |int i=>
  obtain⟨t,rfl⟩:=r;cases(show T = "int" from ty)
  exact⟨typeIs_int s i t,λ_ e=>nomatch e⟩
 | ref p =>
  cases r
  rcases ty with ⟨rfl,xs,W⟩ |⟨rfl,o,hk,Y,hd⟩ |⟨rfl,hk⟩ |⟨rfl,S,n,hk⟩
  ·obtain⟨its,_,pl,_⟩:=I.list W;refine⟨pl.isList.typeIs,λa e=>?_⟩;cases e;obtain⟨o,n,e,c,hd,_⟩:=pl;exact⟨o,e,hd⟩
  ·refine⟨⟨o,I.kIn p o hk,Y⟩,λa e=>?_⟩;cases e;exact⟨o,I.kIn _ o hk,hd⟩
  ·have z : ∃ o, s.heap.get? p = some o /\ o.ExactDict := by
    rcases hk with ⟨kvs,hk⟩ |⟨kvs,hk⟩
    ·obtain⟨_,_,_,_,o,_,_,e,ex,_⟩:=I.hok p _ hk;exact⟨o,e,ex⟩
    ·obtain⟨_,_,_,_,o,_,_,e,ex,_⟩:=I.hok p _ hk;exact⟨o,e,ex⟩
   obtain⟨o,e,ex⟩:=z;refine⟨⟨o,e,ex.1⟩,λa J=>?_⟩;cases J;exact⟨o,e,ex.2.1⟩
  ·obtain⟨o,_,_,_,e,ex,_⟩:=I.hok p _ hk;refine⟨⟨o,e,ex.1⟩,λa J=>?_⟩;cases J;exact⟨o,e,ex.2.1⟩
 |_=>exact False.elim ty
def tBM(K:Qq5)(T:String)(r:V->List V->Hp->VK->Prop)(to:TE)(t:TA):TE:=λσ H Q=>to σ H λx H1=>tyV K T x H1/\t σ H1 λxs H2=>r x xs H2 Q
variable {o e:Expr}{es:Qq9}{to:TE}{t:TA}{name:Str}{apos cpos:Pos}{T id:String}{r:V->List V->Hp->VK->Prop}
def xA7(pa:PlainAttrs T)(slot:Slot T name id)(ac:typeOf (.builtin id)=pure (.type "method_descriptor"))(hm:MtR X id r)(ho:PE X o to)(ha:PA X (e::es) t)
  (Y:attributeBase o name X.env (eval o X.env)=eval o X.env:=by rfl)
  (aa : ((backTo cpos (starEach (e :: es) X.env)).all (λx => !x.1) && (backToKw cpos (keywordEach [] X.env)).all (λx => x.1.isSome)
   && decide ((e::es).length+([]:List Keyword).length+(if ([]:List Keyword).isEmpty then 0 else 1)<30))=true:=by rfl)
  (W:(apos.endLine == cpos.line)=true:=by rfl) (hs:starEach (e::es) X.env=(false,eval e X.env)::starEach es X.env:=by rfl) (J:(backTo cpos (starEach es X.env)).any (·.1)=false:=by rfl) :
  PE X (.Call (.Attribute o name apos) (e::es) [] cpos) (tBM X.K T r to t):=by
 intro pins s σ H Q I h;refine wpAny_Call_method_late Y aa W rfl (thn (ho pins s σ H _ I h) λv s1 ⟨x,H1,I1,r1,ty,q1⟩=>?_);obtain⟨h1,h2⟩:=xd8 I1 r1 ty;refine⟨T,id,pa,slot,ac,h1,h2,?_⟩;have hA:=ha cpos pins s1 σ H1 _ I1 q1;rw[hs] at hA ⊢
 refine Calls.callWith_builtin (by show(false||(backTo cpos (starEach es X.env)).any (·.1))=false;rw[J]<;>rfl) (Calls.evalArgs_plain ?_)
 exact thn hA λus s2 ⟨vs,H2,I2,r2,q2⟩=>hm pins s2 σ H2 x vs v us Q I2 r1 r2 q2
end
def MtM(X:Cx)(id:String)(r:V->List V->Hp->VK->Prop):Prop:=
 ∀(pins:QqL) (s:Qq1) (σ:St) (H:Hp) (x:V) (xs:List V) (v:Value) (us:QqW) (Q:VK),Inv X pins σ H s->RelV x v->Vals xs us->r x xs H Q ->
  wpAny (model X.prog X.w) X.A (call (.builtin id) (v::us)) (EP X pins σ Q) X.xe s
theorem Vals.one:∀{x:V}{us:QqW},Vals [x] us->∃u,us=[u]/\RelV x u
 |_,_,.cons r .nil=>⟨_,rfl,r⟩
theorem Vals.rep(h:Vals xs us):∀k:Nat,Vals (replicate k xs).flatten (replicate k us).flatten
 |0=>.nil
 |k+1=>by
  rw[yl,yl,vf,vf];exact Vals.append h (Vals.rep h k)
def JB(its:QqW):∀(k:Nat) (acc:QqW),
  List.foldl (λW J=>W++J) acc.toArray (replicate k its.toArray)=(acc++(replicate k its).flatten).toArray
 |0,acc=>by simp
 | k + 1, acc => by
  have e:acc.toArray++its.toArray=(acc++its).toArray:=by simp
  have Y:(acc++its)++(replicate k its).flatten=acc++(replicate (k+1) its).flatten:=by
   rw[yl,vf,wn]
  rw[<- Y,<- JB its k (acc++its),<- e,yl,List.foldl_cons]
section
variable {X:Cx}{pins:QqL}{σ:St}{H:Hp}{s:Qq1}{l b:Addr}{xs ys zs:List V}
def Inv.lset{its its':QqW}{n:Nat}{f:Array Value->Array Value}{t':Nat}(I:Inv X pins σ H s)(hH:H l=some (.lst xs))
  (e:s.heap.get? l=some { cls:=.type "list",data:=.seq its.toArray n }) (W:f its.toArray=its'.toArray) (J:Vals ys its') (hz:ys.length<=sizeLine) :
  Inv X pins σ (upd H l (.lst ys)) { s with heap:=s.heap.update l (Obj.mapSeq f),toks:=t' }:=by
 have q:=PySem.IsL.update e f;rw[W] at q
 refine I.write (x:=l) (e:=l) (by rw[hH];exact trivial) (.inl rfl) (λb' u Y hu=>(wH s.heap (Obj.mapSeq f) (Ne.symm Y)).trans hu) ⟨_,q⟩ ?_
 exact⟨hz,its',_,J,q⟩
def Inv.lnew{t':Nat}(I:Inv X pins σ H s)(J:Vals ys its)(hz:ys.length<=sizeLine) :
  Inv X pins σ (upd H s.heap.objs.size (.lst ys)) { s with heap:=s.heap.push { cls:=.type "list",data:=.seq its.toArray },toks:=t' }:=
 I.laid (λ_ _ q=>zg _ q) (zj _) ⟨hz,its,0,J,zr _ rfl⟩
def Inv.fresh(I:Inv X pins σ H s):H s.heap.objs.size=none:=I.hok.fresh (zj _)
def Inv.lstM(I:Inv X pins σ H s)(J:H l=some (.lst xs)):xs.length<=sizeLine/\∃(its:QqW) (n:Nat),Vals xs its/\xs.length=its.length/\s.heap.get? l=some { cls:=.type "list",data:=.seq its.toArray n }:=by
 obtain⟨z,its,n,r,e⟩:=I.hok l _ J;exact⟨z,its,n,r,r.length,e⟩
end
section
variable {X:Cx}
noncomputable def zU9:V->List V->Hp->VK->Prop:=λx vs H Q=>∃l xs y,x=.ref l/\vs=[y]/\H l=some (.lst xs)/\xs.length<sizeLine/\Q .non (upd H l (.lst (xs++[y])))
def zv2:MtM X "list.append" zU9:=by
 intro pins s σ H x vs v us Q I W rv h;obtain⟨l,xs,y,rfl,rfl,J,hz,q⟩:=h;cases W;obtain⟨u,rfl,Y⟩:=rv.one;obtain⟨z,its,n,r,hl,e⟩:=I.lstM J
 refine call_meets F.slot_list_append ⟨_,e,rfl⟩ F.entry_list_append (F.args_list_append_2 _ _) (PySem.list_append l its.toArray n u (by rw[zt];lia)) ⟨e,?_⟩
 refine⟨.non,_,I.lset (its':=its++[u]) J e (by simp) (r.append (.cons Y .nil)) ?_,rfl,q⟩
 rw[zF,List.length_singleton];lia
def xE7:R2:=λx y H Q=>∃l b xs J,x=.ref l/\y=.ref b/\H l=some (.lst xs)/\H b=some (.lst J)/\xs.length+J.length<=sizeLine/\∀p,H p=none->Q (.ref p) (upd H p (.lst (xs++J)))
def zQ5:OpR X (binaryOp .Add) xE7:=by
 intro pins s σ H x y v u Q I Y W h;obtain⟨l,b,xs,zs,rfl,rfl,hH,hB,hz,q⟩:=h;cases Y;cases W;obtain⟨z,its,n,r,hl,e⟩:=I.lstM hH;obtain⟨z2,J,n2,r2,aa,e2⟩:=I.lstM hB
 refine PySem.P.add_list e e2 ?_ (by rw[zt,zt];lia)
 have ea:its.toArray++J.toArray=(its++J).toArray:=by simp
 rw[ea]
 exact⟨.ref _,_,I.lnew (t':=s.toks) (r.append r2) (by rw[zF];lia),rfl,q _ I.fresh⟩
def zw1{α:Type}(xs:List α)(k:Nat):(replicate k xs).flatten.length=k*xs.length:=by
 induction k with
 |zero=>simp
 |succ k J=>rw[yl,vf,zF,J,Nat.succ_mul,Nat.add_comm]
end
section
variable {prog:Qq3}{w:Qqa}{A:Around}{E:QqV}{s:Qq1}
end
section
variable {X:Cx}
end
end L2
namespace Att
open PySem PySem.W PySem.Calls PyProof.Rows
def WF:∀(ns:Qq4) (vs:QqW),WellAll P h vs (ns.map WData.int)->IntsAre vs ns:=by
 intro ns
 induction ns with
 |nil=>
  intro vs w;rw[map_nil] at w;cases w;exact .nil
 | cons n ns J =>
  intro vs w;rw[zN] at w
  cases w with
  |cons a b=>
   cases a;exact .cons _ _ (J _ b)
def zq0{l:OpenLaw}{n:Nat}(hn:l.most=some n){P:Params}{h:Heap}{args:List WData}{J:QqW}
  (W:l.row.toRowW.claim.pre args=true) (ac:WellAll P h J args) :
  ∃a vs ns,J=[Value.ref a]/\args=[WData.list (ns.map WData.int)]/\h.get? a=some { cls:=.type "list",data:=.seq vs.toArray }/\IntsAre vs ns/\ns.length<=n:=by
 have ad:WShape.hasAll [] args [.list .int]=true:=(pre_splitW W).1;have hc:l.pre.holds [] { args:=args }=true:=(pre_splitW W).2;obtain⟨d,r,rfl,h1,h2⟩:=hasAllW_cons ad;obtain rfl:=hasAllW_nil h2;obtain⟨xs,rfl,h3⟩:=hasW_list h1;obtain⟨ns,rfl⟩:=items_int h3
 have Y:ns.length<=n:=by
  unfold OpenLaw.pre at hc
  have h4:(WTm.not (.lt (.lit (.int (n:Int))) (.len (.arg 0)))).holds [] { args:=[.list (ns.map .int)] }=true:=by
   have h4:=(holds_andW hc).1;rw[hn] at h4;exact h4
  have h5:=condW_of h4 (w_not (w_lt w_lit (w_len_list (w_arg rfl))));rw[zf] at h5;refine Nat.le_of_not_lt λq=>?_
  have q':(n:Int)<((ns.length:Nat):Int):=q5
  first
   |(rw[xI q'] at h5;exact absurd h5 q9)
   |(simp at h5;lia)
 cases ac with
 |cons w1 w2=>
  cases w2
  cases w1 with
  |list ho aa=>exact⟨_,_,ns,rfl,rfl,ho,WF ns _ aa,Y⟩
def zs2(l:OpenLaw)(args:List WData):l.row.toRowW.claim.post args (.bool true) args=true:=
 postW_of (r:=l.row.toRowW) (X:=(true == true))
  (show WShape.has [] (.bool true) .bool=true by first |rfl |decide |simp[WShape.has,WShape.arms,WShape.armsAll])
  (show(WTm.eq .res (.lit (.bool true))).value [] { args:=args,res:=some (.bool true),after:=args }=some (.bool (true == true)) from w_eq_bool (w_res rfl) w_lit) rfl
def attach_call{l:OpenLaw}{n:Nat}{q:Qq3}{loose:Qq2}{XP:(Str->Option Value)->Heap->Prop}{YP:World->Heap->Prop}{d:DefRec}
  (hn:l.most=some n) (ah:d.params.defaults=[])
  (call : ∀ (w : World) (s₀ J : Shared) (mg mb : Str -> Option Value) (fa : Addr) (o : Obj) (pm cd aa : Value) (a : Addr) (vs : List Value) (ns : List Int),
   Ground q loose [] XP w s₀ mg mb J.heap->YP w J.heap ->
   J.heap.get? fa=some o->o.data=.func (docDef d.name d.params d.body d.scope pm cd aa)->J.heap.CodeRec cd d.name->mg d.name=some (.ref fa) ->
   J.heap.get? a=some { cls:=.type "list",data:=.seq vs.toArray }->IntsAre vs ns->ns.length<=n->J.gens=#[] ->
   codeAny (model l.prog w) callerA (.call (.ref fa) ⟨[.ref a],[]⟩) (λr s'=>r=.ok (.ret (.bool true))/\OldK J.heap s'.heap/\s'.os=J.os/\AllBare s'.gens) J) :
  WalkO q loose XP YP l.row.toRowW d [] (λf vs=>PySem.call f vs):=by
 intro w s₀ J mg mb G Y fa o pm cd aa dV kV ho hd ai hD ag hg args aj as ac ak am af ao;obtain rfl:dV=.none:=Dflts.none hD ah;obtain rfl:kV=.none:=Dflts.noKw hD;obtain⟨a,vs,ns,rfl,rfl,ad,W,ae⟩:=zq0 hn ac af;refine enter_call (codeAny_mono (call w s₀ J mg mb fa o pm cd aa a vs ns G Y ho (fd_plain hd) ai ag ad W ae hg) λr s' hq=>?_);obtain⟨rfl,h2,h3,h4⟩:=hq
 exact⟨.inl ⟨.bool true,.bool true,[],rfl,λ_=>rfl,.bool true,zs2 l _,λ_=>⟨List.Pairwise.nil,λ_ hm=>(nomatch hm)⟩⟩,h2,h3,h4⟩
section
variable {prog:Qq3}{w:Qqa}{A:Around}{E:QqV}{s:Qq1}{K:Frag}
end
end Att
namespace L2
theorem Kk:∀{vs:QqW}{ns:Qq4},IntsAre vs ns->Vals (ns.map V.int) vs
 |_,_,.nil=>.nil
 |_,_,.cons n t h=>.cons ⟨t,rfl⟩ (Kk h)
def qK(s:Stmt):Arguments:=match s with
 |.FunctionDef _ a _ _ _ _ _ _ _ _=>a
 |_=>{ posonlyargs:=[],args:=[],vararg:=none,kwonlyargs:=[],kw_defaults:=[],kwarg:=none,defaults:=[] }
noncomputable def ku(s:Stmt):List Stmt:=match s with
 |.FunctionDef _ _ b _ _ _ _ _ _ _=>b
 |_=>[]
def xm(s:Stmt):Scope:=match s with
 |.FunctionDef _ _ _ _ _ _ sc _ _ _=>sc
 |_=>{ kind:=.function,names:=[],isGenerator:=false,isCoroutine:=false }
abbrev CX0:CXT:=λ_ _ _ _ _ _=>False
abbrev E0:XK:=λ_ _ _=>False
def zI3:zC8 CX0 X E0:=λ_ _ _ _ _ _ _ h=>h.elim
structure Fun(K:Qq5)(x qual:Str)(st:Stmt)(f:Addr)(fd:Qqb):Prop where
 ex:∃(oc:Value) (od:QqE) (kV doc pm:Value) (an:QqE) (cdv ct:Value) (osl:Array (Option Value)),
  fd=W.fnOf x qual (qK st) (ku st) (xm st) .none kV doc pm an cdv ct/\K.lookup f=some ⟨oc,od,.func fd,osl⟩/\W.codeIn K cdv qual=true
 kp:W.keepIn K (.ref f)=true
section
variable {P:Qq3}{w:Qqa}{K:Qq5}{mg:QqM}{base:Heap}
def Fun.ok{x J:Str}{st:Stmt}{f:Addr}{fd:Qqb}{N ps:Qq2}{k:Nat}{sp:Sp}(F:Fun K x J st f fd)(S:FnScope N ps (xm st))(len:∀vs H Q E,sp vs H Q E->vs.length=ps.length)
  (Y : ∀ (W : Value) (A : Around) (outer : List Env) (s : Shared) (H : Hp) (vs : List V) (Q : VK) (E : XK), Room k (A.deeper (envOfC J (xm st) s.heap.objs.size f W)) -> sp vs H Q E ->
   ∃t,PSs (zD5 CX0 P w K mg base N J (xm st) f W A outer s H E).nox (ku st) t/\t { nx:=λ_ H'=>Q .non H',rt:=Q } (start N vs) H):FnOk P w K mg base CX0 (k+1) f fd ps sp:=by
 obtain⟨oc,od,kV,ae,pm,an,W,ct,ad,rfl,lk,ac⟩:=F.ex;refine xm8 lk ac S len λA outer s H vs Q E hr aa=>?_;obtain⟨t,h,q⟩:=Y W A outer s H vs Q E hr aa;exact⟨t,h.nox,q⟩
def Fun.binds{x J:Str}{st:Stmt}{f:Addr}{fd:Qqb}{ps:Qq2}(F:Fun K x J st f fd)
  (h:∀(kV Y pm:Value) (an:QqE) (aa ct:Value) (us:QqW),us.length=ps.length->bindArgs (W.fnOf x J (qK st) (ku st) (xm st) .none kV Y pm an aa ct) ⟨us,[]⟩=pure (ps.zip us)):Binds K fd ps []:=by
 obtain⟨oc,od,kV,Y,pm,an,aa,ct,ac,rfl,lk,ad⟩:=F.ex;exact .all (h kV Y pm an aa ct)
def zy4{x J:Str}{st:Stmt}{f:Addr}{oc:Value}{od an:QqE}{ac:Array (Option Value)}{kV aa pm Y ct:Value}(l:K.lookup f=some ⟨oc,od,.func (W.fnOf x J (qK st) (ku st) (xm st) .none kV aa pm an Y ct),ac⟩)
  (c:W.codeIn K Y J=true) (k:W.keepIn K (.ref f)=true):Fun K x J st f (W.fnOf x J (qK st) (ku st) (xm st) .none kV aa pm an Y ct):=⟨⟨oc,od,kV,aa,pm,an,Y,ct,ac,rfl,l,c⟩,k⟩
end
def zx8{k:Nat}(J:Room k A):A.units+1<cLine:=vB (Nat.add_le_add_left (by decide:1<=64) _) J.units
section
variable {X:Cx}
end
def Same(H H':Hp):Prop:=∀b o,H b=some o->H' b=some o
end L2
namespace L2
open PySem
noncomputable def Yr(env:Env):List (Str × NameKind)->List (Str × Addr)->List (Str × Addr)
 |[],acc=>acc
 |y::r,acc=>if y.2 == .free then Yr env r ((y.1,(env.cells.lookup y.1).getD 0)::acc) else Yr env r acc
def qL:∀(l:List (Str × NameKind)) (acc:List (Str × Addr)),(∀y∈l,y.2=.free->∃c,env.cells.lookup y.1=some c)->(∀x c,acc.lookup x=some c->env.cells.lookup x=some c) ->
  ∀x c,(Yr env l acc).lookup x=some c->env.cells.lookup x=some c
 |[],acc,_,ha,x,c,h=>ha x c h
 | y :: r, acc, J, ha, x, c, h => by
  unfold Yr at h
  split at h
  ·rename_i hk
   have hk':y.2=.free:=by simpa using hk
   obtain⟨d,hd⟩:=J y xj hk';refine qL r _ (λz hz=>J z (zk _ hz)) (λz e hz=>?_) x c h;rw[xN] at hz
   cases W:z == y.1 with
   |true=>
    rw[W,hd] at hz
    have e2:z=y.1:=by simpa using W
    have Y:d=e:=by simpa using hz
    rw[e2,hd,Y]
   |false=>rw[W] at hz;exact ha z e hz
  ·exact qL r acc (λz hz=>J z (zk _ hz)) ha x c h
theorem Xm:∀(l:List (Str × NameKind)) (acc:List (Str × Addr)),(∃c,acc.lookup x=some c)->∃c,(Yr env l acc).lookup x=some c
 |[],acc,h=>h
 | y :: r, acc, h => by
  unfold Yr
  split
  ·refine Xm r _ ?_;rw[xN]
   cases J:x == y.1 with
   |true=>exact⟨_,rfl⟩
   |false=>exact h
  ·exact Xm r acc h
theorem Zj(hk:y.2=.free):∀(l:List (Str × NameKind)) (acc:List (Str × Addr)),y∈l->∃c,(Yr env l acc).lookup y.1=some c
 |[],acc,h=>by simp at h
 | z :: r, acc, h => by
  unfold Yr
  rcases zn.mp h with rfl |h
  ·rw [if_pos (by rw [hk]; rfl)]
   exact Xm r _ ⟨_,al_List_lookup_cons_self⟩
  ·split
   ·exact Zj hk r _ h
   ·exact Zj hk r _ h
def VM(f:Str × NameKind->List (Str × Addr)->Sem (ForInStep (List (Str × Addr))))
  (W:∀y acc,f y acc=if y.2 == .free then(cellOf env y.1 >>= λc=>pure (.yield ((y.1,c)::acc))) else pure (.yield acc)) :
  ∀(l:List (Str × NameKind)) (acc:List (Str × Addr)),(∀y∈l,y.2=.free->∃c,env.cells.lookup y.1=some c)->forIn l acc f=(pure (Yr env l acc):Sem _)
 |[],acc,_=>by rw[forIn_nil];rfl
 | y :: r, acc, h => by
  have J:=λacc=>VM f W r acc λz hz=>h z (zk _ hz);rw[forIn_cons,W];unfold Yr
  split
  ·rename_i hk
   obtain⟨c,Y⟩:=h y xj (by simpa using hk)
   have e:cellOf env y.1=pure c:=by unfold cellOf;rw[Y]
   rw[e,Y];exact J _
  ·exact J _
def XW(h:∀y∈scope.names,y.2=.free->∃c,env.cells.lookup y.1=some c):closureFor scope env=pure (Yr env scope.names []):=by
 have e:=VM (env:=env) (λx J=>match x with |(name,kind)=>if (kind == NameKind.free)=true then(do let c <- cellOf env name;pure (.yield ((name,c)::J))) else pure (.yield J)) (λy acc=>rfl) scope.names [] h
 have W:closureFor scope env=((forIn scope.names [] (λx J=>match x with |(name,kind)=>if (kind == NameKind.free)=true then(do let c <- cellOf env name;pure (ForInStep.yield ((name,c)::J))) else pure (ForInStep.yield J)):Sem (List (Str × Addr))) >>= λJ=>pure J):=rfl
 rw[W,e];rfl
def Xv{env:Env}{x:Str}:∀(l:List (Str × NameKind)),
  (l.map λ(n, k) => if (k == NameKind.free && env.scope.kind == .function && env.kindOf n == some .cell) then (n, NameKind.cell) else (n, k)).lookup x =
   (l.lookup x).map λk=>if (k == NameKind.free&&env.scope.kind == .function&&env.kindOf x == some .cell) then NameKind.cell else k
 |[]=>rfl
 | (n, k) :: r => by
  have J:=@Xv env x r;rw[zN]
  by_cases e:x=n
  ·subst e;dsimp only
   split
   ·rename_i h;rw[al_List_lookup_cons_self,al_List_lookup_cons_self,Option.map_some,if_pos h]
   ·rename_i h;rw[al_List_lookup_cons_self,al_List_lookup_cons_self,Option.map_some,if_neg h]
  ·have e' : (x == n) = false := by simpa using e
   dsimp only
   split
   ·rw[xN,e',xN,e'];exact J
   ·rw[xN,e',xN,e'];exact J
def zB5:∀(l:List (Str × NameKind)) (h:Heap) (acc:List (Str × Addr)) (x:Str) (c:Addr),(cellsFrom h.objs.size l acc).lookup x=some c ->
  ((pushCells h l).IsCell c none/\h.objs.size<=c/\(x,NameKind.cell)∈l)\/acc.lookup x=some c
 |[],_,_,_,_,e=>.inr e
 | (n, k) :: r, h, acc, x, c, e => by
  unfold cellsFrom at e;unfold pushCells
  split at e
  ·rename_i hk
   have hk':k=.cell:=by simpa using hk
   rw[if_pos hk];have hz:(h.push { cls:=.type "cell",data:=.cell none }).objs.size=h.objs.size+1:=wO ..;rw[<- hz] at e
   rcases zB5 r (h.push { cls:=.type "cell",data:=.cell none }) _ x c e with ⟨a,b,d⟩ |q
   ·exact .inl ⟨a,by rw[hz] at b;lia,zk _ d⟩
   ·rw [xN] at q
    cases J:x == n with
    |false=>rw[J] at q;exact .inr q
    |true=>
     rw[J] at q
     have Y:h.objs.size=c:=by simpa using q
     have W:x=n:=by simpa using J
     subst Y W
     refine .inl ⟨?_,zj _,by rw[hk'];exact xj⟩
     exact⟨_,pushCells_keeps _ _ _ _ (zr _ rfl),rfl⟩
  ·rename_i hk;rw[if_neg hk]
   rcases zB5 r h acc x c e with ⟨a,b,d⟩ |q
   ·exact .inl ⟨a,b,zk _ d⟩
   ·exact .inr q
def zB3:∀(l:List (Str × NameKind)) (n:Nat) (acc:List (Str × Addr)),(∀x y c,acc.lookup x=some c->acc.lookup y=some c->x=y)->(∀x c,acc.lookup x=some c->c<n) ->
  ∀x y c,(cellsFrom n l acc).lookup x=some c->(cellsFrom n l acc).lookup y=some c->x=y
 |[],_,_,hi,_,x,y,c,e,e'=>hi x y c e e'
 | (m, k) :: r, n, acc, hi, J, x, y, c, e, e' => by
  unfold cellsFrom at e e'
  have one:∀z d,((m,n)::acc).lookup z=some d->(z=m/\d=n)\/acc.lookup z=some d:=λz d q=>by
   rw[xN] at q
   cases Y:z == m with
   |true=>rw[Y] at q;exact .inl ⟨by simpa using Y,by simpa using q.symm⟩
   |false=>rw[Y] at q;exact .inr q
  split at e
  ·rename_i hk;rw[if_pos hk] at e';refine zB3 r (n+1) ((m,n)::acc) (λa b d q q'=>?_) (λa d q=>?_) x y c e e'
   ·rcases one a d q with ⟨a1, a2⟩ | a1 <;> rcases one b d q' with ⟨W, b2⟩ | W
    ·rw[a1,W]
    ·exact absurd (J b d W) (by rw[a2];exact wf _)
    ·exact absurd (J a d a1) (by rw[b2];exact wf _)
    ·exact hi a b d a1 W
   ·rcases one a d q with ⟨_, a2⟩ | a1
    ·rw[a2];exact Nat.lt_succ_self _
    ·exact yg (J a d a1)
  ·rename_i hk;rw[if_neg hk] at e';exact zB3 r n acc hi J x y c e e'
theorem Xn:∀(l:List (Str × NameKind)) (n:Nat) (acc:List (Str × Addr)),(∃c,acc.lookup x=some c)->∃c,(cellsFrom n l acc).lookup x=some c
 |[],_,_,h=>h
 | (m, k) :: r, n, acc, h => by
  unfold cellsFrom
  split
  ·refine Xn r _ _ ?_;rw[xN]
   cases J:x == m with
   |true=>exact⟨_,rfl⟩
   |false=>exact h
  ·exact Xn r _ _ h
theorem zB4:∀(l:List (Str × NameKind)) (n:Nat) (acc:List (Str × Addr)),(x,NameKind.cell)∈l->∃c,(cellsFrom n l acc).lookup x=some c
 |[],_,_,h=>by simp at h
 | (m, k) :: r, n, acc, h => by
  unfold cellsFrom
  rcases zn.mp h with e |h
  ·cases e;exact Xn r _ _ ⟨_,al_List_lookup_cons_self⟩
  ·split
   ·exact zB4 r _ _ h
   ·exact zB4 r _ _ h
theorem xc1:∀(l:List (Str × NameKind)) (n:Nat) (acc:List (Str × Addr)) (lo:Nat),lo<=n->((x,NameKind.cell)∈l\/∀c,acc.lookup x=some c->lo<=c)->∀c,(cellsFrom n l acc).lookup x=some c->lo<=c
  | [], n, acc, lo, J, h, c, e => by
    rcases h with h |h
    · simp at h
    · exact h c e
  | (m, k) :: r, n, acc, lo, J, h, c, e => by
    unfold cellsFrom at e
    split at e
    · rename_i hk
      refine xc1 r (n+1) ((m,n)::acc) lo q5 ?_ c e
      rcases h with h |h
      · rcases zn.mp h with z | z
        · cases z
          refine .inr λd q=>?_;rw[al_List_lookup_cons_self] at q
          have:n=d:=by simpa using q
          lia
        · exact .inl z
      · refine .inr λd q => ?_
        rw[xN] at q
        cases W:x == m with
        | true => rw [W] at q; have : n = d := by simpa using q;
                  lia
        |false=>rw[W] at q;exact h d q
    · rename_i hk
      refine xc1 r n acc lo J ?_ c e
      rcases h with h |h
      · rcases zn.mp h with z | z
        · cases z;exact absurd rfl hk
        · exact .inl z
      · exact .inr h
section
variable {M:Model}{A:Around}{E:QqV}{s:Qq1}
def Yk
  (h : Q (newEnv scope s.heap.objs.size env.globals (cellsFrom (s.heap.objs.size + 1) scope.names cl) env.qual none .none (some env) builtinsNs)
   { s with heap:=pushCells (s.heap.push { cls:=.type "dict",data:=.dict #[] }) scope.names }) :
  wpAny M A (newFunctionEnv scope env.globals cl [] env.qual none .none (some env)) Q E s:=by
 simp only[newFunctionEnv,Option.isSome_some,if_true];refine zb (wpAny_alloc ?_);refine zb (wpAny_layCells _ (λname kind cells=>?_) _ _ _ _ ?_)
 ·cases J:kind == NameKind.cell<;>simp[J]
 ·rw[List.forIn_nil];refine zb (ze (ze ?_));have hz:({ s with heap:=s.heap.push { cls:=.type "dict",data:=.dict #[] } }:Qq1).heap.objs.size=s.heap.objs.size+1:=wO ..;rw[hz];exact h
end
noncomputable abbrev zi3(ifs:Qq9)(env:Env):Sem Bool:=forIn ifs true λc r=>if r=true then do let ok <- isTrue c env (eval c env);pure (ForInStep.yield ok) else pure (ForInStep.yield r)
section
variable {prog:Qq3}{w:Qqa}{A:Around}{R:Result->Shared->Prop}{s:Qq1}
def zA9(J:Nat->Shared->Prop)
  (turn : ∀ n s, J n s -> wpAny (model prog w) A (pyNext it) (λr s1 => match r with
   |none=>R (.ok .next) s1
   | some v => wpAny (model prog w) A (letOwnedTupleGo target it v) (λ_ s2 => wpAny (model prog w) A (assign target env v) (λ_ s3 => wpAny (model prog w) A (zi3 ifs env) (λok W =>
     if ok=true then wpAny (model prog w) A (eval elt env) (λx s5=>wpAny (model prog w) A (call (.builtin "list.append") [acc,x]) (λ_ Y=>∃m,m<n/\J m Y) (λ_ _=>False) s5) (λ_ _=>False) W
     else ∃m,m<n/\J m W) (λ_ _=>False) s3) (λ_ _=>False) s2) (λ_ _=>False) s1) (λ_ _=>False) s)
  (n:Nat) (h:J n s):codeAny (model prog w) A (.compLoop (.ListComp elt [⟨target,iter,ifs,0⟩] scope pos) 0 it acc env) R s:=by
 refine codeAny_loop rfl J (λn s hJ=>?_) n h
 show wpAny _ A ((compTurn (.ListComp elt [⟨target,iter,ifs,0⟩] scope pos) 0 it acc env).onRaise (λx=>do noteFrame x env;theTreesLotGoes x)) _ _ s
 refine wpAny_noted ?_;rw[compTurn_list]
 have up:∀{α:Type}{t:Sem α}{Q Q':α->Shared->Prop}{E:QqV}{s:Qq1},wpAny (model prog w) A t Q (λ_ _=>False) s->(∀a s,Q a s->Q' a s)->wpAny (model prog w) A t Q' E s:=
  λh f=>wV h f λ_ _ z=>False.elim z
 refine zb (wpAny_standAt (zb (up (turn n s hJ) λr s1 h1=>?_)))
 cases r with
 |none=>exact ze h1
 |some v=>
  refine zb (up h1 λ_ s2 h2=>?_);refine zb (up h2 λ_ s3 h3=>?_);refine zb (up h3 λok W h4=>?_)
  cases ok with
  |false=>exact ze ⟨rfl,h4⟩
  |true=>exact zb (zb (up h4 λx s5 h5=>zb (up h5 λ_ Y h6=>ze (ze ⟨rfl,h6⟩))))
end
def VF(b:Bool):String:=if b then "list_iterator" else "tuple_iterator"
def SeqIs(b:Bool)(h:Heap)(l:Addr)(xs:Qq8):Prop:=match b with |true=>h.IsList l xs |false=>h.IsTuple l xs
def IterIs(b:Bool)(h:Heap)(i l:Addr)(k:Nat):Prop:=match b with |true=>h.IsListIter i l k |false=>h.IsTupleIter i l k
def SeqIs.at{b:Bool}(x:SeqIs b h l xs)(hk:∀o,h.get? l=some o->h'.get? l=some o):SeqIs b h' l xs:=by
 cases b<;>(obtain⟨o,e,r⟩:=x;exact⟨o,hk o e,r⟩)
def IterIs.at{b:Bool}{k:Nat}(x:IterIs b h i l k)(hk:∀o,h.get? i=some o->h'.get? i=some o):IterIs b h' i l k:=by
 cases b<;>(obtain⟨o,e,r⟩:=x;exact⟨o,hk o e,r⟩)
def IterIs.obj{b:Bool}{k:Nat}(x:IterIs b h i l k):∃o,h.get? i=some o/\o.cls=.type (VF b)/\o.data=.fields #[.ref l,.int k 0]:=by
 cases b<;>exact x
def SeqIs.ne{b c:Bool}{k:Nat}(x:SeqIs b h l xs)(y:IterIs c h i m k):l≠i:=by
 rintro rfl;obtain⟨o,e,J,_⟩:=y.obj
 cases b<;>(obtain⟨o',e',hc',_⟩:=x;rw[e] at e';cases e';rw[J] at hc';cases c<;>exact absurd (Value.type.inj hc') q9)
section
variable {prog:Qq3}{w:Qqa}{A:Around}{E:QqV}{s:Qq1}
def Vv{b:Bool}(J:SeqIs b s.heap l xs)
  (W:Q (.ref s.heap.objs.size) { s with heap:=s.heap.push { cls:=.type (VF b),data:=.fields #[.ref l,.int 0 0] } }):wpAny (model prog w) A (pyIter (.ref l)) Q E s:=by
 cases b with
 |true=>exact vd J W
 |false=>exact wpAny_pyIter_tuple J W
def zl1{i:Nat}(J:s.heap.IsTupleIter it l i)(hl:s.heap.IsTuple l items)(hx:items[i]?=some x)
  (hQ:∀h',h'.IsTupleIter it l (i+1)->Heap.SameBut it s.heap h'->Q x { s with heap:=h' }):wpAny (model prog w) A (Builtin.SmallTypes.nextOf (.ref it)) Q E s:=by
 obtain⟨o,ho,hc,hd⟩:=id J;obtain⟨ol,W,_,nl,Y⟩:=hl;unfold Builtin.SmallTypes.nextOf;refine zb (xR (name:=Str.ofString "__next__") J.typeIs F.slot_tuple_iterator_next (wG F.slot_tuple_iterator_next J.typeIs F.entry_tuple_iterator_next ?_ (F.args_tuple_iterator_next_1 _)));show wpAny _ A.in1 (field (.ref it) 0 >>= _) _ _ s;refine zb (wF (x:=.ref l) ho hd rfl ?_)
 show wpAny _ A.in1 (if (Value.ref l == Value.none)=true then _ else _) _ _ s
 have nn:¬ ((Value.ref l == Value.none)=true):=xl;rw[if_neg nn];show wpAny _ A.in1 (field (.ref it) 1 >>= _) _ _ s;refine zb (wF (x:=.int i 0) ho hd rfl ?_);show wpAny _ A.in1 (seqItems? (.ref l) >>= _) _ _ s;refine zb (wL W Y ?_);simp only[hx,yA]
 refine zb (wpAny_setField ho hd (by simp) (ze ⟨x,rfl,ze (hQ _ ⟨_,we _ ho (Obj.isFreed_of_fields (Obj.data_mapFields hd _)),(Obj.cls_mapFields ..).trans hc,?_⟩ (Heap.SameBut.update ..))⟩))
 rw[Obj.data_mapFields hd];simp[rawInt]
def Vc{i:Nat}(hh:A.handled=none)(J:s.heap.IsTupleIter it l i)(hl:s.heap.IsTuple l items)(hx:items[i]?=none)
  (hE:∀h' e,Heap.ExtBut it s.heap h'->(∃o,h'.get? e=some o/\o.cls=.type "StopIteration")->E (.ref e) { s with heap:=h' }):wpAny (model prog w) A (Builtin.SmallTypes.nextOf (.ref it)) Q E s:=by
 obtain⟨o,ho,hc,hd⟩:=id J;obtain⟨ol,W,_,nl,Y⟩:=hl;unfold Builtin.SmallTypes.nextOf;refine zb (xR (name:=Str.ofString "__next__") J.typeIs F.slot_tuple_iterator_next (wG F.slot_tuple_iterator_next J.typeIs F.entry_tuple_iterator_next ?_ (F.args_tuple_iterator_next_1 _)));show wpAny _ A.in1 (field (.ref it) 0 >>= _) _ _ s;refine zb (wF (x:=.ref l) ho hd rfl ?_)
 show wpAny _ A.in1 (if (Value.ref l == Value.none)=true then _ else _) _ _ s
 have nn:¬ ((Value.ref l == Value.none)=true):=xl;rw[if_neg nn];show wpAny _ A.in1 (field (.ref it) 1 >>= _) _ _ s;refine zb (wF (x:=.int i 0) ho hd rfl ?_);show wpAny _ A.in1 (seqItems? (.ref l) >>= _) _ _ s;refine zb (wL W Y ?_);simp only[hx,yA]
 refine zb (ym (zb (wpAny_setField ho hd (by simp) ?_)))
 show wpAny _ A.in1 (newExc (.type "StopIteration") [] >>= _) _ _ _;refine zb ?_;simp only[newExc,newTuple]
 refine zb (xD ?_ (by size_fits))
 refine zb (m:=firstArgMember _ _) (wpAny_of_eq (a:=Value.none) (by simp only[firstArgMember];rfl) ?_)
 refine xD ?_ (by size_fits)
 simp only[raiseNew];refine zb (wpAny_handled ?_);rw[show A.in1.handled=none from hh];refine zb (ze (wpAny_throw ?_));exact hE _ _ (((Heap.SameBut.update ..).extBut.push _).push _) ⟨_,zr _ rfl,rfl⟩
def Xd{b:Bool}{i:Nat}(J:IterIs b s.heap it l i)(W:SeqIs b s.heap l items)(hx:items[i]?=some x)
  (Y:∀h',IterIs b h' it l (i+1)->Heap.SameBut it s.heap h'->Q x { s with heap:=h' }):wpAny (model prog w) A (Builtin.SmallTypes.nextOf (.ref it)) Q E s:=by
 cases b with
 |true=>exact wpAny_nextOf_list_item J W hx Y
 |false=>exact zl1 J W hx Y
def ZE{b:Bool}{i:Nat}(hh:A.handled=none)(J:IterIs b s.heap it l i)(W:SeqIs b s.heap l items)(hx:items[i]?=none)
  (Y:∀h' e,Heap.ExtBut it s.heap h'->(∃o,h'.get? e=some o/\o.cls=.type "StopIteration")->E (.ref e) { s with heap:=h' }):wpAny (model prog w) A (Builtin.SmallTypes.nextOf (.ref it)) Q E s:=by
 cases b with
 |true=>exact wpAny_nextOf_list_end hh J W hx Y
 |false=>exact Vc hh J W hx Y
structure ZApart(z ti to i1 i2:Addr):Prop where
 a1:ti≠z
 a2:to≠z
 a3:i1≠z
 a4:i2≠z
 a5:ti≠to
 a6:ti≠i1
 a7:ti≠i2
 a8:to≠i1
 a9:to≠i2
 a10:i1≠i2
structure ZSt(b c:Bool)(z ti to i1 i2 l1 l2:Addr)(k:Nat)(h:Heap):Prop where
 z:IsZip h z ti to .none
 ti:IsPair h ti (.ref i1) (.ref i2)
 to:∃u v,IsPair h to u v
 i1:IterIs b h i1 l1 k
 i2:IterIs c h i2 l2 k
structure ZMid(b c:Bool)(z ti to i1 i2 l1 l2:Addr)(k:Nat)(T:Addr)(h:Heap):Prop where
 z:IsZip h z ti to (rawInt T)
 ti:IsPair h ti (.ref i1) (.ref i2)
 to:∃u v,IsPair h to u v
 i1:IterIs b h i1 l1 (k+1)
 i2:IterIs c h i2 l2 (k+1)
def ZSt.apartL{b c d:Bool}{z ti to i1 i2 l1 l2 l:Addr}{k:Nat}{h:Heap}{xs:Qq8}(x:ZSt b c z ti to i1 i2 l1 l2 k h)(J:SeqIs d h l xs)(W:l≠to):l≠z/\l≠i1/\l≠i2:=by
 refine⟨?_,J.ne x.i1,J.ne x.i2⟩;rintro rfl;have e:=x.z
 cases d<;>(obtain⟨o',e',hc',_⟩:=J;rw[e] at e';cases e';exact absurd (Value.type.inj hc') q9)
def zD8{b c:Bool}{z ti to i1 i2 l1 l2:Addr}{k:Nat}{xs ys:Qq8}{x y:Value}{Q:QqV}(D:ZApart z ti to i1 i2)(S:ZSt b c z ti to i1 i2 l1 l2 k s.heap)
  (af:SeqIs b s.heap l1 xs) (ae:SeqIs c s.heap l2 ys) (n1:l1≠to) (n2:l2≠to) (hx:xs[k]?=some x) (hy:ys[k]?=some y)
  (hQ:∀h',ZMid b c z ti to i1 i2 l1 l2 k s.heap.objs.size h'->IsPair h' s.heap.objs.size x y->(∀d o,d≠z->d≠to->d≠i1->d≠i2->s.heap.get? d=some o->h'.get? d=some o)->Q (.ref s.heap.objs.size) { s with heap:=h' }) :
  wpAny (model prog w) A (Builtin.«zip.__next__» ⟨[.ref z],[]⟩) (λfin s'=>∃v,fin=.done (.ret v)/\Q v s') E s:=by
 obtain⟨m1,m2,m3⟩:=S.apartL af n1;obtain⟨m4,m5,m6⟩:=S.apartL ae n2;obtain⟨hz,ag,⟨u,v,ah⟩,h1,h2⟩:=S;show wpAny _ A (field (.ref z) 2 >>= _) _ _ _;refine zb (wF (x:=.bool false) hz rfl rfl ?_);show wpAny _ A (field (.ref z) 3 >>= _) _ _ _;refine zb (wF (x:=.ref ti) hz rfl rfl ?_);refine zb (wL ag rfl ?_);show wpAny _ A (Builtin.SmallTypes.ownedTupleIsFree (.ref z) >>= _) _ _ _;refine zb ?_;unfold Builtin.SmallTypes.ownedTupleIsFree;refine zb (wF (x:=.none) hz rfl rfl (ze ?_));simp only[if_true];refine zb (ym ?_);refine zb (wF (x:=.ref to) hz rfl rfl ?_)
 refine zb (yK hz (by simp) λg1 ad s1=>?_)
 replace ad:IsZip g1 z ti to .ellipsis:=ad
 refine zb ?_;simp only[forIn_cons,forIn_nil,vt,List.zipIdx_nil];refine zb (zb (wpAny_onRaise ?_));show wpAny _ A (Builtin.SmallTypes.nextOf (.ref i1) >>= _) _ _ _;refine zb (Xd (h1.at λo e=>s1.extBut _ _ D.a3 e) (af.at λo e=>s1.extBut _ _ m1 e) hx λg2 k1 s2=>ze ?_);have ac:IsPair g2 to u v:=s2.extBut _ _ D.a8 (s1.extBut _ _ D.a2 ah);refine zb (wL ac rfl ?_);refine zb (wpAny_updateSeq_pair ac λg3 Y s3=>?_)
 replace Y:IsPair g3 to x v:=Y
 refine zb (yQ (ze ?_));refine zb (zb (wpAny_onRaise ?_));show wpAny _ A (Builtin.SmallTypes.nextOf (.ref i2) >>= _) _ _ _;refine zb (Xd (h2.at λo e=>s3.extBut _ _ D.a9.symm (s2.extBut _ _ D.a10.symm (s1.extBut _ _ D.a4 e))) (ae.at λo e=>s3.extBut _ _ n2 (s2.extBut _ _ m5 (s1.extBut _ _ m4 e))) hy λg4 k2 s4=>ze ?_);have aa:IsPair g4 to x v:=s4.extBut _ _ D.a9 Y;refine zb (wL aa rfl ?_);refine zb (wpAny_updateSeq_pair aa λW J s5=>?_)
 replace J:IsPair W to x y:=J
 refine zb (yQ (ze (ze ?_)));refine zb (wL J rfl ?_);refine zb (wpAny_newTuple ?_)
 have sz:W.objs.size=s.heap.objs.size:=by rw[s5.1,s4.1,s3.1,s2.1,s1.1]
 have z5:IsZip W z ti to .ellipsis:=s5.extBut _ _ D.a2.symm (s4.extBut _ _ D.a4.symm (s3.extBut _ _ D.a2.symm (s2.extBut _ _ D.a3.symm ad)));have kp:∀d o,d≠z->d≠to->d≠i1->d≠i2->s.heap.get? d=some o->W.get? d=some o:=λd o d1 d2 d3 d4 e=>s5.extBut _ _ d2 (s4.extBut _ _ d4 (s3.extBut _ _ d2 (s2.extBut _ _ d3 (s1.extBut _ _ d1 e))));have j1:IterIs b W i1 l1 (k+1):=k1.at λo e=>s5.extBut _ _ D.a8.symm (s4.extBut _ _ D.a10 (s3.extBut _ _ D.a8.symm e));have j2:IterIs c W i2 l2 (k+1):=k2.at λo e=>s5.extBut _ _ D.a9.symm e;have zl:z<W.objs.size:=zw z5;show wpAny _ A (Builtin.SmallTypes.ownedTupleHandOut (.ref z) (.ref W.objs.size) >>= _) _ _ _;refine zb ?_;unfold Builtin.SmallTypes.ownedTupleHandOut;have z6:IsZip (W.push { cls:=.type "tuple",data:=.seq #[x,y] }) z ti to .ellipsis:=zg _ z5
 refine zb (yK z6 (by simp) λg7 z7 s7=>?_)
 replace z7:IsZip g7 z ti to (rawInt W.objs.size):=z7
 refine yK z7 (by simp) λg8 z8 s8=>?_
 replace z8:IsZip g8 z ti to (rawInt W.objs.size):=z8
 have up:∀d o,d≠z->W.get? d=some o->g8.get? d=some o:=λd o d1 e=>s8.extBut _ _ d1 (s7.extBut _ _ d1 (zg _ e));have T8:IsPair g8 W.objs.size x y:=s8.extBut _ _ (wm zl) (s7.extBut _ _ (wm zl) (zr _ rfl));rw[sz] at z8 T8;refine ze ⟨_,rfl,?_⟩;show Q (.ref W.objs.size) _;rw[sz];exact hQ g8 ⟨z8,up _ _ D.a1 (kp _ _ D.a1 D.a5 D.a6 D.a7 ag),⟨_,_,up _ _ D.a2 J⟩,j1.at λo e=>up _ o D.a3 e,j2.at λo e=>up _ o D.a4 e⟩ T8 λd o d1 d2 d3 d4 e=>up d o d1 (kp d o d1 d2 d3 d4 e)
def zD7{b c:Bool}{k:Nat}(hh:A.handled=none)(D:ZApart z ti to i1 i2)(S:ZSt b c z ti to i1 i2 l1 l2 k s.heap)
  (ae:SeqIs b s.heap l1 xs) (ad:SeqIs c s.heap l2 ys) (n1:l1≠to) (n2:l2≠to) (af:xs[k]?=none\/ys[k]?=none)
  (hE:∀h' e,(∀d o,d≠z->d≠to->d≠i1->d≠i2->s.heap.get? d=some o->h'.get? d=some o)->(∃o,h'.get? e=some o/\o.cls=.type "StopIteration")->E (.ref e) { s with heap:=h' }) :
  wpAny (model prog w) A (Builtin.«zip.__next__» ⟨[.ref z],[]⟩) Q E s:=by
 obtain⟨m1,m2,m3⟩:=S.apartL ae n1;obtain⟨m4,m5,m6⟩:=S.apartL ad n2;obtain⟨hz,ah,⟨u,v,ag⟩,h1,h2⟩:=S;show wpAny _ A (field (.ref z) 2 >>= _) _ _ _;refine zb (wF (x:=.bool false) hz rfl rfl ?_);show wpAny _ A (field (.ref z) 3 >>= _) _ _ _;refine zb (wF (x:=.ref ti) hz rfl rfl ?_);refine zb (wL ah rfl ?_);show wpAny _ A (Builtin.SmallTypes.ownedTupleIsFree (.ref z) >>= _) _ _ _;refine zb ?_;unfold Builtin.SmallTypes.ownedTupleIsFree;refine zb (wF (x:=.none) hz rfl rfl (ze ?_));simp only[if_true];refine zb (ym ?_);refine zb (wF (x:=.ref to) hz rfl rfl ?_)
 refine zb (yK hz (by simp) λg1 Y s1=>?_)
 replace Y:IsZip g1 z ti to .ellipsis:=Y
 refine zb ?_;simp only[forIn_cons,forIn_nil,vt,List.zipIdx_nil];refine zb (zb (wpAny_onRaise ?_));show wpAny _ A (Builtin.SmallTypes.nextOf (.ref i1) >>= _) _ _ _;have q1:IterIs b g1 i1 l1 k:=h1.at λo e=>s1.extBut _ _ D.a3 e;have q2:SeqIs b g1 l1 xs:=ae.at λo e=>s1.extBut _ _ m1 e
 cases hx:xs[k]? with
 |none=>
  refine zb (ZE hh q1 q2 hx λg2 e s2 he=>?_);obtain⟨oe,J,W⟩:=he;have z2:IsZip g2 z ti to .ellipsis:=s2 _ _ D.a3.symm Y
  have ac:e≠z:=λq=>by subst q;rw[z2] at J;cases J;exact absurd (Value.type.inj W) q9
  exact yK z2 (by simp) λg3 _ s3=>hE g3 e (λd o d1 _ d3 _ q=>s3.extBut _ _ d1 (s2 _ _ d3 (s1.extBut _ _ d1 q))) ⟨oe,s3.extBut _ _ ac J,W⟩
 | some x =>
  have hy:ys[k]?=none:=by
   rcases af with h |h
   ·rw[hx] at h;cases h
   ·exact h
  refine zb (Xd q1 q2 hx λg2 k1 s2=>ze ?_);have aa:IsPair g2 to u v:=s2.extBut _ _ D.a8 (s1.extBut _ _ D.a2 ag);refine zb (wL aa rfl ?_);refine zb (wpAny_updateSeq_pair aa λg3 ai s3=>?_);refine zb (yQ (ze ?_));refine zb (zb (wpAny_onRaise ?_));show wpAny _ A (Builtin.SmallTypes.nextOf (.ref i2) >>= _) _ _ _;refine zb (ZE hh (h2.at λo e=>s3.extBut _ _ D.a9.symm (s2.extBut _ _ D.a10.symm (s1.extBut _ _ D.a4 e))) (ad.at λo e=>s3.extBut _ _ n2 (s2.extBut _ _ m5 (s1.extBut _ _ m4 e))) hy λg4 e s4 he=>?_);obtain⟨oe,J,W⟩:=he;have z4:IsZip g4 z ti to .ellipsis:=s4 _ _ D.a4.symm (s3.extBut _ _ D.a2.symm (s2.extBut _ _ D.a3.symm Y))
  have ac:e≠z:=λq=>by subst q;rw[z4] at J;cases J;exact absurd (Value.type.inj W) q9
  exact yK z4 (by simp) λg5 _ s5=>hE g5 e (λd o d1 d2 d3 d4 q=>s5.extBut _ _ d1 (s4 _ _ d4 (s3.extBut _ _ d2 (s2.extBut _ _ d3 (s1.extBut _ _ d1 q))))) ⟨oe,s5.extBut _ _ ac J,W⟩
def zK0{b c:Bool}{k:Nat}(D:ZApart z ti to i1 i2)(S:ZSt b c z ti to i1 i2 l1 l2 k s.heap)
  (W:SeqIs b s.heap l1 xs) (J:SeqIs c s.heap l2 ys) (n1:l1≠to) (n2:l2≠to) (hx:xs[k]?=some x) (hy:ys[k]?=some y)
  (hQ:∀h',ZMid b c z ti to i1 i2 l1 l2 k s.heap.objs.size h'->IsPair h' s.heap.objs.size x y->(∀d o,d≠z->d≠to->d≠i1->d≠i2->s.heap.get? d=some o->h'.get? d=some o)->Q (some (.ref s.heap.objs.size)) { s with heap:=h' }) :
  wpAny (model prog w) A (pyNext (.ref z)) Q E s:=by
 have Y:s.TypeIs (.ref z) "zip" := ⟨_,S.z,rfl⟩;unfold pyNext
 exact zb (wpAny_attempt (xR (name:=Str.ofString "__next__") Y F.slot_zip_next (wG F.slot_zip_next Y F.entry_zip_next
  (zD8 D S W J n1 n2 hx hy λh' a1 a2 a3=>ze (hQ h' a1 a2 a3)) (F.args_zip_next_1 _))))
def Jh{b c:Bool}{k:Nat}(hh:A.handled=none)(D:ZApart z ti to i1 i2)(S:ZSt b c z ti to i1 i2 l1 l2 k s.heap)
  (Y:SeqIs b s.heap l1 xs) (W:SeqIs c s.heap l2 ys) (n1:l1≠to) (n2:l2≠to) (J:xs[k]?=none\/ys[k]?=none)
  (hQ:∀h',(∀d o,d≠z->d≠to->d≠i1->d≠i2->s.heap.get? d=some o->h'.get? d=some o)->Q none { s with heap:=h' }):wpAny (model prog w) A (pyNext (.ref z)) Q E s:=by
 have hT:s.TypeIs (.ref z) "zip" := ⟨_,S.z,rfl⟩;unfold pyNext
 refine zb (wpAny_attempt (xR (name:=Str.ofString "__next__") hT F.slot_zip_next (wG F.slot_zip_next hT F.entry_zip_next
  (zD7 hh D S Y W n1 n2 J λh' e hk he=>?_) (F.args_zip_next_1 _))))
 obtain⟨o,ho,hc⟩:=he;refine zb (wpAny_isInstance (T := "StopIteration") (b:=true) ⟨o,ho,hc⟩ isSubtype_stop (ze (hQ _ hk)))
noncomputable def zh1(h:Heap)(b:Bool)(l:Addr):Heap:=h.push { cls:=.type (VF b),data:=.fields #[.ref l,.int 0 0] }
noncomputable def zh3(h:Heap)(b c:Bool)(l1 l2:Addr):Heap:=(zh1 (zh1 h b l1) c l2).push { cls:=.type "tuple",data:=.seq #[.ref h.objs.size,.ref (zh1 h b l1).objs.size] }
noncomputable def zh4(h:Heap)(b c:Bool)(l1 l2:Addr):Heap:=(zh3 h b c l1 l2).push { cls:=.type "tuple",data:=.seq #[.none,.none] }
noncomputable def zh5(h:Heap)(b c:Bool)(l1 l2:Addr):Heap:=(zh4 h b c l1 l2).push { cls:=.type "zip",data:=.fields #[.none,.bool false,.bool false,.ref (zh1 (zh1 h b l1) c l2).objs.size,.ref (zh3 h b c l1 l2).objs.size] }
end
def zv7(b c:Bool)(l1 l2:Addr)(xs ys:Qq8) :
  Meets (Builtin.«zip.__new__» ⟨[.type "zip",.ref l1,.ref l2],[]⟩) (λ_ R s=>SeqIs b s.heap l1 xs/\SeqIs c s.heap l2 ys /\
   R (.ok (.ret (.ref (zh4 s.heap b c l1 l2).objs.size))) { s with heap:=zh5 s.heap b c l1 l2 }):=
 .of_wp λprog w A R s h=>by
  obtain⟨hp,g,d,Y,os⟩:=s;obtain⟨W,J,h⟩:=h;have aa:=sub_zip;have q1:SeqIs b (Shared.heap ⟨hp,g,d,Y,os⟩) l1 xs:=W;have q2:SeqIs c (Shared.heap ⟨hp.push { cls:=.type (VF b),data:=.fields #[.ref l1,.int 0 0] },g,d,Y,os⟩) l2 ys:=J.at λo e=>zg _ e
  wp_walk using Vv q1,Vv q2
  exact⟨_,rfl,h⟩
section
variable {prog:Qq3}{w:Qqa}{A:Around}{E:QqV}{s:Qq1}
def zN9{b c:Bool}(ac:SeqIs b s.heap l1 xs)(aa:SeqIs c s.heap l2 ys)
  (h:∀h' z ti to i1 i2,ZApart z ti to i1 i2->ZSt b c z ti to i1 i2 l1 l2 0 h'->(∀d∈[z,ti,to,i1,i2],s.heap.objs.size<=d)->(∀d o,s.heap.get? d=some o->h'.get? d=some o)->Q (.ref z) { s with heap:=h' }) :
  wpAny (model prog w) A (call (.type "zip") [.ref l1,.ref l2]) Q E s:=by
 refine callType_new F.called_zip q9 (F.typeCall_zip_2 _ _) (F.newCall_zip_2 _ _) (λobj=>F.args_object_init_3 obj _ _) F.entry_zip_new (zv7 b c l1 l2 xs ys) ⟨ac,aa,?_⟩
 unfold zh5 zh4 zh3;generalize h1:zh1 s.heap b l1=J;generalize h2:zh1 J c l2=Y
 have z1:J.objs.size=s.heap.objs.size+1:=by rw[<- h1];exact wO ..
 have z2:Y.objs.size=s.heap.objs.size+2:=by rw[<- h2];exact(wO ..).trans (by rw[z1])
 generalize h3:Y.push { cls:=.type "tuple",data:=.seq #[.ref s.heap.objs.size,.ref J.objs.size] }=W
 have z3:W.objs.size=s.heap.objs.size+3:=by rw[<- h3,wO,z2]
 generalize h4:W.push { cls:=.type "tuple",data:=.seq #[.none,.none] }=g4
 have z4:g4.objs.size=s.heap.objs.size+4:=by rw[<- h4,wO,z3]
 have e1:J.get? s.heap.objs.size=some { cls:=.type (VF b),data:=.fields #[.ref l1,.int 0 0] }:=by rw[<- h1];exact zr _ rfl
 have e2:Y.get? J.objs.size=some { cls:=.type (VF c),data:=.fields #[.ref l2,.int 0 0] }:=by rw[<- h2];exact zr _ rfl
 have e3:W.get? Y.objs.size=some { cls:=.type "tuple",data:=.seq #[.ref s.heap.objs.size,.ref J.objs.size] }:=by rw[<- h3];exact zr _ rfl
 have e4:g4.get? W.objs.size=some { cls:=.type "tuple",data:=.seq #[.none,.none] }:=by rw[<- h4];exact zr _ rfl
 have k1:∀d o,s.heap.get? d=some o->J.get? d=some o:=λd o e=>by rw[<- h1];exact zg _ e
 have k2:∀d o,J.get? d=some o->Y.get? d=some o:=λd o e=>by rw[<- h2];exact zg _ e
 have k3:∀d o,Y.get? d=some o->W.get? d=some o:=λd o e=>by rw[<- h3];exact zg _ e
 have k4:∀d o,W.get? d=some o->g4.get? d=some o:=λd o e=>by rw[<- h4];exact zg _ e
 show _/\_;refine⟨⟨_,zr _ rfl,rfl⟩,?_⟩;refine h _ g4.objs.size Y.objs.size W.objs.size s.heap.objs.size J.objs.size ⟨?_,?_,?_,?_,?_,?_,?_,?_,?_,?_⟩ ⟨zr _ rfl,zg _ (k4 _ _ e3),⟨_,_,zg _ e4⟩,?_,?_⟩ (λd hd=>?_) λd o e=>zg _ (k4 _ _ (k3 _ _ (k2 _ _ (k1 _ _ e))))
 ·rw[z2,z4];first |exact zJ q5 |exact wm q5
 ·rw[z3,z4];first |exact zJ q5 |exact wm q5
 ·rw[z4];first |exact zJ q5 |exact wm q5
 ·rw[z1,z4];first |exact zJ q5 |exact wm q5
 ·rw[z2,z3];first |exact zJ q5 |exact wm q5
 ·rw[z2];first |exact zJ q5 |exact wm q5
 ·rw[z2,z1];first |exact zJ q5 |exact wm q5
 ·rw[z3];first |exact zJ q5 |exact wm q5
 ·rw[z3,z1];first |exact zJ q5 |exact wm q5
 ·rw[z1];first |exact zJ q5 |exact wm q5
 ·cases b<;>exact⟨_,zg _ (k4 _ _ (k3 _ _ (k2 _ _ e1))),rfl,rfl⟩
 ·cases c<;>exact⟨_,zg _ (k4 _ _ (k3 _ _ e2)),rfl,rfl⟩
 ·simp only [zn, xb, or_false] at hd
  rcases hd with rfl |rfl |rfl |rfl |rfl
  ·rw[z4];lia
  ·rw[z2];lia
  ·rw[z3];lia
  ·exact zj _
  ·rw[z1];lia
end
end L2
namespace L2
def Inv.track(I:Inv X pins σ H s)(hn:H a=none)(hz:X.s₀.heap.objs.size<=a)(hL:a≠X.env.locals)
  (hc:∀x c,X.env.cells.lookup x=some c->c≠a) (hp:∀p∈X.pn++pins,p.1≠a) (W:ObjOk X.prog X.w (upd H a o) s.heap a o):Inv X pins σ (upd H a o) s:=by
 have J:∀b u,H b=some u->b≠a:=λb u e=>yC e hn;refine⟨I.ok,I.os,I.bare,⟨I.base.keep,I.base.slot,λb u e n hx=>?_,I.base.there,λb xs e=>?_,λb u xs e=>?_,λb ps e=>?_⟩,I.loc,I.cell,?_,λx c e=>?_,λp Y=>?_,λb u e=>?_,I.len⟩
 ·rw[ww (zJ (xi (zw e) hz))];exact I.base.free b u e n hx
 ·have q:=I.base.tups b xs e;rw[ww (J b _ q)];exact q
 ·have q:=I.base.frzs b u xs e;rw[ww (J b _ q)];exact q
 ·obtain⟨m,q⟩:=I.base.tbls b ps e;exact⟨m,by rw[ww (J b _ q)];exact q⟩
 ·rw[ww (Ne.symm hL)];exact I.free
 ·rw[ww (hc x c e)];exact I.freeC x c e
 ·obtain ⟨q1, q2, q3⟩ := I.pin p Y
  exact⟨q1,by rw[ww (hp p Y)];exact q2,q3⟩
 ·by_cases hb : b = a
  ·subst hb;rw[yx] at e;cases e;exact W
  ·rw [ww hb] at e
   exact(I.hok b u e).stay (λ_ _ _ q=>q) (λc q=>by rw[ww (J c _ q)];exact q) (λc xs q=>by rw[ww (J c _ q)];exact q) λc o u q=>by rw[ww (J c _ q)];exact q
structure CompOk(X:Cx)(scope:Scope)(M:Qq2):Prop where
 kind:scope.kind=.function
 uniq:∀y∈scope.names,scope.names.lookup y.1=some y.2
 frees:∀y∈scope.names,y.2=.free->(X.env.kindOf y.1=some .cell\/X.env.kindOf y.1=some .free)
 shadow:∀x∈M,scope.names.lookup x≠some .local/\scope.names.lookup x≠some .cell
 same:∀(i:Nat) (x:Str),M[i]?=some x->scope.names.lookup x=some .free->X.N[i]?=some x
 mlen:M.length=X.N.length
noncomputable def zB1(N M:Qq2)(J sc:Scope):Bool:=
 (sc.kind == .function && sc.names.all (λy => sc.names.lookup y.1 == some y.2 && (y.2 != .free || (J.names.lookup y.1 == some .cell || J.names.lookup y.1 == some .free))) &&
  M.all (λx=>sc.names.lookup x != some .local&&sc.names.lookup x != some .cell))&&(M.length == N.length&&(M.zip N).all (λp=>sc.names.lookup p.1 != some .free||p.1 == p.2))
def vX(h:zB1 X.N M X.env.scope sc=true):CompOk X sc M:=by
 unfold zB1 at h;rw[zW,zW,zW,zW,yJ,yJ,yJ] at h;obtain⟨⟨⟨h1,h2⟩,h3⟩,h4,h5⟩:=h
 have hl:M.length=X.N.length:=by simpa using h4
 refine⟨by simpa using h1,λy J=>?_,λy J Y=>?_,λx hx=>?_,λi x hi Y=>?_,hl⟩
 ·have := h2 y J;rw[zW] at this
  simpa using this.1
 ·have := h2 y J;rw[zW] at this;have q:=this.2;rw[Y] at q
  have q':(X.env.scope.names.lookup y.1 == some .cell||X.env.scope.names.lookup y.1 == some .free)=true:=by simpa using q
  rw[Bool.or_eq_true] at q'
  exact q'.imp (λz=>(show X.env.scope.names.lookup y.1=some .cell by simpa using z)) λz=>(show X.env.scope.names.lookup y.1=some .free by simpa using z)
 ·have := h3 x hx;rw[zW] at this
  exact⟨by simpa using this.1,by simpa using this.2⟩
 ·have W : i < X.N.length := by rw [<- hl]; exact (zu.mp hi).1
  have hn:X.N[i]?=some X.N[i]:=zd W
  have hz:(M.zip X.N)[i]?=some (x,X.N[i]):=by rw[List.getElem?_zip_eq_some];exact⟨hi,hn⟩
  have:=h5 _ (zV hz);rw[Bool.or_eq_true] at this
  rcases this with z |z
  ·rw[Y] at z;simp at z
  ·have e : x = X.N[i] := by simpa using z
   rw[hn,<- e]
noncomputable def Zk(X:Cx)(scope:Scope)(C:Addr):List (Str × Addr):=cellsFrom (C+1) scope.names (Yr X.env scope.names [])
def yP(X:Cx)(scope:Scope)(own M:Qq2)(C:Addr)(J:Qq1)(H2:Hp)(fp:Qqc):Cx where
 prog:=X.prog
 w:=X.w
 K:=X.K
 mg:=X.mg
 base:=X.base
 A:=X.A
 N:=own++M
 s₀:=J
 H₀:=H2
 env:=compEnvC scope (Zk X scope C) C X.env
 outer:=X.stack
 stack:=X.stack
 ex:=fp
 fn:=λx=>scope.names.lookup x == some .cell
 calm:=X.calm
 pn:=[]
 xe:=λ_ _=>False
def PTs(X:Cx)(ifs:Qq9)(t:TT):Prop:=
 ∀(pins:QqL) (s:Qq1) (σ:St) (H:Hp) (Q:Bool->Hp->Prop),Inv X pins σ H s->t σ H Q->wpAny (model X.prog X.w) X.A (zi3 ifs X.env) (TP X pins σ Q) X.xe s
def xK0:TT:=λ_ H Q=>Q true H
def zV4:PTs X [] xK0:=λ_ _ _ H _ I h=>ze ⟨H,I,h⟩
def zV3{X:Cx}{c:Expr}{t:TT}(J:PT X c t):PTs X [c] t:=by
 intro pins s σ H Q I h;show wpAny _ _ (forIn [c] true _) _ _ s;simp only[forIn_cons,forIn_nil,if_true];exact zb (zb (thn (J pins s σ H Q I h) λb s' W=>ze (ze W)))
def zE9(wi:TI)(own:Nat)(g:TG)(tt:TT)(te:TE):TE:=λσ H Q=>wi σ H λJ H1=>∃W:Nat->Nat->List V->Hp->Prop,(∃m,W 0 m [] H1)/\∀i m acc H,W i m acc H ->
 (J.stop i H/\acc.length<=sizeLine/\∀D,H D=none->Q (.ref D) (upd H D (.lst acc))) \/
 (J.go i H /\ acc.length < sizeLine /\ ∀ x H', J.yld i H x H' -> g x (List.replicate own none ++ σ) H' λY H2 => Y.drop own = σ /\ tt Y H2 λc H3 =>
  if c=true then te Y H3 λv H4=>∃m',m'<m/\W (i+1) m' (acc++[v]) H4 else ∃m',m'<m/\W (i+1) m' acc H3)
section
variable {X:Cx}{scope:Scope}{own M:Qq2}{pins:QqL}{σ:St}{H2:Hp}{s2:Qq1}{fp:Qqc}
def CompOk.cells(ok:CompOk X scope M)(I:Inv X pins σ H2 s2):∀y∈scope.names,y.2=.free->∃c,X.env.cells.lookup y.1=some c:=λy J W=>I.ok.has y.1 (ok.frees y J W)
def CompOk.kindIn(ok:CompOk X scope M)(h:(compEnvC scope (Zk X scope C) C X.env).kindOf x=some k) :
  scope.names.lookup x=some k\/(k=.cell/\scope.names.lookup x=some .free):=by
 have h':(relabel scope X.env).names.lookup x=some k:=h;unfold relabel at h';rw[Xv] at h'
 cases e:scope.names.lookup x with
 |none=>rw[e] at h';simp at h'
 | some j =>
  rw[e,Option.map_some] at h';have h2:=zD h'
  split at h2
  ·rename_i J
   have:j=.free:=by
    rw[zW,zW] at J
    simpa using J.1.1
   exact .inr ⟨h2.symm,by rw[this]⟩
  ·exact .inl (by rw[h2])
def CompOk.cellsFrom_old(ok:CompOk X scope M)(I:Inv X pins σ H2 s2)(h:(Zk X scope C).lookup x=some c)(hx:scope.names.lookup x≠some .cell):X.env.cells.lookup x=some c:=by
 have e0:∀(l:List (Str × NameKind)) (n:Nat) (acc:List (Str × Addr)),(x,NameKind.cell) ∉ l->(cellsFrom n l acc).lookup x=acc.lookup x:=by
  intro l
  induction l with
  |nil=>intro n acc _;rfl
  | cons y r W =>
   intro n acc J;obtain⟨m,k⟩:=y;unfold cellsFrom
   split
   ·rename_i hk
    have hk':k=.cell:=by simpa using hk
    rw[W _ _ λz=>J (zk _ z),xN]
    have:(x == m)=false:=by
     cases hb:x == m with
     |false=>rfl
     |true=>
      have e:x=m:=by simpa using hb
      exact absurd (by rw[hk',e];exact xj) J
    rw[this]
   ·exact W _ _ λz=>J (zk _ z)
 unfold Zk at h;rw[e0 _ _ _ λY=>hx (ok.uniq _ Y)] at h
 exact qL scope.names [] (ok.cells I) (λ_ _ z=>by simp at z) x c h
end
section
variable {X:Cx}{scope:Scope}{own M:Qq2}{pins:QqL}{σ:St}{H2:Hp}{s2:Qq1}{tg iter elt:Expr}{ifs:Qq9}{pos:Pos}{g:TG}{tt:TT}{te:TE}
section
variable {X:Cx}{scope:Scope}{own M:Qq2}{pins:QqL}{σ:St}{H2:Hp}{s2:Qq1}{fp:Qqc}
def zx7(ok:CompOk X scope M)(hc:X.calm=true)(I:Inv X pins σ H2 s2)(hf:∀b∈fp,FpOk X pins H2 b/\b<s2.heap.objs.size)(Y:C=s2.heap.objs.size+1)
  (hh:h4=pushCells ((s2.heap.push o0).push { cls:=.type "dict",data:=.dict #[] }) scope.names) :
  Inv (yP X scope own M C s2 H2 fp) [] (replicate own.length none++σ) H2 { s2 with heap:=h4 }:=by
 have zC:(s2.heap.push o0).objs.size=C:=by rw[wO,Y]
 have ac:((s2.heap.push o0).push { cls:=.type "dict",data:=.dict #[] }).objs.size=C+1:=by rw[wO,zC]
 have keep:∀b o,s2.heap.get? b=some o->h4.get? b=some o:=λb o e=>by
  rw[hh];exact pushCells_keeps _ _ _ _ (zg _ (zg _ e))
 have cellOld:∀x c,X.env.cells.lookup x=some c->c<s2.heap.objs.size:=λx c e=>by obtain⟨v,q⟩:=I.cell x c e;exact q.lt
 have J:∀x c,(Zk X scope C).lookup x=some c->(h4.IsCell c none/\C+1<=c/\scope.names.lookup x=some .cell)\/X.env.cells.lookup x=some c:=λx c e=>by
  by_cases hx:scope.names.lookup x=some .cell
  ·have e' := e;unfold Zk at e';rw[<- ac] at e'
   rcases zB5 _ _ _ x c e' with ⟨a,b,d⟩ |q
   ·exact .inl ⟨by rw[hh];exact a,by rw[ac] at b;exact b,hx⟩
   ·exact .inr (qL scope.names [] (ok.cells I) (λ_ _ z=>by simp at z) x c q)
  ·exact .inr (ok.cellsFrom_old I e hx)
 have ah:∃m,h4.Ns C m:=by
  have q:((s2.heap.push o0).push { cls:=.type "dict",data:=.dict #[] }).Ns C (λ_=>none):=by
   have:=Heap.Ns.new (s2.heap.push o0) (.type "dict");rw[zC] at this;exact this
  exact⟨_,q.keeps λb o e=>by rw[hh];exact pushCells_keeps _ _ _ _ e⟩
 have af:∀b∈fp,b ∉ frs X.stack:=λb hb hx=>by
  obtain⟨⟨_,f1,f2,_⟩,_⟩:=hf b hb
  rcases zn.mp (I.stkSub b hx) with e |e
  ·exact f1 e
  ·exact f2 e
 obtain⟨mC,ag⟩:=ah
 refine⟨⟨I.ok.mod,ok.kind,I.ok.glob,I.ok.blt,?_,?_,?_,?_,I.ok.hd,I.ok.frames,.inl rfl,?_,I.bs,?_,?_,af,I.stack,I.stkFree⟩,rfl,I.bare,Un.kept keep,⟨mC,ag,?_⟩,?_,I.hok.fresh (by show s2.heap.objs.size<=C;rw[Y];exact wt _),?_,λp hp=>absurd (show p∈([]:QqL) from hp) (by simp),I.hok.kept keep,?_⟩
 ·show s2.heap.objs.size<=C;rw[Y];exact wt _
 ·intro x y c h1 h2;refine zB3 scope.names (C+1) (Yr X.env scope.names []) (λa b d p q=>?_) (λa d p=>?_) x y c h1 h2
  ·exact I.ok.inj a b d (qL scope.names [] (ok.cells I) (λ_ _ z=>by simp at z) a d p) (qL scope.names [] (ok.cells I) (λ_ _ z=>by simp at z) b d q)
  ·have := cellOld a d (qL scope.names [] (ok.cells I) (λ_ _ z => by simp at z) a d p)
   rw[Y];exact yg (yg this)
 ·intro x hx
  have go:∀k,(k=NameKind.cell\/k=NameKind.free)->(compEnvC scope (Zk X scope C) C X.env).kindOf x=some k->∃c,(Zk X scope C).lookup x=some c:=λk hk e=>by
   rcases ok.kindIn e with e |⟨_,e⟩
   ·rcases hk with rfl | rfl
    ·exact zB4 _ _ _ (PySem.mem_of_lookup e)
    ·exact Xn _ _ _ (Zj (y:=(x,.free)) rfl _ _ (PySem.mem_of_lookup e))
   ·exact Xn _ _ _ (Zj (y:=(x,.free)) rfl _ _ (PySem.mem_of_lookup e))
  rcases hx with e |e
  ·exact go _ (.inl rfl) e
  ·exact go _ (.inr rfl) e
 ·intro x c hx h
  have hx':scope.names.lookup x=some .cell:=by simpa [yP] using hx
  have:=xc1 (x:=x) scope.names (C+1) (Yr X.env scope.names []) (C+1) (zj _) (.inl (PySem.mem_of_lookup hx')) c h;show s2.heap.objs.size<=c
  exact zG (by rw[Y];exact zG (wt _) (wt _)) this
 ·intro b hb;obtain⟨⟨_,_,_,_,f4,_⟩,f6⟩:=hf b hb;refine⟨?_,λx c h=>?_⟩
  ·show b≠C;rw[Y];exact zJ (yg f6)
  ·rcases J x c h with ⟨_, q, _⟩ | q
   ·rw[Y] at q;exact wm (xi f6 (zG (zG (wt _) (wt _)) q))
   ·exact f4 x c q
 ·exact zG I.ok.bsz I.sz
 ·intro b o e hb;obtain⟨⟨_,_,_,f3,_⟩,_⟩:=hf b hb
  rcases f3 with z |z
  ·exact I.ok.noex b o e z
  ·exact absurd (xi (zw (I.ok.bs b o e).1) z) (wf _)
 ·intro i x v h1 h2 h3;have h2':(replicate own.length (none:Option V)++σ)[i]?=some (some v):=h2
  have hi:own.length<=i:=by
   apply Nat.le_of_not_lt;intro ad
   rw[xW (by simpa using ad),xS] at h2'
   rw[if_pos ad] at h2';cases h2'
  rw[xC (by simpa using hi),wN] at h2'
  have h1':(own++M)[i]?=some x:=h1;rw[xC hi] at h1';obtain⟨n1,n2⟩:=ok.shadow x (zV h1')
  have aa:scope.names.lookup x=some .free/\((compEnvC scope (Zk X scope C) C X.env).kindOf x=some .cell\/(compEnvC scope (Zk X scope C) C X.env).kindOf x=some .free):=by
   rcases h3 with e |e |e
   ·rcases ok.kindIn (x := x) (C := C) e with q | ⟨q, _⟩
    ·exact absurd q n1
    ·cases q
   ·rcases ok.kindIn (x := x) (C := C) e with q | ⟨_, q⟩
    ·exact absurd q n2
    ·exact⟨q,.inl e⟩
   ·rcases ok.kindIn (x := x) (C := C) e with q | ⟨q, _⟩
    ·exact⟨q,.inr e⟩
    ·cases q
  obtain⟨W,hk⟩:=aa;obtain⟨m,hn,hl⟩:=I.loc;have ae:=ok.frees (x,.free) (PySem.mem_of_lookup W) rfl;have h1':=ok.same _ _ h1' W;obtain⟨u,ru,lk⟩:=hl (i-own.length) x v h1' h2' (ae.elim (λz=>.inr (.inl z)) λz=>.inr (.inr z));refine⟨u,ru,.inr ⟨hk,?_⟩⟩
  rcases lk with ⟨k,_⟩ |⟨_,c,ec,ic⟩
  ·rcases ae with z |z<;>(rw[k] at z;cases z)
  ·obtain ⟨c', e'⟩ : ∃ c', (Zk X scope C).lookup x = some c' := Xn _ _ _ (Zj (y := (x, .free)) rfl _ _ (PySem.mem_of_lookup W));refine⟨c',e',?_⟩
   have:=ok.cellsFrom_old I e' (by rw[W];simp)
   have e2:some c=some c':=ec.symm.trans this;cases e2;exact ic.keeps keep
 ·intro x c h
  rcases J x c h with ⟨q,_⟩ |q
  ·exact⟨_,q⟩
  ·obtain⟨v,z⟩:=I.cell x c q;exact⟨v,z.keeps keep⟩
 ·intro x c h
  rcases J x c h with ⟨q,q2,_⟩ |q
  ·exact I.hok.fresh (by rw[Y] at q2;exact zG (zG (wt _) (wt _)) q2)
  ·exact I.freeC x c q
 ·show(List.replicate own.length (none:Option V)++σ).length=(own++M).length;rw[zF,zF,wN,I.len,ok.mlen]
end
def zO2(σ σ':St):Prop:=∀(j:Nat) (v:V),σ[j]?=some (some v)->σ'[j]?=some (some v)
def qC{m:Nat}(h:sg2.drop m=sg):zO2 (replicate m none++sg) sg2:=by
 intro j v e
 by_cases hj:j<m
 ·rw [xW (by simpa using hj), xS, if_pos hj] at e
  cases e
 ·rw [xC (by simpa using Nat.le_of_not_lt hj), wN, <- h, wD] at e
  rw[show m+(j-m)=j by lia] at e
  exact e
section
variable {X:Cx}{pins:QqL}{σ:St}{H:Hp}{s:Qq1}
def Inv.pin1(I:Inv X pins σ H s)(W:FpOk X pins H a)(ho:s.heap.get? a=some o)(Y:∀v,o.data≠.cell v):Inv X ((a,o)::pins) σ H s:=by
 refine⟨I.ok,I.os,I.bare,I.base,I.loc,I.cell,I.free,I.freeC,λp J=>?_,I.hok,I.len⟩
 rcases xk.mp J with J |J
 ·exact I.pin p (xu _ J)
 ·rcases zn.mp J with rfl | J
  ·exact⟨ho,W.1,W.2.1,W.2.2.1,Y⟩
  ·exact I.pin p (xf _ J)
def Inv.unpin(I:Inv X (q::pins) σ H s):Inv X pins σ H s:=
 ⟨I.ok,I.os,I.bare,I.base,I.loc,I.cell,I.free,I.freeC,λp J=>I.pin p (by
  rcases xk.mp J with J |J
  ·exact xu _ J
  ·exact xf _ (zk _ J)),I.hok,I.len⟩
def Inv.pinAt(I:Inv X pins σ H s)(h:q∈pins):s.heap.get? q.1=some q.2/\H q.1=none:=
 let z:=I.pin q (xf _ h);⟨z.1,z.2.1⟩
end
section
variable {X:Cx}{pf:QqL}{σ:St}{H:Hp}{s:Qq1}
def Inv.bump{t:Nat}(I:Inv X ((D,ob)::pf) σ H s)(f:FpOk X pf H D)(hs:Heap.SameBut D s.heap h')(ho:h'.get? D=some ob')(nc:∀v,ob'.data≠.cell v):Inv X ((D,ob')::pf) σ H { s with heap:=h',toks:=t }:=
 Inv.pin1 (I.unpin.turned (t':=t) (λb o J e=>hs.extBut b o J e) f.1 f.2.1 f.2.2.2.1 f.2.2.2.2.1 f.2.2.2.2.2) f ho nc
end
section
variable {X:Cx}{scope:Scope}{own M:Qq2}{pins:QqL}{σ:St}{H2:Hp}{s2:Qq1}{tg iter elt:Expr}{ifs:Qq9}{pos:Pos}{g:TG}{tt:TT}{te:TE}
noncomputable abbrev cxC(X:Cx)(scope:Scope)(own M:Qq2)(s2:Qq1)(H2:Hp)(fp:Qqc):Cx:=yP X scope own M (s2.heap.objs.size+1) s2 H2 fp
def zb0{α:Type}{nil:α}{e:Expr}{o0:Obj}{ho:Addr->α->HO}{DO:α->Obj->Prop}{SZ GZ:α->Prop}{KK:St->Prop}{TB:Nat->Nat->α->St->Hp->Prop}{ac:(Shared->Prop)->Shared->Prop}(nc:∀a ob,DO a ob->∀v,ob.data≠.cell v)(h0:DO nil o0)(fr:o0.isFreed=false)
  (ok:CompOk X scope M) (hc:X.calm=true) {fp:Qqc} (hg:PG (cxC X scope own M s2 H2 fp) tg g) (ht:PTs (cxC X scope own M s2 H2 fp) ifs tt) (kk:∀σ',KK σ'->zO2 (replicate own.length none++σ) σ')
  (I2:Inv X pins σ H2 s2) {it:Addr}{tn:Nat->Heap->Prop}{J:It} (T:Turn X.prog X.w X.K tg J fp it tn) (ak:tn 0 s2.heap) (f2:∀b∈fp,FpOk X pins H2 b) {W:Nat->Nat->α->Hp->Prop} (w0:∃m,W 0 m nil H2) {Qf:V->Hp->Prop}
  (turn : ∀ i m acc H, W i m acc H -> (J.stop i H /\ SZ acc /\ ∀ D, H D = none -> Qf (.ref D) (upd H D (ho D acc))) \/
   (J.go i H/\GZ acc/\∀x H',J.yld i H x H'->g x (replicate own.length none++σ) H' λσ2 H2=>KK σ2/\tt σ2 H2 λc H3=>if c=true then TB i m acc σ2 H3 else ∃m',m'<m/\W (i+1) m' acc H3))
  (ar:∀i m acc H ob h,W i m acc H->SZ acc->DO acc ob->H s2.heap.objs.size=none->h.get? s2.heap.objs.size=some ob->ObjOk X.prog X.w (upd H s2.heap.objs.size (ho s2.heap.objs.size acc)) h s2.heap.objs.size (ho s2.heap.objs.size acc))
  (loop : ∀ (R : Result -> Shared -> Prop) (L : Nat -> Shared -> Prop), (∀ n s, L n s -> wpAny (model X.prog X.w) X.A (pyNext (.ref it)) (λr s1 => match r with
   |none=>R (.ok .next) s1
   | some v => wpAny (model X.prog X.w) X.A (letOwnedTupleGo tg (.ref it) v) (λ_ s2' => wpAny (model X.prog X.w) X.A (assign tg (cxC X scope own M s2 H2 fp).env v) (λ_ s3 => wpAny (model X.prog X.w) X.A (zi3 ifs (cxC X scope own M s2 H2 fp).env) (λok s4 =>
     if ok=true then ac (λs7=>∃m,m<n/\L m s7) s4 else ∃m,m<n/\L m s4) (λ_ _=>False) s3) (λ_ _=>False) s2') (λ_ _=>False) s1) (λ_ _=>False) s) ->
   ∀n s,L n s->codeAny (model X.prog X.w) X.A (.compLoop e 0 (.ref it) (.ref s2.heap.objs.size) (cxC X scope own M s2 H2 fp).env) R s)
  (start : ∀ (R : Result -> Shared -> Prop) s, codeAny (model X.prog X.w) X.A (.compLoop e 0 (.ref it) (.ref s2.heap.objs.size) (cxC X scope own M s2 H2 fp).env) R s ->
   (∀E,wpAny (model X.prog X.w) X.A (pyIter (.ref it)) (λit' s'=>codeAny (model X.prog X.w) X.A (.compLoop e 0 it' (.ref s2.heap.objs.size) (cxC X scope own M s2 H2 fp).env) R s') E s)->codeAny (model X.prog X.w) X.A (.compStart e 0 (.ref it) (.ref s2.heap.objs.size) (cxC X scope own M s2 H2 fp).env) R s)
  (body : ∀ (pf : List (Addr × Obj)) (σ6 : St) (H7 : Hp) (s7 : Shared) (i n : Nat) (acc : α) (ob : Obj), Inv (cxC X scope own M s2 H2 fp) ((s2.heap.objs.size, ob) :: pf) σ6 H7 s7 -> DO acc ob -> GZ acc -> (∀ {H : Hp}, H s2.heap.objs.size = none -> FpOk (cxC X scope own M s2 H2 fp) pf H s2.heap.objs.size) ->
   KK σ6->TB i n acc σ6 H7->∀post:Shared->Prop,
   (∀{acc' ob' σ9 H9 s9 m'},m'<n->W (i+1) m' acc' H9->DO acc' ob'->zO2 (replicate own.length none++σ) σ9->Inv (cxC X scope own M s2 H2 fp) ((s2.heap.objs.size,ob')::pf) σ9 H9 s9->post s9)->ac post s7)
  {R0:Result->Shared->Prop}
  (fin:∀H' s' m,Inv X pins σ H' s'->Qf (.ref s2.heap.objs.size) H'->s'.heap.Ns (s2.heap.objs.size+1) m->H' (s2.heap.objs.size+1)=none->s2.heap.objs.size+1≠X.env.locals->X.s₀.heap.objs.size<=s2.heap.objs.size+1->(∀x c,X.env.cells.lookup x=some c->c≠s2.heap.objs.size+1)->(∀p∈X.pn++pins,p.1≠s2.heap.objs.size+1)->R0 (.ok .next) s') {h4:Heap}
  (hh:h4=pushCells ((s2.heap.push o0).push { cls:=.type "dict",data:=.dict #[] }) scope.names) :
  codeAny (model X.prog X.w) X.A (.compStart e 0 (.ref it) (.ref s2.heap.objs.size) (cxC X scope own M s2 H2 fp).env) R0 { s2 with heap:=h4 }:=by
 have aq:∀b∈fp,FpOk X pins H2 b/\b<s2.heap.objs.size:=λb Y=>by
  obtain⟨o,e,_⟩:=T.obj 0 _ ak b Y;exact⟨f2 b Y,zw e⟩
 have av:s2.heap.objs.size<s2.heap.objs.size+1:=Nat.lt_succ_self _;unfold cxC at *;generalize hC:s2.heap.objs.size+1=C at *;have I4:Inv (yP X scope own M C s2 H2 fp) [] (replicate own.length none++σ) H2 { s2 with heap:=h4 }:=zx7 ok hc I2 aq hC.symm hh;generalize hX:yP X scope own M C s2 H2 fp=X' at *
 have af:∀b o,s2.heap.get? b=some o->h4.get? b=some o:=λb o e=>by
  rw[hh];exact pushCells_keeps _ _ _ _ (zg _ (zg _ e))
 have ao:h4.get? s2.heap.objs.size=some o0:=by
  rw[hh];exact pushCells_keeps _ _ _ _ (zg _ (zr _ fr))
 have ai:tn 0 h4:=T.keep _ _ _ ak λb Y o e=>af b o e
 have xP:X'.prog=X.prog:=by rw[<- hX];rfl
 have xw:X'.w=X.w:=by rw[<- hX];rfl
 have xK:X'.K=X.K:=by rw[<- hX];rfl
 have xA:X'.A=X.A:=by rw[<- hX];rfl
 have xc:X'.calm=true:=by rw[<- hX];exact hc
 have ah:X'.pn=[]:=by rw[<- hX];rfl
 have xs:X'.s₀=s2:=by rw[<- hX];rfl
 have xH:X'.H₀=H2:=by rw[<- hX];rfl
 have xL:X'.env.locals=C:=by rw[<- hX];rfl
 have ax:X'.fs=frs X.stack:=by rw[<- hX];rfl
 have aa:X'.ex=fp:=by rw[<- hX];rfl
 have xe:X'.xe=λ_ _=>False:=by rw[<- hX];rfl
 have ag:∀{pl:QqL}{H:Hp},(∀b∈fp,H b=none)->(∀p∈pl,p.1 ∉ fp)->∀b∈fp,FpOk X' pl H b:=λ{pl H} hn az b Y=>by
  have z:=I4.ok.exf b (by rw[aa];exact Y)
  refine⟨hn b Y,z.1,I4.ok.exfs b (by rw[aa];exact Y),.inl (by rw[aa];exact Y),λx c e=>z.2 x c e,λp hp y=>?_⟩
  rw[ah,wC] at hp
  exact az p hp (by rw[y];exact Y)
 have aw:s2.heap.objs.size ∉ fp:=λz=>wf _ (aq _ z).2;have DC:s2.heap.objs.size≠C:=zJ av
 have fD:∀{pl:QqL}{H:Hp},(∀p∈pl,p.1∈fp)->H s2.heap.objs.size=none->FpOk X' pl H s2.heap.objs.size:=λ{pl H} hp hn=>by
  refine⟨hn,by rw[xL];exact DC,λz=>?_,.inr (by rw[xs];exact zj _),λx c e z=>?_,λp h z=>?_⟩
  ·obtain ⟨_, o, ho, _⟩ := I4.ok.funs.mem (by exact z)
   rw[xs] at ho;exact wf _ (zw ho)
  ·obtain⟨v,o,q,hd⟩:=I4.cell x c e;rw[z] at q;cases ao.symm.trans q;exact nc _ _ h0 _ hd
  ·rw [ah, wC] at h
   exact aw (by rw[<- z];exact hp p h)
 have main:codeAny (model X.prog X.w) X.A (.compLoop e 0 (.ref it) (.ref s2.heap.objs.size) X'.env) R0 { s2 with heap:=h4 }:=by
  obtain⟨m0,w0⟩:=w0
  refine loop _ (λn s'=>∃i acc σ' H' ob,Inv X' [(s2.heap.objs.size,ob)] σ' H' s'/\zO2 (replicate own.length none++σ) σ'/\tn i s'.heap/\(∀b∈fp,H' b=none)/\DO acc ob/\W i n acc H') ?_ m0 _
   ⟨0,nil,_,H2,_,I4.pin1 (fD (λ_ h=>by cases h) (I2.hok.fresh (zj _))) ao (nc _ _ h0),λ_ _ e=>e,ai,λb Y=>(f2 b Y).1,h0,w0⟩
  rintro n s3 ⟨i,acc,σ3,H3,ob,I3,hσ,aj,ap,rv,w3⟩
  have ae:∀p∈[((s2.heap.objs.size,ob):Addr × Obj)],p.1 ∉ fp:=λp hp=>by
   rw[zE.mp hp];exact aw
  rcases turn i n acc H3 w3 with ⟨stop,hsz,q⟩ |⟨go,gz,step⟩
  ·have := T.done X' xP xw xK xc i _ s3 σ3 H3 (λ_ _ => False) I3 (ag ap ae) aj stop;rw[xA] at this;refine thn this λr s4 ⟨hr,I5⟩=>?_;subst hr
   have un:Un (frs X.stack) fp H2 H3 s2.heap s4.heap:=by
    have:=I5.base;rw[ax,aa,xH,xs] at this;exact this
   have hok:HOk X.prog X.w H3 s4.heap:=by have:=I5.hok;rw[xP,xw] at this;exact this
   have IX:Inv X pins σ H3 s4:=I2.call' (by rw[I5.os,xs]) un hok I5.bare λb Y=>by
    obtain⟨_,f1,_,f3,f4,f5⟩:=f2 b Y;exact⟨f3,f1,f4,f5⟩
   have am:∀{b:Addr},s2.heap.objs.size<=b->(X.s₀.heap.objs.size<=b/\b≠X.env.locals/\(∀x c,X.env.cells.lookup x=some c->c≠b)/\∀p∈X.pn++pins,p.1≠b):=λ{b} Y=>by
    obtain⟨_,f1,_,f3,f4,f5⟩:=I2.fpOk (H':=λ_=>none) Y rfl;exact⟨zG I2.sz Y,f1,f4,f5⟩
   obtain⟨d1,d2,d3,d4⟩:=am (zj s2.heap.objs.size);obtain⟨c1,c2,c3,c4⟩:=am (b:=C) (wb av);obtain⟨m,hm,_⟩:=I5.loc;rw[xL] at hm
   have aB:H3 C=none:=by have:=I5.free;rw[xL] at this;exact this
   obtain⟨aA,hD⟩:=I5.pinAt (.head _)
   exact fin _ s4 m (IX.track hD d1 d2 d3 d4 (ar i n acc H3 ob s4.heap w3 hsz rv hD aA)) (q _ hD) hm (by rw[ww (Ne.symm DC)];exact aB) c2 c1 c3 c4
  ·have := T.item X' xP xw xK xc i _ s3 σ3 H3 (λ_ _ => False) I3 (ag ap ae) aj go;rw[xA] at this;refine thn this λr s4 ⟨u,hr,h4⟩=>?_;subst hr;refine thn h4 λ_ s5 ⟨x,H5,I5,r5,y5,ad,aC⟩=>?_;have aD:=(I5.weak (σ':=replicate own.length none++σ) (I4.len.trans I5.len.symm) hσ).pinned (ag aC ae) (T.obj _ _ ad);have a1:=hg _ s5 _ H5 x u _ aD r5 (step x H5 y5);rw[xP,xw,xA,xe] at a1;refine thn a1 λ_ s6 ⟨σ6,H6,I6,d6,q6⟩=>?_;have a2:=ht _ s6 σ6 H6 _ I6 q6;rw[xP,xw,xA,xe] at a2;refine thn a2 λb s7 ⟨H7,I7,q7⟩=>?_
   have outer:∀{H:Hp}{s:Qq1}{σ7:St}{ob:Obj},Inv X' ((s2.heap.objs.size,ob)::Vw fp s5.heap) σ7 H s->(tn (i+1) s.heap/\(∀b∈fp,H b=none)/\Inv X' [(s2.heap.objs.size,ob)] σ7 H s):=λ{H s σ7 ob} I=>by
    refine⟨T.keep _ _ _ ad λb Y o e=>(I.pinAt (.tail _ (Zx Y e))).1,λb Y=>?_,I.pins_of λp hp=>I.pin p ?_⟩
    ·obtain⟨o,e,d⟩:=T.obj _ _ ad b Y;exact(I.pinAt (q:=(b,o)) (.tail _ (Zx Y e))).2
    ·rw[zE.mp hp];exact xf _ (.head _)
   cases b with
   |false=>
    obtain⟨p1,p2,p5⟩:=outer I7;obtain⟨m',hm,w7⟩:=q7;exact⟨m',hm,i+1,acc,σ6,H7,ob,p5,kk _ d6,p1,p2,rv,w7⟩
   |true=>
    rw[if_pos rfl] at q7 ⊢;refine body (Vw fp s5.heap) σ6 H7 s7 i n acc ob I7 rv gz (fD λp hp=>(Jf hp).1) d6 q7 _ λ{acc' ob' σ9 H9 s9 m'} hm w9 ay k9 I9=>?_;obtain⟨p1,p2,p5⟩:=outer I9;exact⟨m',hm,i+1,acc',σ9,H9,ob',p5,k9,p1,p2,ay,w9⟩
 exact start _ _ main λE=>T.self _ 0 _ _ E ai main
def LstO(acc:List V)(ob:Obj):Prop:=∃its k,ob={ cls:=.type "list",data:=.seq (List.toArray its) k }/\Vals acc its
def LstO.nc(a:List V)(ob:Obj):LstO a ob->∀v,ob.data≠.cell v:=fun⟨_,_,e,_⟩ v z=>by rw[e] at z;cases z
def zK4(hz:acc.length<=sizeLine):LstO acc ob->h.get? D=some ob->ObjOk P w (upd H D (.lst acc)) h D (.lst acc):=fun⟨its,k,e,rv⟩ ho=>⟨hz,its,k,rv,by rw[ho,e]⟩
def zK3(I:Inv X' ((D,ob)::pf) σ H s)(f:∀{H:Hp},H D=none->FpOk X' pf H D)(d:LstO acc ob)(gz:acc.length<sizeLine)(r:RelV v y)
  (k:∀{ob' s'},LstO (acc++[v]) ob'->Inv X' ((D,ob')::pf) σ H s'->post s'):wpAny (model X'.prog X'.w) X'.A (call (.builtin "list.append") [.ref D,y]) (λ_=>post) (λ_ _=>False) s:=by
 obtain⟨its,n,rfl,rv⟩:=d;have W:=I.pinAt (.head _);have Y:=rv.length
 refine wpAny_list_append_plain (items:=List.toArray its) ⟨n,W.1⟩ (λh' J hs=>?_) (by simp;lia)
 obtain⟨n',J⟩:=J
 exact k ⟨its++[y],n',rfl,rv.append (.cons r .nil)⟩ (I.bump (t:=s.toks) (f W.2) hs (by rw[J];simp) λv z=>by cases z)
def JJ(ok:CompOk X scope M)(hc:X.calm=true)(hg:∀C s2 H2 fp,PG (yP X scope own M C s2 H2 fp) tg g)(ht:∀C s2 H2 fp,PTs (yP X scope own M C s2 H2 fp) ifs tt)(he:∀C s2 H2 fp,PE (yP X scope own M C s2 H2 fp) elt te)
  (I2:Inv X pins σ H2 s2) {it:Addr}{fp:Qqc}{tn:Nat->Heap->Prop}{J:It} (T:Turn X.prog X.w X.K tg J fp it tn) (aa:tn 0 s2.heap) (f2:∀b∈fp,FpOk X pins H2 b)
  {W:Nat->Nat->List V->Hp->Prop} (w0:∃m,W 0 m [] H2) {Qf:V->Hp->Prop}
  (turn : ∀ i m acc H, W i m acc H -> (J.stop i H /\ acc.length <= sizeLine /\ ∀ D, H D = none -> Qf (.ref D) (upd H D (.lst acc))) \/
   (J.go i H /\ acc.length < sizeLine /\ ∀ x H', J.yld i H x H' -> g x (List.replicate own.length none ++ σ) H' λσ2 H2 => σ2.drop own.length = σ /\ tt σ2 H2 λc H3 =>
    if c=true then te σ2 H3 λv H4=>∃m',m'<m/\W (i+1) m' (acc++[v]) H4 else ∃m',m'<m/\W (i+1) m' acc H3))
  {RR:Value->Addr->Result->Shared->Prop}{E:QqV}
  (fin:∀D C H' s' m,Inv X pins σ H' s'->Qf (.ref D) H'->s'.heap.Ns C m->H' C=none->C≠X.env.locals->X.s₀.heap.objs.size<=C->(∀x c,X.env.cells.lookup x=some c->c≠C)->(∀p∈X.pn++pins,p.1≠C)->RR (.ref D) C (.ok .next) s') :
  wpAny (model X.prog X.w) X.A (newList []) (λacc s3=>wpAny (model X.prog X.w) X.A (newFunctionEnv scope X.env.globals (Yr X.env scope.names []) [] X.env.qual none .none (some X.env)) (λY s4=>
   codeAny (model X.prog X.w) X.A (.compStart (.ListComp elt [⟨tg,iter,ifs,0⟩] scope pos) 0 (.ref it) acc { Y with scope:=relabel scope X.env }) (RR acc Y.locals) s4) E s3) E s2:=by
 refine xD (Yk ?_);dsimp only;rw[wO]
 exact zb0 (ho:=λ_=>.lst) LstO.nc ⟨[],0,rfl,.nil⟩ rfl ok hc (hg _ _ _ _) (ht _ _ _ _) (λ_=>qC) I2 T aa f2 w0 turn (λ_ _ _ _ _ _ _ hz d _=>zK4 hz d)
  (λR L turn n s h=>zA9 (elt:=elt) (iter:=iter) (scope:=scope) (pos:=pos) L turn n h) (λ_ _ h k=>codeAny_compStart_list h (k _))
  (λpf σ6 H7 s7 i n acc ob I7 d gz fD kd q7 post fin=>thn (he _ _ _ _ _ s7 σ6 H7 _ I7 q7) λy s8 ⟨v,H8,I8,r8,m',hm,w8⟩=>zK3 I8 fD d gz r8 λd' I'=>fin hm w8 d' (qC kd) I') (fin _ _) rfl
end
def zW5{wi:TI}(ok:CompOk X scope M)(hc:X.calm=true)(hi:PI X tg iter wi)(hg:∀C s2 H2 fp,PG (yP X scope own M C s2 H2 fp) tg g)(ht:∀C s2 H2 fp,PTs (yP X scope own M C s2 H2 fp) ifs tt)
  (he:∀C s2 H2 fp,PE (yP X scope own M C s2 H2 fp) elt te) (hs:∀x,foldedSetIterable iter X.env x=pure x:=by intro _;rfl) :
  PE X (.ListComp elt [⟨tg,iter,ifs,0⟩] scope pos) (zE9 wi own.length g tt te):=by
 intro pins s σ H Q I h;rw[eval_ListComp]
 refine yY (use:=none) rfl hs (XW (ok.cells I)) ok.kind (λx hx hl=>by rw[ok.uniq x hx,hl]) ?_
 refine thn (hi pins s σ H _ I h) λv s1 h1=>thn h1 λac s2 h2=>?_;obtain⟨it,fp,tn,J,H2,e,I2,T,Y,f2,W,w0,turn⟩:=h2;subst e;refine JJ (Qf:=Q) ok hc hg ht he I2 T Y f2 w0 turn λD C H' s' m IY q hm aa c2 c1 c3 c4=>⟨m,hm,λh' hs'=>?_⟩;exact⟨.ref D,H',IY.turned (t':=s'.toks) (λb o hb e=>hs'.extBut b o hb e) aa c2 (.inr c1) c3 c4,rfl,q⟩
def zk0{wi:TI}{i:Nat}{x:Str}{pos' spos:Pos}(hN:X.N.Nodup)(ad:X.N[i]?=some x)(hx:Loc X.env.scope x)(ok:CompOk X scope M)(hc:X.calm=true)(hi:PI X tg iter wi)(hg:∀C s2 H2 fp,PG (yP X scope own M C s2 H2 fp) tg g)
  (ht:∀C s2 H2 fp,PTs (yP X scope own M C s2 H2 fp) ifs tt) (he:∀C s2 H2 fp,PE (yP X scope own M C s2 H2 fp) elt te)
  (aa:swapsWith (.ListComp elt [⟨tg,iter,ifs,0⟩] scope pos) (some (.Name x pos')) spos.line X.env=pure true:=by rfl) (hf:X.fn x=true\/X.env.scope.names.lookup x=some .local:=by first |exact .inl rfl |exact .inr rfl |assumption)
  (hs:∀x,foldedSetIterable iter X.env x=pure x:=by intro _;rfl):PS X (.Assign [.Name x pos'] (.ListComp elt [⟨tg,iter,ifs,0⟩] scope pos) spos) (xt6 (zE9 wi own.length g tt te) (zM4 i)):=by
 intro pins s σ H D I h;rw[exec_Assign_Name_used _ _ _ _ aa];refine zb (wpAny_standAt (zb ?_))
 show wpAny _ _ (do let _ <- comprehension (.ListComp elt [⟨tg,iter,ifs,0⟩] scope pos) scope X.env _ (newList []) false (eval iter X.env) (some (assign (.Name x pos') X.env))) _ _ s
 refine zb (thn (yY (use:=some (assign (.Name x pos') X.env)) (Q:=λ_ s'=>SP X pins D .next s') rfl hs (XW (ok.cells I)) ok.kind (λx hx hl=>by rw[ok.uniq x hx,hl]) ?_)
  λ_ s' hq=>ze (ze hq))
 refine thn (hi pins s σ H _ I h) λv s1 h1=>thn h1 λag s2 h2=>?_;obtain⟨it,fp,tn,J,H2,e,I2,T,Y,f2,W,w0,turn⟩:=h2;subst e;refine JJ (Qf:=λx H1=>zM4 i x σ H1 D.nx) ok hc hg ht he I2 T Y f2 w0 turn λD' C H' s' m IY q hm ae c2 c1 c3 c4=>?_;show wpAny _ _ (assign (.Name x pos') X.env (.ref D')) _ _ s';refine wpAny_assign_Name (Kq IY hN ad hx (v:=.ref D') rfl (λs'' I'' ⟨a,ac,ha⟩=>?_) hf)
 have af:C≠a:=by
  rcases ha with z |z
  ·rw[z];exact c2
  ·exact λe=>c3 x a z e.symm
 exact⟨m,hm.sameBut ac af,λh' hs'=>⟨_,H',I''.turned (t':=s''.toks) (λb o hb e=>hs'.extBut b o hb e) ae c2 (.inr c1) c3 c4,q⟩⟩
end
section
variable {X:Cx}{pins:QqL}{σ:St}{H:Hp}{s:Qq1}
def Inv.turnedL{t':Nat}{h':Heap}{ch:Qqc}(I:Inv X pins σ H s)(k:∀b o,b ∉ ch->s.heap.get? b=some o->h'.get? b=some o)(Y:∀b∈ch,FpOk X pins H b):Inv X pins σ H { s with heap:=h',toks:=t' }:=by
 have W:∀b u,H b=some u->b ∉ ch:=λb u e z=>by rw[(Y b z).1] at e;cases e
 refine I.step (g':=s.gens) (d':=s.drawn) (ch:=ch) (λb hb=>?_) (λb o _ _ J e _=>k b o J e) (λb o _ _ J e _=>⟨o.slots,k b o J e⟩) (λ_ _ _ _ n=>n)
  (λb o J e=>⟨o,k b o J e⟩) (λ_ _ e=>e) (λ_ _ _ e=>e) (λb ps e=>⟨#[],by rw[e];simp⟩) (λm hm=>?_) (λb u e=>?_) I.bare
 ·obtain⟨_,f1,_,f3,f4,f5⟩:=Y b hb;exact⟨f3,f1,f4,f5⟩
 ·obtain⟨o,es,ep,ho,r⟩:=hm;exact⟨o,es,ep,k _ o (λz=>(Y _ z).2.1 rfl) ho,r⟩
 ·refine (I.hok b u e).stay (λc v J q => k c v ?_ q) (λ_ q => q) (λ_ _ q => q) λ_ _ _ q => q
  rcases J with z |z
  ·rw[z];exact W b u e
  ·exact W c _ z
def SqB(K:Qq5)(b:Bool)(H:Hp)(a:Addr)(xs:List V):Prop:=match b with |true=>SqL K H a xs |false=>SqT K H a xs
def Inv.seqB{b:Bool}(I:Inv X pins σ H s)(h:SqB X.K b H a xs):∃its:List Value,Vals xs its/\SeqIs b s.heap a its.toArray:=by
 cases b with
 |true=>obtain⟨its,r,p,_⟩:=I.list h;exact⟨its,r,p.isList⟩
 |false=>obtain⟨its,r,p,_⟩:=I.tuple h;exact⟨its,r,p⟩
def Inv.seqB_inj{b:Bool}(I:Inv X pins σ H s)(h:SqB X.K b H a xs)(h':SqB X.K b H a ys):xs=ys:=by
 cases b with
 |true=>exact I.list_inj h h'
 |false=>exact I.tuple_inj h h'
def Inv.ne_fp{b:Bool}(I:Inv X pins σ H s)(h:SqB X.K b H a xs)(Y:FpOk X pins H c):a≠c:=by
 have J:∀o,X.K.lookup a=some o->a≠c:=λo e z=>by
  have W:=I.ok.mod.kin a o e;rw[z] at W;obtain⟨_,_,_,f3,_⟩:=Y
  rcases f3 with q |q
  ·exact I.ok.noex c o W q
  ·exact absurd (xi (zw (I.ok.bs c o W).1) q) (wf _)
 have trk:∀u,H a=some u->a≠c:=λu e=>yC e Y.1
 cases b with
 |true=>
  rcases h with (h |⟨o,h⟩) |⟨o,_,_,hk,_⟩
  ·exact trk _ h
  ·exact trk _ h
  ·exact J o hk
 |false=>
  rcases h with (h |⟨o,h⟩) |⟨o,_,_,hk,_⟩
  ·exact trk _ h
  ·exact trk _ h
  ·exact J o hk
def Itz(K:Qq5)(b c:Bool)(l1 l2:Addr):It:=
  ⟨λi H=>∃xs ys x y,SqB K b H l1 xs/\SqB K c H l2 ys/\xs[i]?=some x/\ys[i]?=some y,
   λi H v H'=>∃T,H T=none/\v=.ref T/\∀xs ys,SqB K b H l1 xs->SqB K c H l2 ys->∃x y,xs[i]?=some x/\ys[i]?=some y/\H'=upd H T (.tup [x,y]),
   λi H=>∃xs ys,SqB K b H l1 xs/\SqB K c H l2 ys/\(xs.length<=i\/ys.length<=i)⟩
def newTup(I:Inv X pins σ H s)(I1:Inv X pins σ H s1)(W:s.heap.objs.size<=T)(J:H T=none)(ho:s1.heap.get? T=some { cls:=.type "tuple",data:=.seq #[u,v] })(rx:RelV x u)(Y:RelV y v) :
  Inv X pins σ (upd H T (.tup [x,y])) s1:=by
 obtain⟨_,f1,_,f3,f4,f5⟩:=I.fpOk (H':=H) W J
 exact I1.track J (zG I.sz W) f1 f4 f5 ⟨(by show 2<=sizeLine;decide),[u,v],.cons rx (.cons Y .nil),⟨_,ho,rfl,_,rfl⟩⟩
def zE3{P:Qq3}{w:Qqa}{K:Qq5}{es:Qq9}{kk:Nat}{ps:Pos}{b c:Bool}{z ti to i1 i2 l1 l2:Addr}(D:ZApart z ti to i1 i2) :
  Turn P w K (.Tuple es kk ps) (Itz K b c l1 l2) [z,ti,to,i1,i2] z (λi h=>ZSt b c z ti to i1 i2 l1 l2 i h) where
 mem:=by simp
 obj:=λi h st d hd=>by
  have nc:∀{o:Obj}{vs:Qq8},o.data=.fields vs->∀v,o.data≠.cell v:=λe v q=>by rw[e] at q;cases q
  simp only[zn,xb,or_false] at hd
  rcases hd with rfl |rfl |rfl |rfl |rfl
  ·exact⟨_,st.z,λv q=>by cases q⟩
  ·exact⟨_,st.ti,λv q=>by cases q⟩
  ·obtain ⟨u, v, e⟩ := st.to
   exact⟨_,e,λv q=>by cases q⟩
  ·obtain⟨o,e,_,hd⟩:=st.i1.obj;exact⟨o,e,nc hd⟩
  ·obtain⟨o,e,_,hd⟩:=st.i2.obj;exact⟨o,e,nc hd⟩
 keep:=λi h h' st k=>by
  obtain⟨u,v,e⟩:=st.to
  exact⟨k z (by simp) _ st.z,k ti (by simp) _ st.ti,⟨u,v,k to (by simp) _ e⟩,st.i1.at λo q=>k i1 (by simp) o q,st.i2.at λo q=>k i2 (by simp) o q⟩
 item:=by
  intro X hP hw hK hc i pins s σ H E I hf st hg;subst hP hw hK;obtain⟨xs,ys,x,y,q1,Y,hx,hy⟩:=hg;obtain⟨ad,r1,p1⟩:=I.seqB q1;obtain⟨ac,r2,p2⟩:=I.seqB Y;obtain⟨u,hu,ru⟩:=r1.get hx;obtain⟨v,hv,rv⟩:=r2.get hy
  have J:=hf to (by simp)
  refine zK0 D st p1 p2 (I.ne_fp q1 J) (I.ne_fp Y J) (x:=u) (y:=v) (by simpa using hu) (by simpa using hv) λh' M hT kp=>?_
  have lt:∀{d:Addr},d∈[z,ti,to,i1,i2]->s.heap.objs.size≠d:=λ{d} hd e=>by
   obtain⟨o,q⟩:∃o,s.heap.get? d=some o:=by
    simp only[zn,xb,or_false] at hd
    rcases hd with rfl |rfl |rfl |rfl |rfl
    ·exact⟨_,st.z⟩
    ·exact⟨_,st.ti⟩
    ·obtain⟨u,v,e⟩:=st.to;exact⟨_,e⟩
    ·obtain⟨o,e,_⟩:=st.i1.obj;exact⟨o,e⟩
    ·obtain⟨o,e,_⟩:=st.i2.obj;exact⟨o,e⟩
   have:=zw q;rw[<- e] at this;exact wf _ this
  refine⟨_,rfl,wpAny_letOwnedTupleGo_zip (s:={ s with heap:=h' }) M.z λh'' z' sb=>?_⟩
  have aa:∀d o,d ∉ [z,ti,to,i1,i2]->s.heap.get? d=some o->h''.get? d=some o:=λd o hd e=>by
   simp only[zn,xb,or_false,not_or] at hd;exact sb.extBut _ _ hd.1 (kp d o hd.1 hd.2.2.1 hd.2.2.2.1 hd.2.2.2.2 e)
  have I1:Inv X pins σ H { s with heap:=h'' }:=I.turnedL (t':=s.toks) aa hf;have hn:H s.heap.objs.size=none:=I.hok.fresh (zj _)
  have I2:Inv X pins σ (upd H s.heap.objs.size (.tup [x,y])) { s with heap:=h'' }:=newTup I I1 (zj _) hn (sb.extBut _ _ (lt (by simp)) hT) ru rv
  obtain⟨u',v',ae⟩:=M.to
  refine⟨.ref s.heap.objs.size,_,I2,rfl,⟨_,hn,rfl,λxs' ys' e1 e2=>⟨x,y,by rw[I.seqB_inj e1 q1];exact hx,by rw[I.seqB_inj e2 Y];exact hy,rfl⟩⟩,?_,λd hd=>?_⟩
  ·exact⟨z',sb.extBut _ _ D.a1 M.ti,⟨u',v',sb.extBut _ _ D.a2 ae⟩,M.i1.at λo e=>sb.extBut _ _ D.a3 e,M.i2.at λo e=>sb.extBut _ _ D.a4 e⟩
  ·rw[ww (Ne.symm (lt hd))];exact(hf d hd).1
 done:=by
  intro X hP hw hK hc i pins s σ H E I hf st hg;subst hP hw hK;obtain⟨xs,ys,q1,Y,hx⟩:=hg;obtain⟨ad,r1,p1⟩:=I.seqB q1;obtain⟨ac,r2,p2⟩:=I.seqB Y
  have J:=hf to (by simp)
  have e1:=r1.length;have e2:=r2.length
  refine Jh (I.ok.hd hc) D st p1 p2 (I.ne_fp q1 J) (I.ne_fp Y J) (hx.imp (λz=>by simp;lia) λz=>by simp;lia) λh' kp=>⟨rfl,I.turnedL (t':=s.toks) (λd o hd e=>?_) hf⟩
  simp only[zn,xb,or_false,not_or] at hd;exact kp d o hd.1 hd.2.2.1 hd.2.2.2.1 hd.2.2.2.2 e
 self:=λ_ _ _ _ _ st h=>wpAny_pyIter_zip st.z h
def xP1(K:Qq5)(ta:TA):TI:=λσ H R=>ta σ H λvs H1=>∃b c l1 l2 xs ys,vs=[.ref l1,.ref l2]/\SqB K b H1 l1 xs/\SqB K c H1 l2 ys/\R (Itz K b c l1 l2) H1
def xh7{es:Qq9}{kk:Nat}{ps:Pos}{a b:Expr}{ta:TA}{p pos:Pos}(hg:Gl X "zip")(hm:X.mg "zip" = none)(ha:PA X [a,b] ta)(hs:starEach [a,b] X.env=[(false,eval a X.env),(false,eval b X.env)]:=by rfl)(W:starEach [b] X.env=[(false,eval b X.env)]:=by rfl) :
  PI X (.Tuple es kk ps) (.Call (.Name "zip" p) [a,b] [] pos) (xP1 X.K ta):=by
 intro pins s σ H R I h
 refine Call_ (Jw I hg hm boot_zip (PyProof.Rows.callWith_type1 (thn (ha pos pins s σ H _ I h) λus s1 ⟨vs,H1,Y,r1,q1⟩=>?_) (by rw[hs,W]) (by rw[W];rfl)))
 obtain⟨bb,cc,l1,l2,xs,ys,e,q1,q2,q⟩:=q1;subst e
 cases r1 with
 | cons r rr =>
  cases rr with
  |cons r' rr=>
   cases rr;cases r;cases r';obtain⟨ac,r1,p1⟩:=Y.seqB q1;obtain⟨aa,r2,p2⟩:=Y.seqB q2;refine zN9 p1 p2 λh' z ti to i1 i2 D S J kp=>wpAny_pyIter_zip S.z ?_;exact⟨z,[z,ti,to,i1,i2],_,_,H1,rfl,Y.kept (t':=s1.toks) kp,zE3 D,S,λd hd=>Y.fpOk (J d hd) (Y.hok.fresh (J d hd)),q⟩
def Vals.bools:∀{bs:List Bool},Vals (bs.map V.bl) us->us=bs.map Value.bool:=by
 induction us with
 |nil=>intro bs h;cases bs with |nil=>rfl |cons=>cases h
 | cons u us J =>
  intro bs h
  cases bs with
  |nil=>cases h
  | cons b bs =>
   cases h with
   |cons r t=>
    have e:u=Value.bool b:=r;rw[e,J t];rfl
def zU5(bs:List Bool):((List.range bs.length).any λi=>(bs[i]?).getD false)=bs.any id:=by
 rw[wS,List.any_eq_true,List.any_eq_true]
 constructor
 ·rintro⟨i,hi,h⟩;have hi':=vv.mp hi;rw[zd hi'] at h;exact⟨_,wZ hi',h⟩
 ·rintro ⟨b, J, h⟩;obtain⟨i,hi,e⟩:=List.mem_iff_getElem.mp J
  exact⟨i,vv.mpr hi,by rw[zd hi,e];exact h⟩
def zf3{h h':Heap}{o:Obj}(hk:∀b x,b ∉ [h.objs.size]->(h.push o).get? b=some x->h'.get? b=some x):∀b x,h.get? b=some x->h'.get? b=some x:=
 λb x e=>hk b x (λz=>absurd (zw e) (by rw[zE.mp z];exact wf _)) (zg _ e)
def zO0(hc:X.calm=true):qy X (.builtin "any") (λxs H Q=>∃(p:Addr) (bs:List Bool),xs=[.ref p]/\SqL X.K H p (bs.map V.bl)/\Q (.bl (bs.any id)) H):=by
 intro pins s σ H xs us Q I r h;obtain⟨p,bs,rfl,hq,q⟩:=h
 cases r with
 | cons r Y =>
  cases Y;cases r;obtain⟨its,rv,pl,_⟩:=I.list hq;have ei:=Vals.bools rv;subst ei;have W:=pl.isList
  have J:p<s.heap.objs.size:=by obtain⟨_,e,_⟩:=W;exact zw e
  refine call_any_walk (vd W ⟨s.heap.objs.size,[s.heap.objs.size,p],[s.heap.objs.size],(bs.map Value.bool).toArray.size,_,_,λi=>(bs[i]?).getD false,rfl,
   Walks.list (A:=X.A.in1) (I.ok.hd hc) _ p (zJ J) _,⟨⟨_,zr _ rfl,rfl,rfl⟩,W.push _⟩,λi v s' Q' E' hP hQ=>?_,λh' tk hk=>?_⟩)
  ·have hP' : (bs.map Value.bool)[i]? = some v := by simpa using hP
   rw[zy] at hP'
   cases e:bs[i]? with
   |none=>rw[e] at hP';cases hP'
   |some b=>
    rw[e] at hP';have hQ':Q' ((bs[i]?).getD false) s':=hQ;rw[e] at hQ';cases hP';exact ye hQ'
  ·refine⟨.bl (bs.any id),H,I.kept (zf3 hk),?_,q⟩;show Value.bool _=Value.bool _;rw[zt,zf,zU5]
def Vb:fillsNumberSlot (.type "tuple") "mul" = pure false:=
 PySem.fillsNumberSlot_seq (id := "tuple.__mul__") (r:=some (.builtin "tuple.__rmul__")) F.slot_tuple_mul.lookup w5 F.slot_tuple_rmul.lookup w5
def zU6:seqRepeat? (.type "tuple")=pure (some (.builtin "tuple.__mul__")):=by
 unfold seqRepeat?
 rw[PySem.seqSlot_of (T := "tuple") (name := "__mul__") (id := "tuple.__mul__") F.slot_tuple_mul.lookup w5,PySem.seqSlot_of (T := "tuple") (name := "__rmul__") (id := "tuple.__rmul__") F.slot_tuple_rmul.lookup w5]
 rfl
def zF6(a:Int)(t:Tok)(l:Addr)(o:Obj)(items:Qq8)(n:Nat) :
  Meets (Builtin.«int.__rmul__» ⟨[.int a t,.ref l],[]⟩) (λ_ R s=>s.heap.get? l=some o/\o.cls=.type "tuple" /\ o.data=.seq items n/\R (.ok (.ret Value.notImplemented)) s):=
 .of_wp λprog w A R s h=>by
  obtain⟨hp,g,d,Y,os⟩:=s;obtain⟨hl,J,hd,h⟩:=h;obtain⟨c,dd,W,sl⟩:=o
  replace J:c=.type "tuple" := J
  replace hd:W=.seq items n:=hd
  subst J hd
  wp_walk
  exact⟨_,rfl,h⟩
def zY7(l:Addr)(o:Obj)(items:Qq8)(n:Nat)(k:Int)(t:Tok)(h1:¬ (decide (k < -(2^63))||decide (k>=2^63))=true)(he:items.isEmpty=false)(aa:(k == 1)=false)(Y:(decide (k<=0)||items.isEmpty)=false)
    (W:¬ (items.size:Int)*k > (2^63-1)/8) (J:¬ Builtin.Tuple.tupleTooMany ((items.size:Int)*k)=true) (hz:((replicate k.toNat items).foldl (·++·) #[]).size<=sizeLine) :
    Meets (Builtin.«tuple.__mul__» ⟨[.ref l,.int k t],[]⟩) (λ_ R s=>s.heap.get? l=some o/\o.cls=.type "tuple" /\ o.data=.seq items n /\
      R (.ok (.ret (.ref s.heap.objs.size))) { s with heap:=s.heap.push { cls:=.type "tuple",data:=.seq ((replicate k.toNat items).foldl (·++·) #[]) } }):=
  .of_wp λprog w A R s h=>by
    obtain⟨hp,g,d,tk,os⟩:=s;obtain⟨hl,hc,hd,h⟩:=h;obtain⟨c,dd,dt,sl⟩:=o
    replace hc:c=.type "tuple" := hc
    replace hd:dt=.seq items n:=hd
    subst hc hd
    wp_walk
    rw[if_neg h1]
    wp_walk
    rw[Y,if_neg xl];dsimp only;rw[if_neg W,if_neg J];unfold Builtin.Tuple.tupleExact;refine zb (wpAny_newTuple ?_);exact ze ⟨_,rfl,h⟩
def zK2(l:Addr)(o:Obj)(items:Qq8)(n:Nat)(t:Tok) :
  Meets (Builtin.«tuple.__mul__» ⟨[.ref l,.int 1 t],[]⟩) (λ_ R s=>s.heap.get? l=some o/\o.cls=.type "tuple" /\ o.data=.seq items n/\R (.ok (.ret (.ref l))) s):=
 .of_wp λprog w A R s h=>by
  obtain⟨hp,g,d,Y,os⟩:=s;obtain⟨hl,J,hd,h⟩:=h;obtain⟨c,dd,W,sl⟩:=o
  replace J:c=.type "tuple" := J
  replace hd:W=.seq items n:=hd
  subst J hd
  wp_walk
  exact⟨_,rfl,h⟩
def xg5(K:Qq5):R2:=λx y H Q=>∃l k xs,x=.ref l/\y=.int k/\SqT K H l xs/\xs≠[]/\1<=k/\xs.length*k.toNat<=sizeLine /\
 (k=1->Q (.ref l) H)/\(k≠1->∀p,H p=none->Q (.ref p) (upd H p (.tup (replicate k.toNat xs).flatten)))
def zt5:OpR X (binaryOp .Mult) (xg5 X.K):=by
 intro pins s σ H x y v u Q I rx ry h;obtain⟨l,k,xs,rfl,rfl,hq,af,h1,hz,q1,q2⟩:=h;cases rx;obtain⟨t,rfl⟩:=ry;obtain⟨its,rv,⟨o,e,hc,n,hd⟩,_⟩:=I.tuple hq;have ad:=rv.length
 have W:0<its.length:=by rw[<- ad];exact List.length_pos_iff.mpr af
 have Y:s.TypeIs (.ref l) "tuple" := ⟨o,e,hc⟩
 refine wpAny_binaryOp_repeat_ref (T := "tuple") (U := "int") q9 Y (λs'=>typeIs_int s' k t) Vb F.fills_int_mul F.slot_int_rmul zU6 F.slot_int_index.lookup
  (call_meets F.slot_int_rmul (typeIs_int s k t) F.entry_int_rmul (F.args_int_rmul_2 _ _) (zF6 k t l o its.toArray n) ⟨e,hc,hd,rfl,Y,?_⟩)
 by_cases hk:k=1
 ·subst hk;exact call_meets F.slot_tuple_mul Y F.entry_tuple_mul (F.args_tuple_mul_2 _ _) (zK2 l o its.toArray n t) ⟨e,hc,hd,⟨.ref l,H,I,rfl,q1 rfl⟩⟩
 ·have ah : (2 : Int) <= k := by lia
  have ac:its.length*k.toNat<=sizeLine:=by rw[<- ad];exact hz
  have J:((its.toArray.size:Nat):Int)*k=((its.length*k.toNat:Nat):Int):=by
   rw[zt,Int.natCast_mul,Int.toNat_of_nonneg q5]
  have ae:(sizeLine:Int)=16777216:=q9
  have hb:((its.length*k.toNat:Nat):Int)<=16777216:=by rw[<- ae];exact Int.ofNat_le.mpr ac
  have ag:k<=16777216:=by
   have:k.toNat<=its.length*k.toNat:=Nat.le_mul_of_pos_left _ W;lia
  have aa:List.foldl (λx1 x2=>x1++x2) #[] (replicate k.toNat its.toArray)=(replicate k.toNat its).flatten.toArray:=by
   have:=JB its k.toNat [];rw[wC] at this;exact this
  refine call_meets F.slot_tuple_mul Y F.entry_tuple_mul (F.args_tuple_mul_2 _ _) (zY7 l o its.toArray n k t ?_ ?_ ?_ ?_ ?_ ?_ ?_) ⟨e,hc,hd,?_⟩
  ·rw[Bool.or_eq_true,yf,yf];lia
  ·cases its with
   |nil=>simp at W
   |cons=>rfl
  ·simpa using hk
  ·rw [Bool.or_eq_false_iff]
   refine⟨xn q5,?_⟩
   cases its with
   |nil=>simp at W
   |cons=>rfl
  ·rw[J];lia
  ·unfold Builtin.Tuple.tupleTooMany;rw[J,yf,ae];lia
  ·rw[aa,zt,zw1,Nat.mul_comm];exact ac
  ·rw [aa]
   refine⟨.ref _,_,I.laid (o:=.tup (replicate k.toNat xs).flatten) (t':=s.toks) (λ_ _ z=>zg _ z) (zj _) ⟨by rw[zw1,Nat.mul_comm];exact hz,_,rv.rep k.toNat,⟨_,zr _ rfl,rfl,_,rfl⟩⟩,rfl,q2 hk _ I.fresh⟩
end
section
variable (P:Qq3) (w:Qqa)
end
section
variable {P:Qq3}{w:Qqa}{H H':Hp}{h h':Heap}{a:Addr}{o:HO}
end
section
variable {P:Qq3}{w:Qqa}{H:Hp}{h h':Heap}{x e:Addr}{o':HO}
end
section
variable {fs fs' ex ex':Qqc}{H H1 H2:Hp}{h h1 h2 h':Heap}{a x e:Addr}{o:HO}
end
section
variable {X:Cx}{pins:QqL}{σ:List (Option V)}{H H':Hp}{s:Qq1}{h':Heap}
end
section
variable {X:Cx}
variable {a b:Expr}{ta tb:TE}{pos:Pos}
variable {tA tB':TT}{rest:Qq9}
end
section
variable {X:Cx}{pins:QqL}{σ:St}{H:Hp}{s:Qq1}{a:Addr}{xs ys:List V}
end
section
variable {X:Cx}{pins:QqL}{σ:St}{H:Hp}{s:Qq1}{E:QqV}
end
section
variable {X:Cx}{st:Stmt}{rest:List Stmt}{t u:TS}{e:Expr}{te:TE}{pos:Pos}
end
section
variable {X:Cx}{pos:Pos}
end
section
variable {X:Cx}{tg:Expr}
end
section
variable {X:Cx}{a b c:Expr}{ta tb tc:TE}{pos:Pos}
end
section
variable {prog:Qq3}{w:Qqa}{A:Around}{E:QqV}{s:Qq1}{K:Qq5}{x dx C f:Addr}{mA:QqM}{name:Str}{v:Value}
end
section
variable {P:Qq3}{w:Qqa}{H H':Hp}{h h':Heap}{a C dx:Addr}{fs fs':List (Str × V)}
end
section
variable {X:Cx}{pins:QqL}{σ:St}{H:Hp}{s:Qq1}{a C dx:Addr}{fs:List (Str × V)}{f:Str}{v:V}{A:Around}{E:QqV}
end
section
variable {X:Cx}{o e value:Expr}{f:Str}{pos pos' tpos:Pos}{ta tv:TE}
end
section
variable {X:Cx}{pins:QqL}{σ:St}{H:Hp}{s:Qq1}{A:Around}{E:QqV}{Q:QqV}{c:Value}{b:Bool}
end
section
variable {X:Cx}{e:Expr}{es:Qq9}{te:TE}{t:TA}{pos:Pos}
end
section
variable {X:Cx}{pins:QqL}{σ:St}{H:Hp}{s s':Qq1}
end
section
variable {X:Cx}{CX:CXT}{k:Nat}{f C:Addr}{fd:Qqb}{ps:Qq2}{sp:Sp}{dvs:List V}{ds:QqW}{E:XK}{x m:Str}{p pos apos:Pos}{e o:Expr}{es:Qq9}{ta:TE}{t:TA}
end
section
variable {X:Cx}{CX:CXT}{k:Nat}{f C:Addr}{fd:Qqb}{ps ks:Qq2}{sp:Sp}{E:XK}{x m:Str}{p pos apos kpos:Pos}{e o:Expr}{es:Qq9}{kws:List Keyword}{te ta:TE}{t tk:TA}{nm:Option Str}
variable {g:List Value->List Value->List Value}{gV:List V->List V->List V}
end
section
variable {X:Cx}{x:Str}{p pos:Pos}{e:Expr}{es:Qq9}{t:TA}{id T:String}{r:List V->Hp->VK->Prop}
end
section
variable {κ:Type} [DecidableEq κ]
def Xq(kvs:List (κ × V))(k:κ):Option V:=(kvs.find? λJ=>decide (J.1=k)).map (·.2)
noncomputable def zn7(kvs:List (κ × V))(k:κ)(v:V):List (κ × V):=
 if (kvs.any λJ=>decide (J.1=k))=true then kvs.map (λJ=>if J.1=k then(J.1,v) else J) else kvs++[(k,v)]
def Vo(kvs:List (κ × V))(k:κ):List (κ × V):=kvs.filter λJ=>decide (J.1≠k)
theorem XN{p:κ × V}{r:List (κ × V)}{k:κ}(e:p.1=k):Xq (p::r) k=some p.2:=by simp[Xq,wQ,e]
theorem XO{p:κ × V}{r:List (κ × V)}{k:κ}(e:¬ p.1=k):Xq (p::r) k=Xq r k:=by simp[Xq,wQ,e]
theorem zc8(k:κ):∀kvs:List (κ × V),(kvs.any λJ=>decide (J.1=k))=(Xq kvs k).isSome
 |[]=>rfl
 |p::r=>by
  rw[any_cons]
  by_cases e:p.1=k
  ·simp only[XN e,xI e,Bool.true_or,Option.isSome_some]
  ·rw[XO e,xn e,Bool.false_or];exact zc8 k r
theorem RelO.isSome_eq(r:RelO o u):o.isSome=u.isSome:=by
 cases o with
 |none=>cases u with
  |none=>rfl
  |some _=>exact(show False from r).elim
 |some _=>cases u with
  |none=>exact(show False from r).elim
  |some _=>rfl
theorem KV.val(r:KV kvs vs)(k:κ):RelO (Xq kvs k) (valueAt vs k):=by
 unfold KV at r
 induction r with
 |nil=>exact True.intro
 | @cons p q ps qs h t J =>
  obtain⟨h1,h2⟩:=h
  by_cases e:p.1=k
  ·have e' : q.1 = k := h1.symm.trans e
   have b:valueAt (q::qs) k=some q.2:=by simp[valueAt,wQ,e']
   rw[XN e,b];exact h2
  ·have e' : ¬ q.1 = k := λz => e (h1.trans z)
   have b:valueAt (q::qs) k=valueAt qs k:=by simp[valueAt,wQ,e']
   rw[XO e,b];exact J
theorem KV.any(r:KV kvs vs)(k:κ):(kvs.any λJ=>decide (J.1=k))=vs.any λJ=>decide (J.1=k):=by
 unfold KV at r
 induction r with
 |nil=>rfl
 |cons h t W=>rw[any_cons,any_cons,W,h.1]
theorem KV.repl(r:KV kvs vs)(k:κ)(W:RelV y u) :
  KV (kvs.map λJ=>if J.1=k then(J.1,y) else J) (vs.map λJ=>if J.1=k then(J.1,u) else J):=by
 unfold KV at r ⊢
 induction r with
 |nil=>exact .nil
 |@cons p q ps qs h t Y=>
  rw[zN,zN];refine .cons ?_ Y;obtain⟨h1,h2⟩:=h
  by_cases e:p.1=k
  ·rw[if_pos e,if_pos (h1.symm.trans e)];exact⟨h1,W⟩
  ·rw[if_neg e,if_neg (λz=>e (h1.trans z))];exact⟨h1,h2⟩
theorem KV.put(r:KV kvs vs)(k:κ)(J:RelV y u):KV (zn7 kvs k y) (stored vs k u):=by
 unfold zn7 stored;rw[r.any k]
 by_cases e:(vs.any λW=>decide (W.1=k))=true
 ·rw[if_pos e,if_pos e];exact r.repl k J
 ·rw[if_neg e,if_neg e];exact Paired.snoc r ⟨rfl,J⟩
theorem KV.length(r:KV kvs vs):kvs.length=vs.length:=Paired.length r
end
def zL6(r:RelV (kV k) u):(vg P w).is k u=true:=by
 cases k with
 |inl i=>obtain⟨t,e⟩:=(show ∃t,u=Value.int i t from r);subst e;exact QU P w i t
 |inr x=>obtain⟨t,e⟩:=(show ∃t,u=Value.str x t from r);subst e;exact QT P w x t
theorem WE:∀{ks:List Key}{us:QqW},Vals (ks.map kV) us->ItemsAre (vg P w) ks us
 |[],_,r=>by rw[map_nil] at r;cases r;exact .nil
 |k::ks,_,r=>by
  rw[zN] at r
  cases r with
  |cons h t=>exact .cons (zL6 h) (WE t)
noncomputable abbrev KT(H:Hp):List (List Key × V)->List (List Key × Addr × Value)->Prop:=Paired λp q=>p.1=q.1/\H q.2.1=some (.tup (p.1.map kV))/\RelV p.2 q.2.2
def KT.val(r:KT H kvs xs)(k:List Key):RelO (Xq kvs k) ((atKey xs k).map (·.2)):=by
 induction r with
 |nil=>exact True.intro
 | @cons p q ps qs h t J =>
  obtain⟨h1,_,h2⟩:=h
  by_cases e:p.1=k
  ·have e' : q.1 = k := h1.symm.trans e
   have b:atKey (q::qs) k=some q.2:=by simp[atKey,wQ,e']
   rw[XN e,b];exact h2
  ·have e' : ¬ q.1 = k := λz => e (h1.trans z)
   have b:atKey (q::qs) k=atKey qs k:=by simp[atKey,wQ,e']
   rw[XO e,b];exact J
def KT.repl(r:KT H kvs xs)(k:List Key)(W:RelV y u) :
  KT H (kvs.map λJ=>if J.1=k then(J.1,y) else J) (xs.map (putAt k u)):=by
 induction r with
 |nil=>exact .nil
 |@cons p q ps qs h t Y=>
  rw[zN,zN];refine .cons ?_ Y;obtain⟨h1,h2,h3⟩:=h;unfold putAt
  by_cases e:p.1=k
  ·rw[if_pos e,if_pos (h1.symm.trans e)];exact⟨h1,h2,W⟩
  ·rw[if_neg e,if_neg (λz=>e (h1.trans z))];exact⟨h1,h2,h3⟩
def KT.put(r:KT H kvs xs)(k:List Key)(Y:H b=some (.tup (k.map kV)))(J:RelV y u) :
  KT H (zn7 kvs k y) (storedH xs k b u):=by
 have e:(kvs.any λW=>decide (W.1=k))=(atKey xs k).isSome:=by
  rw[zc8,(r.val k).isSome_eq,Option.isSome_map]
 unfold zn7 storedH;rw[e]
 by_cases q:(atKey xs k).isSome=true
 ·rw[if_pos q,if_pos q];exact r.repl k J
 ·rw[if_neg q,if_neg q];exact Paired.snoc r ⟨rfl,Y,J⟩
def KT.keeps(r:KT H kvs xs)(ht:∀b ys,H b=some (.tup ys)->H' b=some (.tup ys)):KT H' kvs xs:=
 Paired.mapP r λ_ _ z=>⟨z.1,ht _ _ z.2.1,z.2.2⟩
section
variable {P:Qq3}{w:Qqa}{H:Hp}{h:Heap}{a:Addr}
def xf9(ok:HOk P w H h)(e:Rd H a u):ObjOk P w H h a u:=e.ok ok
def zN1(ok:HOk P w H h)(e:Rd H a (.dK kvs)):kvs.length<=sizeLine/\(a == sysModules)=false/\∃vs,KV kvs vs/\h.DictOf (vg P w) a vs:=
 show ObjOk P w H h a (.dK kvs) from xf9 ok e
def zg1(ok:HOk P w H h)(e:H a=some (.tup (ks.map kV))):(tupleKind (vg P w)).is h ks a:=by
 obtain⟨_,its,r,o,h1,h2,n,h3⟩:=(show ObjOk P w H h a (.tup (ks.map kV)) from ok a _ e)
 exact⟨o,its.toArray,n,h1,h2,h3,by simpa using WE r⟩
def zz3(ok:HOk P w H h)(e:Rd H a (.dT kvs)):kvs.length<=sizeLine/\(a == sysModules)=false /\
  ∃xs,KT H kvs xs/\h.DictOfH (tupleKind (vg P w)) a xs:=by
 obtain⟨z,y,xs,r,o,es,ep,h1,h2,h3,h4,h5⟩:=(show ObjOk P w H h a (.dT kvs) from xf9 ok e);refine⟨z,y,xs,r,o,es,ep,h1,h2,h3,h4,λx hx=>?_,h5⟩
 have all:∀{l:List (List Key × V)}{m:List (List Key × Addr × Value)},KT H l m->∀x∈m,(tupleKind (vg P w)).is h x.1 x.2.1:=by
  intro l m q
  induction q with
  |nil=>intro x hx;exact nomatch hx
  | @cons p q ps qs J t W =>
   intro x hx
   rcases zn.mp hx with e |hx
   ·subst e
    exact zg1 ok (by rw[<- J.1];exact J.2.1)
   ·exact W x hx
 exact all r x hx
def zm5(ok:HOk P w H h)(e:H a=some (.dT kvs)):kvs.length<=sizeLine/\(a == sysModules)=false /\
  ∃xs,KT H kvs xs/\h.DictOfH (tupleKind (vg P w)) a xs:=zz3 ok (.inl e)
end
def DGet(H:Hp)(a:Addr)(y:V)(r:Option V):Prop:=
 (∃kvs k,Rd H a (.dK kvs)/\y=kV k/\r=Xq kvs k)\/∃kvs k b,Rd H a (.dT kvs)/\y=.ref b/\H b=some (.tup (k.map kV))/\r=Xq kvs k
def DGet.k{H:Hp}{a:Addr}{kvs:List (Key × V)}{k:Key}(e:H a=some (.dK kvs)):DGet H a (kV k) (Xq kvs k):=.inl ⟨kvs,k,.inl e,rfl,rfl⟩
section
variable {X:Cx}{pins:QqL}{σ:St}{H:Hp}{s:Qq1}{a:Addr}{y v:V}{u r:Value}{o:Option V}{A:Around}{E:QqV}
def Inv.big(I:Inv X pins σ H s):sysModules<s.heap.objs.size:=by
 have h:mainGlobals<s.heap.objs.size:=(I.mod.glob.keeps I.bk).lt
 exact yt q9 h
def zz7(hu:A.units+1<cLine)(I:Inv X pins σ H s)(g:DGet H a y (some v))(ry:RelV y u)(h:∀w' s',Inv X pins σ H s'->RelV v w'->Q w' s') :
  wpAny (model X.prog X.w) A (getItem (.ref a) u) Q E s:=by
 rcases g with ⟨kvs,k,e,ey,l⟩ |⟨kvs,k,b,e,ey,eb,l⟩
 ·subst ey;obtain⟨z,hd,vs,J,dd⟩:=zN1 I.hok e
  obtain⟨w',W,rw'⟩:=RelO.some_of (v:=v) (o:=valueAt vs k) (by rw[l];exact J.val k)
  exact wpAny_getItem_of (zL6 ry) dd.mapOf W (h w' _ (I.tok _) rw')
 ·subst ey;cases(show u=Value.ref b from ry);obtain⟨z,hd,xs,J,dd⟩:=zz3 I.hok e
  obtain⟨w',W,rw'⟩:=RelO.some_of (v:=v) (o:=(atKey xs k).map (·.2)) (by rw[l];exact J.val k)
  obtain⟨p,hp,Y⟩:=Option.map_eq_some_iff.mp W;refine wpAny_getItem_heap (tupleKind_room_in1 hu) (zg1 I.hok eb) dd hp ?_;rw[Y];exact h w' _ (I.tok _) rw'
def xb7(hu:A.units+1<cLine)(I:Inv X pins σ H s)(g:DGet H a y o)(ry:RelV y u)(h:∀s',Inv X pins σ H s'->Q (.bool (!o.isSome)) s') :
  wpAny (model X.prog X.w) A (compareOp .NotIn u (.ref a)) Q E s:=by
 rcases g with ⟨kvs,k,e,W,l⟩ |⟨kvs,k,b,e,W,eb,l⟩
 ·subst W;obtain⟨z,hd,vs,J,Y⟩:=zN1 I.hok e;refine wpAny_notIn_of (zL6 ry) hd Y.mapOf ?_;rw[<- (J.val k).isSome_eq,<- l];exact h _ (I.tok _)
 ·subst W;cases(show u=Value.ref b from ry);obtain⟨z,hd,xs,J,Y⟩:=zz3 I.hok e;refine wpAny_notIn_heap (tupleKind_room_in1 hu) (zg1 I.hok eb) hd Y ?_;have q:=(J.val k).isSome_eq;rw[Option.isSome_map] at q;rw[<- q,<- l];exact h _ (I.tok _)
def zz6{t':Nat}(I:Inv X pins σ H s)(W:Mut (H a))(hs:Heap.SameBut a s.heap h')(he:∃q,h'.get? a=some q)(J:ObjOk X.prog X.w (upd H a ob) h' a ob) :
  Inv X pins σ (upd H a ob) { s with heap:=h',toks:=t' }:=
 I.write (x:=a) (e:=a) W (.inl rfl) (λb q Y z=>(hs.2 b Y).trans z) he J
end
section
variable {X:Cx}{pins:QqL}{σ:St}{H:Hp}{s:Qq1}{a:Addr}{kvs:List (Key × V)}{k:Key}{u:Value}{A:Around}{E:QqV}
end
def xp2(i:Expr):Prop:=∀J W,subscripted i false J W=operate [J,W] (getItem J W)
def zp5{prog:Qq3}{w:Qqa}{A:Around}{E:QqV}{s:Qq1}{env:Env}{W J:Expr}{pos:Pos}{T id:String}{Q:QqV}
  (hl:typeLookup (.type T) "__getitem__" = pure (some (.builtin id))) (hs:xp2 J)
  (h:wpAny (model prog w) A (eval W env) (λo s₁=>wpAny (model prog w) A (eval J env) (λi Y=>Y.TypeIs o T/\wpAny (model prog w) A (getItem o i) Q E Y) E s₁) E s) :
  wpAny (model prog w) A (eval (.Subscript W J pos) env) Q E s:=by
 refine Subscript_ (wV h (λo s₁ h₁=>wV h₁ (λi Y h₂=>?_) λ_ _ x=>x) λ_ _ x=>x);obtain⟨hT,h₂⟩:=h₂;unfold subscriptTail;refine zb ?_;rw[getitemInPython_of_ne hT.not_modules];refine zb (wpAny_specialOf hT hl ?_)
 have fin:wpAny (model prog w) A (subscripted J false o i) (λr s₃=>wpAny (model prog w) A (letTemporaryGo W o r >>= λ_=>pure r) Q E s₃) E Y:=by
  rw[hs o i];exact wpAny_operating (wV h₂ (λr s₃ h₃=>zb (wpAny_letTemporaryGo (ze h₃))) λ_ _ x=>x)
 first
  |exact ze (zb fin)
  |exact zb (ze (zb fin))
  |exact zb fin
def za4(I:Inv X pins σ H s)(g:DGet H a y o):s.TypeIs (.ref a) "dict" := by
 rcases g with ⟨kvs,k,e,_,_⟩ |⟨kvs,k,b,e,_,_,_⟩
 ·obtain⟨_,_,vs,_,J⟩:=zN1 I.hok e;exact J.typeIs
 ·obtain⟨_,_,xs,_,J⟩:=zz3 I.hok e;exact J.typeIs
def xt3(td ty:TE):TE:=λσ H Q=>td σ H λx H1=>ty σ H1 λy H2=>∃a v,x=.ref a/\DGet H2 a y (some v)/\Q v H2
section
variable {X:Cx}{o i e value:Expr}{pos pos' tpos:Pos}{td ty tv:TE}
def zW3(hu:X.A.units+1<cLine)(ho:PE X o td)(hi:PE X i ty)(hs:xp2 i):PE X (.Subscript o i pos) (xt3 td ty):=by
 intro pins s σ H Q I h;refine zp5 PySem.F.slot_dict_getitem.lookup hs (thn (ho pins s σ H _ I h) λu s1 ⟨x,H1,I1,Y,q1⟩=>thn (hi pins s1 σ H1 _ I1 q1) λiv s2 ⟨y,H2,J,W,a,v,ex,g,q2⟩=>?_);subst ex;obtain rfl:u=Value.ref a:=Y;exact⟨za4 J g,zz7 hu J g W λw' s3 I3 rw'=>⟨v,H2,I3,rw',q2⟩⟩
end
def zh2(h:Heap)(J:sysModules<h.objs.size):ObjOk P w H (h.push { cls:=.type "dict",data:=.dict #[] }) h.objs.size (.dK []):=
 ⟨wq _,beq_eq_false_iff_ne.mpr (Ne.symm (zJ J)),[],.nil,Heap.DictOf.new h⟩
section
variable {X:Cx}{pos:Pos}
end
structure M1(X:Cx)(o:Expr)(m:Str)(apos:Pos)(e:Expr)(cpos:Pos):Prop where
 base:attributeBase o m X.env (eval o X.env)=eval o X.env
 few:((backTo cpos (starEach [e] X.env)).all (λx=>!x.1)&&(backToKw cpos (keywordEach [] X.env)).all (λx=>x.1.isSome)
  && decide (([e]:Qq9).length+([]:List Keyword).length+(if ([]:List Keyword).isEmpty then 0 else 1)<30))=true
 line:(apos.endLine == cpos.line)=true
 trees:backTo cpos (starEach [e] X.env)=[(false,eval e X.env)]
def IsD(H:Hp)(a:Addr):Prop:=(∃kvs,Rd H a (.dK kvs))\/∃kvs,Rd H a (.dT kvs)
def zx4(I:Inv X pins σ H s)(d:IsD H a) :
  s.TypeIs (.ref a) "dict" /\ (∀b,Value.ref a=.ref b->∃ob,s.heap.get? b=some ob/\ob.dict=none)/\(a == sysModules)=false:=by
 rcases d with ⟨kvs,e⟩ |⟨kvs,e⟩
 ·obtain⟨_,hd,vs,_,J⟩:=zN1 I.hok e;refine⟨J.typeIs,λb q=>?_,hd⟩;cases q;obtain⟨ob,_,_,h1,h2,_⟩:=J;exact⟨ob,h1,h2.2.1⟩
 ·obtain⟨_,hd,xs,_,J⟩:=zz3 I.hok e;refine⟨J.typeIs,λb q=>?_,hd⟩;cases q;obtain⟨ob,_,_,h1,h2,_⟩:=J;exact⟨ob,h1,h2.2.1⟩
section
variable {X:Cx}{pins:QqL}{σ:St}{H:Hp}{s:Qq1}{a:Addr}{y d:V}{u r:Value}{o:Option V}{A:Around}{E:QqV}
end
section
variable {X:Cx}{o e f:Expr}{apos cpos:Pos}{td ty tx:TE}
end
section
variable {X:Cx}{pins:QqL}{σ:St}{H:Hp}{s:Qq1}{a:Addr}{kvs:List (Key × V)}{A:Around}{E:QqV}
end
section
variable {X:Cx}{pins:QqL}{σ:St}{H:Hp}{s:Qq1}{a:Addr}{y:V}{u:Value}{A:Around}{E:QqV}
end
end L2
namespace Att
open PySem PySem.W PySem.Calls PyProof.Rows
section
variable {prog:Qq3}{w:Qqa}{A:Around}{E:QqV}{s:Qq1}{K:Frag}
end
end Att
namespace L2
section
variable {P:Qq3}{w:Qqa}{K:Qq5}{mg:QqM}{base:Heap}
end
section
variable {X:Cx}
end
section
variable {κ:Type} [DecidableEq κ]
end
section
variable {prog:Qq3}{w:Qqa}{A:Around}{R:Result->Shared->Prop}{s:Qq1}
def VL(J:Nat->Shared->Prop)
  (turn : ∀ n s, J n s -> wpAny (model prog w) A (pyNext it) (λr s1 => match r with
   |none=>R (.ok .next) s1
   | some v => wpAny (model prog w) A (letOwnedTupleGo target it v) (λ_ s2 => wpAny (model prog w) A (assign target env v) (λ_ s3 => wpAny (model prog w) A (zi3 ifs env) (λok W =>
     if ok=true then wpAny (model prog w) A (eval kx env) (λkv s5=>wpAny (model prog w) A (eval vx env) (λY s6=>wpAny (model prog w) A (dictSet D kv Y) (λ_ s7=>∃m,m<n/\J m s7) (λ_ _=>False) s6) (λ_ _=>False) s5) (λ_ _=>False) W
     else ∃m,m<n/\J m W) (λ_ _=>False) s3) (λ_ _=>False) s2) (λ_ _=>False) s1) (λ_ _=>False) s)
  (n:Nat) (h:J n s):codeAny (model prog w) A (.compLoop (.DictComp kx vx [⟨target,iter,ifs,0⟩] scope pos) 0 it (.ref D) env) R s:=by
 refine codeAny_loop rfl J (λn s hJ=>?_) n h
 show wpAny _ A ((compTurn (.DictComp kx vx [⟨target,iter,ifs,0⟩] scope pos) 0 it (.ref D) env).onRaise (λx=>do noteFrame x env;theTreesLotGoes x)) _ _ s
 refine wpAny_noted ?_;rw[compTurn_dict]
 have up:∀{α:Type}{t:Sem α}{Q Q':α->Shared->Prop}{E:QqV}{s:Qq1},wpAny (model prog w) A t Q (λ_ _=>False) s->(∀a s,Q a s->Q' a s)->wpAny (model prog w) A t Q' E s:=
  λh f=>wV h f λ_ _ z=>False.elim z
 refine zb (wpAny_standAt (zb (up (turn n s hJ) λr s1 h1=>?_)))
 cases r with
 |none=>exact ze h1
 |some v=>
  refine zb (up h1 λ_ s2 h2=>?_);refine zb (up h2 λ_ s3 h3=>?_);refine zb (up h3 λok W h4=>?_)
  cases ok with
  |false=>exact ze ⟨rfl,h4⟩
  |true=>exact zb (zb (up h4 λkv s5 h5=>zb (xJ (up h5 λY s6 h6=>zb (wpAny_standAt (xJ (up h6 λ_ s7 h7=>ze ⟨rfl,h7⟩)))))))
end
section
variable {X:Cx}{scope:Scope}{own M:Qq2}{pins:QqL}{σ:St}{H2:Hp}{s2:Qq1}{fp:Qqc}
end
section
variable {X:Cx}{scope:Scope}{own M:Qq2}{pins:QqL}{σ:St}{H2:Hp}{s2:Qq1}{tg iter kx vx:Expr}{ifs:Qq9}{pos:Pos}{g:TG}{tt:TT}{tk tv:TE}
def VI(kx vx:Expr)(gens:List Comprehension)(scope:Scope)(pos:Pos)(env:Env):eval (.DictComp kx vx gens scope pos) env=comprehension (.DictComp kx vx gens scope pos) scope env (firstIterPos gens pos) newDict (firstAsync gens) (firstIter gens env):=by
 first |rfl |(unfold eval;rfl) |(rw[eval];rfl) |rw[eval]
def zO5(wi:TI)(own:Nat)(g:TG)(tt:TT)(tk tv:TE):TE:=λσ H Q=>wi σ H λJ H1=>∃W:Nat->Nat->List (Key × V)->Hp->Prop,(∃m,W 0 m [] H1)/\∀i m acc H,W i m acc H ->
 (J.stop i H/\acc.length<=sizeLine/\∀D,H D=none->Q (.ref D) (upd H D (.dK acc))) \/
 (J.go i H /\ acc.length < sizeLine /\ ∀ x H', J.yld i H x H' -> g x (List.replicate own none ++ σ) H' λY H2 => Y.drop own = σ /\ tt Y H2 λc H3 =>
  if c=true then tk Y H3 λy H4=>tv Y H4 λv H5=>∃k m',y=kV k/\m'<m/\W (i+1) m' (zn7 acc k v) H5 else ∃m',m'<m/\W (i+1) m' acc H3)
section
variable {X:Cx}{scope:Scope}{own M:Qq2}{pins:QqL}{σ:St}{H2:Hp}{s2:Qq1}{tg iter kx vx:Expr}{ifs:Qq9}{pos:Pos}{g:TG}{tt:TT}{tk tv:TE}
abbrev DkO(P:Qq3)(w:Qqa)(acc:List (Key × V))(ob:Obj):Prop:=∃vs,ob.IsDictOf (vg P w) vs/\KV acc vs
def xb3(I:Inv X' ((D,ob)::pf) σ H s)(f:∀{H:Hp},H D=none->FpOk X' pf H D)(d:DkO X'.prog X'.w acc ob)(gz:acc.length<sizeLine)(W:RelV (kV k) ky)(r:RelV v y)
  (c:∀{ob' s'},DkO X'.prog X'.w (zn7 acc k v) ob'->Inv X' ((D,ob')::pf) σ H s'->post s'):wpAny (model X'.prog X'.w) X'.A (dictSet D ky y) (λ_=>post) (λ_ _=>False) s:=by
 obtain⟨vs,⟨es,ep,q⟩,rv⟩:=d;have hl:=rv.length;have J:=I.pinAt (.head _)
 refine wpAny_dictSet_pairs (hsz:=by lia) (zL6 W) ⟨ob,es,ep,J.1,q⟩ λh' Y hs=>?_
 obtain⟨ob',es',ep',ho',isD'⟩:=Y
 exact c ⟨_,⟨es',ep',isD'⟩,rv.put k r⟩ (I.bump (t:=s.toks+1) (f J.2) hs ho' λv z=>by rw[isD'.2.1] at z;cases z)
def zI0{wi:TI}(ok:CompOk X scope M)(hc:X.calm=true)(hi:PI X tg iter wi)(hg:∀C s2 H2 fp,PG (yP X scope own M C s2 H2 fp) tg g)(ht:∀C s2 H2 fp,PTs (yP X scope own M C s2 H2 fp) ifs tt)
  (ad:∀C s2 H2 fp,PE (yP X scope own M C s2 H2 fp) kx tk) (he:∀C s2 H2 fp,PE (yP X scope own M C s2 H2 fp) vx tv) (hs:∀x,foldedSetIterable iter X.env x=pure x:=by intro _;rfl) :
  PE X (.DictComp kx vx [⟨tg,iter,ifs,0⟩] scope pos) (zO5 wi own.length g tt tk tv):=by
 intro pins s σ H Q I h;rw[VI]
 refine yY (use:=none) rfl hs (XW (ok.cells I)) ok.kind (λx hx hl=>by rw[ok.uniq x hx,hl]) ?_
 refine thn (hi pins s σ H _ I h) λv s1 h1=>thn h1 λaf s2 ⟨it,fp,tn,J,H2,e,I2,T,aa,f2,W,w0,turn⟩=>?_;subst e;refine xD (Yk ?_);obtain⟨_,Y,vs,ac,o,es,ep,e,q0⟩:=zh2 (P:=X.prog) (w:=X.w) (H:=H2) s2.heap I2.big
 rw[zr _ (by rfl)] at e
 cases e;dsimp only;rw[wO]
 exact zb0 (ho:=λ_=>.dK) (DO:=DkO X.prog X.w) (λ_ _ ⟨_,⟨_,_,_,e,_⟩,_⟩ v z=>by rw[e] at z;cases z) ⟨vs,⟨es,ep,q0⟩,ac⟩ rfl ok hc (hg _ _ _ _) (ht _ _ _ _) (λ_=>qC) I2 T aa f2 w0 turn (λ_ _ _ _ ob _ _ hz ⟨vs,⟨es,ep,r⟩,rv⟩ _ ho=>⟨hz,Y,vs,rv,ob,es,ep,ho,r⟩)
  (λR L turn n s h=>VL (kx:=kx) (vx:=vx) (iter:=iter) (scope:=scope) (pos:=pos) L turn n h) (λ_ _ h k=>codeAny_compStart_dict h (k _))
  (λpf σ6 H7 s7 i n acc ob I7 d gz fD kd q7 post fin=>thn (ad _ _ _ _ _ s7 σ6 H7 _ I7 q7) λy s8 ⟨v,H8,I8,r8,q8⟩=>thn (he _ _ _ _ _ s8 σ6 H8 _ I8 q8) λy2 s9 ⟨v2,H9,I9,r9,kk,m',ek,hm,w8⟩=>xb3 I9 fD d gz (ek ▸ r8) r9 λd' I'=>fin hm w8 d' (qC kd) I') (λH' s' m IY q hm ae c2 c1 c3 c4=>⟨m,hm,λh' hs'=>⟨.ref s2.heap.objs.size,H',IY.turned (t':=s'.toks) (λb o hb e=>hs'.extBut b o hb e) ae c2 (.inr c1) c3 c4,rfl,q⟩⟩) rfl
end
end
inductive D where
 |non |bl (b:Bool) |int (i:Int) |str (x:Str) |ty (n:String) |tup (ds:List D) |lst (ds:List D)
 /-- a list that is known and stays -/
 |fz (ds:List D)
 /-- the list that the drawing keeps -/
 |st
 /-- a list of the frame's own (in a slot alone) -/
 |own (ds:List D)
 /-- a dict of the frame's own (in a slot alone), its keys pairs of numbers -/
 |owT (ks:List (Int × Int)) (ds:List D)
 /-- a pair of numbers, a tuple that is tracked -/
 |prT (k:QqP)
 /-- a dict, whatever it holds -/
 |dic
 /-- a dict, known, that stays -/
 |dct (ks:List Key) (ds:List D)
def XG(ks:List Key)(xs:List V):List (Key × V):=List.zipWith (λk x=>(k,x)) ks xs
abbrev xa8:Hp:=λ_=>none
def SqZ(K:Qq5)(Z:QqA)(H:Hp)(b:Bool)(a:Addr)(xs:List V):Prop:=
 match b with
 |true=>¬ Z a/\H a=some (.lst xs)
 |false=>(¬ Z a/\Rd H a (.tup xs))\/SqT K xa8 a xs
def SqF(K:Qq5)(Z:QqA)(H:Hp)(a:Addr)(xs:List V):Prop:=(¬ Z a/\∃o,H a=some (.frz o (.lst xs)))\/SqL K xa8 a xs
mutual
def Rep(K:Qq5)(G:QqE)(Z:QqA)(H:Hp):D->V->Prop
 |.non,v=>v=.non
 |.bl b,v=>v=.bl b
 |.int i,v=>v=.int i
 |.str x,v=>v=.str x
 |.ty n,v=>v=.ty n
 |.tup ds,v=>∃a xs,v=.ref a/\SqZ K Z H false a xs/\Reps K G Z H ds xs
 |.lst ds,v=>∃a xs,v=.ref a/\SqZ K Z H true a xs/\Reps K G Z H ds xs
 |.fz ds,v=>∃a xs,v=.ref a/\SqF K Z H a xs/\Reps K G Z H ds xs
 |.st,v=>∃a,G=some a/\v=.ref a
 |.own _,_=>False
 |.owT _ _,_=>False
 |.prT k,v=>∃b,v=.ref b/\¬ Z b/\H b=some (.tup [.int k.1,.int k.2])
 |.dic,v=>∃a kvs,v=.ref a/\¬ Z a/\H a=some (.dK kvs)
 |.dct ks ds,v=>∃a xs,v=.ref a/\(¬ Z a/\H a=some (.dK (XG ks xs)))/\Reps K G Z H ds xs
def Reps(K:Qq5)(G:QqE)(Z:QqA)(H:Hp):List D->List V->Prop
 |[],vs=>vs=[]
 |d::ds,vs=>∃v r,vs=v::r/\Rep K G Z H d v/\Reps K G Z H ds r
end
section
variable {K:Qq5}{G:QqE}{Z Z':QqA}{H H':Hp}
def SqT.anyH(h:SqT K xa8 a xs):SqT K H a xs:=by
 rcases h with (h |⟨o,h⟩) |h
 ·cases h
 ·cases h
 ·exact .inr h
def SqZ.sq{b:Bool}(h:SqZ K Z H b a xs):SqB K b H a xs:=by
 cases b with
 |true=>exact SqL.of h.2
 |false=>
  rcases h with ⟨_,h⟩ |h
  ·exact .inl h
  ·exact SqT.anyH h
def SqZ.mono{b:Bool}(h:SqZ K Z H b a xs)(hz:∀a,H a≠none->Z' a->Z a)(J:∀a o,¬ Z a->H a=some o->H' a=some o):SqZ K Z' H' b a xs:=by
 cases b with
 |true=>exact⟨λz=>h.1 (hz a (by rw[h.2];simp) z),J a _ h.1 h.2⟩
 | false =>
  rcases h with ⟨n,h⟩ |h
  ·refine .inl ⟨λz => n (hz a ?_ z), ?_⟩
   ·rcases h with h |⟨o,h⟩<;>(rw[h];simp)
   ·rcases h with h | ⟨o, h⟩
    ·exact .inl (J a _ n h)
    ·exact .inr ⟨o,J a _ n h⟩
  ·exact .inr h
mutual
theorem Rep.mono(hz:∀a,H a≠none->Z' a->Z a)(J:∀a o,¬ Z a->H a=some o->H' a=some o):∀(d:D) (v:V),Rep K G Z H d v->Rep K G Z' H' d v
 |.non,v,h=>by unfold Rep at h ⊢;exact h
 |.bl b,v,h=>by unfold Rep at h ⊢;exact h
 |.int b,v,h=>by unfold Rep at h ⊢;exact h
 |.str b,v,h=>by unfold Rep at h ⊢;exact h
 |.ty b,v,h=>by unfold Rep at h ⊢;exact h
 |.st,v,h=>by unfold Rep at h ⊢;exact h
 |.own _,v,h=>by unfold Rep at h;exact h.elim
 |.owT _ _,v,h=>by unfold Rep at h;exact h.elim
 |.prT k,v,h=>by
  unfold Rep at h ⊢;obtain⟨b,e,n,q⟩:=h
  exact⟨b,e,λz=>n (hz b (by rw[q];simp) z),J b _ n q⟩
 |.dic,v,h=>by
  unfold Rep at h ⊢;obtain⟨a,kvs,e,n,q⟩:=h
  exact⟨a,kvs,e,λz=>n (hz a (by rw[q];simp) z),J a _ n q⟩
 |.dct ks ds,v,h=>by
  unfold Rep at h ⊢;obtain⟨a,xs,e,⟨n,q⟩,r⟩:=h
  exact⟨a,xs,e,⟨λz=>n (hz a (by rw[q];simp) z),J a _ n q⟩,Reps.mono hz J ds xs r⟩
 |.tup ds,v,h=>by
  unfold Rep at h ⊢;obtain⟨a,xs,e,q,r⟩:=h;exact⟨a,xs,e,q.mono hz J,Reps.mono hz J ds xs r⟩
 |.lst ds,v,h=>by
  unfold Rep at h ⊢;obtain⟨a,xs,e,q,r⟩:=h;exact⟨a,xs,e,q.mono hz J,Reps.mono hz J ds xs r⟩
 |.fz ds,v,h=>by
  unfold Rep at h ⊢;obtain⟨a,xs,e,q,r⟩:=h;refine⟨a,xs,e,?_,Reps.mono hz J ds xs r⟩
  rcases q with ⟨n,o,q⟩ |q
  ·exact .inl ⟨λz=>n (hz a (by rw[q];simp) z),o,J a _ n q⟩
  ·exact .inr q
theorem Reps.mono(hz:∀a,H a≠none->Z' a->Z a)(J:∀a o,¬ Z a->H a=some o->H' a=some o):∀(ds:List D) (vs:List V),Reps K G Z H ds vs->Reps K G Z' H' ds vs
 |[],vs,h=>by unfold Reps at h ⊢;exact h
 |d::ds,vs,h=>by
  unfold Reps at h ⊢;obtain⟨v,r,e,q,t⟩:=h;exact⟨v,r,e,Rep.mono hz J d v q,Reps.mono hz J ds r t⟩
end
def Reps.nil:Reps K G Z H [] []:=by unfold Reps;rfl
def Reps.cons(h:Rep K G Z H d v)(t:Reps K G Z H ds vs):Reps K G Z H (d::ds) (v::vs):=by unfold Reps;exact⟨v,vs,rfl,h,t⟩
def Reps.inv(h:Reps K G Z H (d::ds) (v::vs)):Rep K G Z H d v/\Reps K G Z H ds vs:=by
 unfold Reps at h;obtain⟨v',r,e,q,t⟩:=h;cases e;exact⟨q,t⟩
def Reps.split(h:Reps K G Z H (d::ds) vs):∃v r,vs=v::r/\Rep K G Z H d v/\Reps K G Z H ds r:=by unfold Reps at h;exact h
def Reps.nil_inv(h:Reps K G Z H [] vs):vs=[]:=by unfold Reps at h;exact h
theorem Reps.length:∀{ds:List D}{vs:List V},Reps K G Z H ds vs->vs.length=ds.length
 |[],vs,h=>by rw[h.nil_inv];rfl
 |d::ds,vs,h=>by
  obtain⟨v,r,rfl,_,t⟩:=h.split;rw[zP,zP,Reps.length t]
theorem Reps.get:∀{ds:List D}{vs:List V}{i:Nat}{d:D},Reps K G Z H ds vs->ds[i]?=some d->∃v,vs[i]?=some v/\Rep K G Z H d v
 |[],vs,i,d,_,e=>by simp at e
 |c::ds,vs,0,d,h,e=>by
  obtain⟨v,r,rfl,q,t⟩:=h.split;simp at e;subst e;exact⟨v,rfl,q⟩
 |c::ds,vs,i+1,d,h,e=>by
  obtain⟨v,r,rfl,q,t⟩:=h.split
  obtain⟨u,W,J⟩:=Reps.get (i:=i) t (by simpa using e)
  exact⟨u,by simpa using W,J⟩
theorem Reps.append:∀{ds es:List D}{vs ws:List V},Reps K G Z H ds vs->Reps K G Z H es ws->Reps K G Z H (ds++es) (vs++ws)
 |[],es,vs,ws,h,h'=>by rw[h.nil_inv];exact h'
 |d::ds,es,vs,ws,h,h'=>by
  obtain⟨v,r,rfl,q,t⟩:=h.split;exact .cons q (Reps.append t h')
theorem Reps.drop:∀{ds:List D}{vs:List V} (n:Nat),Reps K G Z H ds vs->Reps K G Z H (ds.drop n) (vs.drop n)
 |ds,vs,0,h=>h
 |[],vs,n+1,h=>by rw[h.nil_inv];exact .nil
 |d::ds,vs,n+1,h=>by
  obtain⟨v,r,rfl,q,t⟩:=h.split;exact Reps.drop n t
theorem Reps.take:∀{ds:List D}{vs:List V} (n:Nat),Reps K G Z H ds vs->Reps K G Z H (ds.take n) (vs.take n)
 |ds,vs,0,h=>.nil
 |[],vs,n+1,h=>by rw[h.nil_inv];exact .nil
 |d::ds,vs,n+1,h=>by
  obtain⟨v,r,rfl,q,t⟩:=h.split;exact .cons q (Reps.take n t)
theorem Reps.flatRep(h:Reps K G Z H ds vs):∀k:Nat,Reps K G Z H (replicate k ds).flatten (replicate k vs).flatten
 |0=>.nil
 |k+1=>by
  rw[yl,yl,vf,vf];exact h.append (Reps.flatRep h k)
end
noncomputable def qD:D->Bool
 |.non=>true |.bl _=>true |.int _=>true |.str _=>true |.ty _=>true |_=>false
def ofS:D->V
 |.bl b=>.bl b |.int i=>.int i |.str x=>.str x |.ty n=>.ty n |_=>.non
theorem Rep.ofS{K:Qq5}{G:QqE}{Z:QqA}{H:Hp}:∀{d:D},qD d=true->Rep K G Z H d (ofS d)
 |.non,_=>by unfold Rep;rfl
 |.bl b,_=>by unfold Rep;rfl
 |.int b,_=>by unfold Rep;rfl
 |.str b,_=>by unfold Rep;rfl
 |.ty b,_=>by unfold Rep;rfl
 |.tup ds,h=>by simp[qD] at h
 |.lst ds,h=>by simp[qD] at h
 |.st,h=>by simp[qD] at h
 |.fz ds,h=>by simp[qD] at h
 |.own ds,h=>by simp[qD] at h
 |.owT _ _,h=>by simp[qD] at h
 |.prT _,h=>by simp[qD] at h
theorem Rep.toS{K:Qq5}{G:QqE}{Z:QqA}{H:Hp}{v:V}:∀{d:D},qD d=true->Rep K G Z H d v->v=L2.ofS d
 |.non,_,h=>by unfold Rep at h;exact h
 |.bl b,_,h=>by unfold Rep at h;exact h
 |.int b,_,h=>by unfold Rep at h;exact h
 |.str b,_,h=>by unfold Rep at h;exact h
 |.ty b,_,h=>by unfold Rep at h;exact h
 |.tup ds,h,_=>by simp[qD] at h
 |.lst ds,h,_=>by simp[qD] at h
 |.st,h,_=>by simp[qD] at h
 |.fz ds,h,_=>by simp[qD] at h
 |.own ds,h,_=>by simp[qD] at h
 |.owT _ _,h,_=>by simp[qD] at h
 |.prT _,h,_=>by simp[qD] at h
def Rep.int_inv{K:Qq5}{G:QqE}{Z:QqA}{H:Hp}{v:V}{i:Int}(h:Rep K G Z H (.int i) v):v=.int i:=by unfold Rep at h;exact h
def Rep.bl_inv{K:Qq5}{G:QqE}{Z:QqA}{H:Hp}{v:V}{i:Bool}(h:Rep K G Z H (.bl i) v):v=.bl i:=by unfold Rep at h;exact h
def Rep.tup_inv{K:Qq5}{G:QqE}{Z:QqA}{H:Hp}{v:V}{ds:List D}(h:Rep K G Z H (.tup ds) v):∃a xs,v=.ref a/\SqZ K Z H false a xs/\Reps K G Z H ds xs:=by unfold Rep at h;exact h
def Rep.lst_inv{K:Qq5}{G:QqE}{Z:QqA}{H:Hp}{v:V}{ds:List D}(h:Rep K G Z H (.lst ds) v):∃a xs,v=.ref a/\SqZ K Z H true a xs/\Reps K G Z H ds xs:=by unfold Rep at h;exact h
def Rep.fz_inv{K:Qq5}{G:QqE}{Z:QqA}{H:Hp}{v:V}{ds:List D}(h:Rep K G Z H (.fz ds) v):∃a xs,v=.ref a/\SqL K H a xs/\Reps K G Z H ds xs:=by
 unfold Rep at h;obtain⟨a,xs,e,q,r⟩:=h;refine⟨a,xs,e,?_,r⟩
 rcases q with ⟨_,o,q⟩ |q
 ·exact .inl (.inr ⟨o,q⟩)
 ·rcases q with (q | ⟨o, q⟩) | q
  ·cases q
  ·cases q
  ·exact .inr q
def Rep.tup_mk{K:Qq5}{G:QqE}{Z:QqA}{H:Hp}{a:Addr}{xs:List V}{ds:List D}(q:SqZ K Z H false a xs)(r:Reps K G Z H ds xs):Rep K G Z H (.tup ds) (.ref a):=by unfold Rep;exact⟨a,xs,rfl,q,r⟩
def Rep.lst_mk{K:Qq5}{G:QqE}{Z:QqA}{H:Hp}{a:Addr}{xs:List V}{ds:List D}(q:SqZ K Z H true a xs)(r:Reps K G Z H ds xs):Rep K G Z H (.lst ds) (.ref a):=by unfold Rep;exact⟨a,xs,rfl,q,r⟩
def zD6(G:QqE)(n:Nat)(H:Hp):Prop:=∀a,G=some a->∃(J:Qq4) (_ _:Nat),H a=some (.lst (J.map V.int))/\J.length=n/\(∀x∈J,0<=x)/\∀x,J[1]?=some x->x<2147483647
structure AC where
 K:W.Frag
 G:Option Addr
 Z0:Addr->Prop
 H0:Hp
abbrev Rho:=List (Option D)
def Zof(A:AC)(os:List (Nat × Addr)):Addr->Prop:=λa=>A.Z0 a\/∃p∈os,p.2=a
def kP(k:QqP):List Key:=[.inl k.1,.inl k.2]
noncomputable def qZ(ks:List (Int × Int))(xs:List V):List (List Key × V):=List.zipWith (λk x=>(kP k,x)) ks xs
def SlotR(A:AC)(os:List (Nat × Addr))(H:Hp)(i:Nat):D->V->Prop
 |.own ds,v=>∃a xs,v=.ref a/\(i,a)∈os/\H a=some (.lst xs)/\Reps A.K A.G (Zof A os) H ds xs
 |.owT ks ds,v=>∃a xs,v=.ref a/\(i,a)∈os/\H a=some (.dT (qZ ks xs))/\ks.length=xs.length/\Reps A.K A.G (Zof A os) H ds xs
 |d,v=>Rep A.K A.G (Zof A os) H d v
def qY:List Str:=["_law_grown"]
def qN(K:Qq5)(P:Addr)(q:Str):Prop:=∃x∈qY,∃c,W.tabIn K x=some (c,P)/\q=(x ++ ".<locals>.") ++ "<lambda>"
def Hot(o:Option HO):Prop:=∃u,o=some u/\∀ys,u≠.tup ys
def Hot.ne(h:Hot o):o≠none:=by obtain⟨u,e,_⟩:=h;rw[e];simp
def Hot.lst:Hot (some (.lst xs)):=⟨_,rfl,λ_ z=>by cases z⟩
def Hot.dT:Hot (some (.dT xs)):=⟨_,rfl,λ_ z=>by cases z⟩
def Hot.of(h:Hot o)(f:∀u,o=some u->o'=some u):Hot o':=let ⟨u,e,t⟩:=h;⟨u,f u e,t⟩
def ZOk(K:Qq5)(G:QqE)(Z:QqA)(H:Hp):Prop:=(∀a,Z a->Hot (H a))/\∀P q,qN K P q->H P=some (.cot q)/\G≠some P
structure AmO(A:AC)(os:List (Nat × Addr))(n:Nat)(rho:Rho)(sg:St)(H:Hp)(ds:List D)(vs:List V):Prop where
 len:rho.length=sg.length
 slot:∀i d,rho[i]?=some (some d)->∃v,sg[i]?=some (some v)/\SlotR A os H i d v
 pend:Reps A.K A.G (Zof A os) H ds vs
 nd:os.Pairwise λp q=>p.1≠q.1/\p.2≠q.2
 fresh:∀p∈os,A.H0 p.2=none/\¬ A.Z0 p.2/\Hot (H p.2)
 st:zD6 A.G n H
 gz:∀a,A.G=some a->A.Z0 a
 fr:∀a o,A.G≠some a->A.H0 a=some o->H a=some o
 z0:ZOk A.K A.G A.Z0 A.H0
def Am(A:AC)(n:Nat)(rho:Rho)(sg:St)(H:Hp)(ds:List D)(vs:List V):Prop:=∃os,AmO A os n rho sg H ds vs
section
variable {A:AC}{os:List (Nat × Addr)}{n:Nat}{rho:Rho}{sg:St}{H:Hp}{ds:List D}{vs:List V}{d:D}{v:V}
def AmO.zHot(I:AmO A os n rho sg H ds vs):∀a,Zof A os a->Hot (H a):=λa h=>by
 rcases h with h |⟨p,J,rfl⟩
 ·by_cases e : A.G = some a
  ·obtain⟨x,y,z,q,_⟩:=I.st a e;rw[q];exact Hot.lst
  ·exact(I.z0.1 a h).of λo q=>I.fr a o e q
 ·exact(I.fresh p J).2.2
def AmO.zH(I:AmO A os n rho sg H ds vs):∀a,Zof A os a->H a≠none:=λa h=>(I.zHot a h).ne
def AmO.zO(I:AmO A os n rho sg H ds vs):ZOk A.K A.G (Zof A os) H:=⟨I.zHot,λP q t=>⟨I.fr P _ (I.z0.2 P q t).2 (I.z0.2 P q t).1,(I.z0.2 P q t).2⟩⟩
def SlotR.mono{os':List (Nat × Addr)}{H':Hp}{i:Nat}(hz:∀a,H a≠none->Zof A os' a->Zof A os a)(J:∀a o,¬ Zof A os a->H a=some o->H' a=some o)
  (ho:∀a xs,(i,a)∈os->H a=some xs->(i,a)∈os'/\H' a=some xs):∀(d:D) (v:V),SlotR A os H i d v->SlotR A os' H' i d v
 |.own ds,v,h=>by
  obtain⟨a,xs,e,m,q,r⟩:=h;obtain⟨m',q'⟩:=ho a _ m q;exact⟨a,xs,e,m',q',Reps.mono hz J ds xs r⟩
 |.owT ks ds,v,h=>by
  obtain⟨a,xs,e,m,q,l,r⟩:=h;obtain⟨m',q'⟩:=ho a _ m q;exact⟨a,xs,e,m',q',l,Reps.mono hz J ds xs r⟩
 |.non,v,h=>Rep.mono hz J _ _ h
 |.bl _,v,h=>Rep.mono hz J _ _ h
 |.int _,v,h=>Rep.mono hz J _ _ h
 |.str _,v,h=>Rep.mono hz J _ _ h
 |.ty _,v,h=>Rep.mono hz J _ _ h
 |.tup _,v,h=>Rep.mono hz J _ _ h
 |.lst _,v,h=>Rep.mono hz J _ _ h
 |.st,v,h=>Rep.mono hz J _ _ h
 |.fz _,v,h=>Rep.mono hz J _ _ h
 |.dic,v,h=>Rep.mono hz J _ _ h
 |.prT _,v,h=>Rep.mono hz J _ _ h
 |.dct _ _,v,h=>Rep.mono hz J _ _ h
def wj:D->Bool
 |.own _=>false
 |.owT _ _=>false
 |_=>true
theorem SlotR.rep{i:Nat}:∀{d:D}{v:V},wj d=true->SlotR A os H i d v->Rep A.K A.G (Zof A os) H d v
 |.own _,_,h,_=>by simp[wj] at h
 |.owT _ _,_,h,_=>by simp[wj] at h
 |.non,_,_,h=>h
 |.bl _,_,_,h=>h
 |.int _,_,_,h=>h
 |.str _,_,_,h=>h
 |.ty _,_,_,h=>h
 |.tup _,_,_,h=>h
 |.lst _,_,_,h=>h
 |.st,_,_,h=>h
 |.fz _,_,_,h=>h
 |.dic,_,_,h=>h
 |.prT _,_,_,h=>h
 |.dct _ _,_,_,h=>h
theorem SlotR.of{i:Nat}:∀{d:D}{v:V},Rep A.K A.G (Zof A os) H d v->SlotR A os H i d v
 |.own _,_,h=>by unfold Rep at h;exact h.elim
 |.owT _ _,_,h=>by unfold Rep at h;exact h.elim
 |.non,_,h=>h
 |.bl _,_,h=>h
 |.int _,_,h=>h
 |.str _,_,h=>h
 |.ty _,_,h=>h
 |.tup _,_,h=>h
 |.lst _,_,h=>h
 |.st,_,h=>h
 |.fz _,_,h=>h
 |.dic,_,h=>h
 |.prT _,_,h=>h
 |.dct _ _,_,h=>h
def AmO.push(I:AmO A os n rho sg H ds vs)(h:Rep A.K A.G (Zof A os) H d v):AmO A os n rho sg H (d::ds) (v::vs):=
 ⟨I.len,I.slot,.cons h I.pend,I.nd,I.fresh,I.st,I.gz,I.fr,I.z0⟩
def AmO.pends(I:AmO A os n rho sg H ds vs)(h:Reps A.K A.G (Zof A os) H es ws):AmO A os n rho sg H es ws:=
 ⟨I.len,I.slot,h,I.nd,I.fresh,I.st,I.gz,I.fr,I.z0⟩
def AmO.pop(I:AmO A os n rho sg H (d::ds) (v::vs)):AmO A os n rho sg H ds vs/\Rep A.K A.G (Zof A os) H d v:=⟨I.pends I.pend.inv.2,I.pend.inv.1⟩
def AmO.grow(I:AmO A os n rho sg H ds vs)(Y:H p=none):AmO A os n rho sg (upd H p o) ds vs:=by
 have J:∀a u,H a=some u->upd H p o a=some u:=λa u e=>by rw[ww (yC e Y)];exact e
 refine⟨I.len,λi d e=>?_,Reps.mono (λ_ _ z=>z) (λa u _ e=>J a u e) _ _ I.pend,I.nd,λq W=>?_,λa e=>?_,I.gz,λa u h e=>J a u (I.fr a u h e),I.z0⟩
 ·obtain⟨v,e1,e2⟩:=I.slot i d e;exact⟨v,e1,SlotR.mono (λ_ _ z=>z) (λa u _ e=>J a u e) (λa xs m q=>⟨m,J a _ q⟩) _ _ e2⟩
 ·obtain⟨f1,f2,f3⟩:=I.fresh q W;exact⟨f1,f2,f3.of λu e=>J _ _ e⟩
 ·obtain⟨x,y,z,q,r⟩:=I.st a e;exact⟨x,y,z,J _ _ q,r⟩
def AmO.newTup{p:Addr}{es:List D}{xs:List V}(I:AmO A os n rho sg H ds vs)(r:Reps A.K A.G (Zof A os) H es xs)(J:H p=none):AmO A os n rho sg (upd H p (.tup xs)) (.tup es::ds) (.ref p::vs):=by
 have g:=I.grow (o:=.tup xs) J;refine g.push (.tup_mk (.inl ⟨λz=>I.zH p z J,.inl yx⟩) ?_)
 exact Reps.mono (λ_ _ z=>z) (λa u _ e=>by rw[ww (yC e J)];exact e) _ _ r
def AmO.newLst{p:Addr}{es:List D}{xs:List V}(I:AmO A os n rho sg H ds vs)(r:Reps A.K A.G (Zof A os) H es xs)(J:H p=none):AmO A os n rho sg (upd H p (.lst xs)) (.lst es::ds) (.ref p::vs):=by
 have g:=I.grow (o:=.lst xs) J;refine g.push (.lst_mk ⟨λz=>I.zH p z J,yx⟩ ?_)
 exact Reps.mono (λ_ _ z=>z) (λa u _ e=>by rw[ww (yC e J)];exact e) _ _ r
def AmO.set{i:Nat}(I:AmO A os n rho sg H (d::ds) (v::vs))(hi:i<rho.length):AmO A (os.filter λp=>decide (p.1≠i)) n (rho.set i (some d)) (sg.set i (some v)) H ds vs:=by
 obtain⟨J,Y⟩:=I.pop
 have sub:∀a,H a≠none->Zof A (os.filter λp=>decide (p.1≠i)) a->Zof A os a:=λa _ z=>by
  rcases z with z |⟨p,W,e⟩
  ·exact .inl z
  ·exact .inr ⟨p,(zB.mp W).1,e⟩
 refine⟨by simp[I.len],λj c e=>?_,Reps.mono sub (λ_ _ _ e=>e) _ _ J.pend,I.nd.filter _,λp W=>I.fresh p (zB.mp W).1,I.st,I.gz,I.fr,I.z0⟩
 by_cases hj:j=i
 ·subst hj;rw[xg hi] at e;cases e
  exact⟨v,xg (by rw[<- I.len];exact hi),SlotR.of (Rep.mono sub (λ_ _ _ e=>e) _ _ Y)⟩
 ·rw [xq (Ne.symm hj)] at e;obtain⟨u,e1,e2⟩:=I.slot j c e
  exact⟨u,by rw[xq (Ne.symm hj)];exact e1,SlotR.mono sub (λ_ _ _ e=>e) (λa xs m q=>⟨zB.mpr ⟨m,by simpa using hj⟩,q⟩) _ _ e2⟩
end
abbrev TD:=Rho->Nat->(D->Nat->Prop)->Prop
abbrev TBD:=Rho->Nat->(Bool->Nat->Prop)->Prop
abbrev TAD:=Rho->Nat->(List D->Nat->Prop)->Prop
def tOf(A:AC)(t:TD):TE:=λsg H Q=>∃rho n P ds vs,Am A n rho sg H ds vs/\t rho n P/\∀v H' n' d,Am A n' rho sg H' (d::ds) (v::vs)->P d n'->Q v H'
def zj3(A:AC)(t:TBD):TT:=λsg H Q=>∃rho n P ds vs,Am A n rho sg H ds vs/\t rho n P/\∀b H' n',Am A n' rho sg H' ds vs->P b n'->Q b H'
def xD1(A:AC)(t:TAD):TA:=λsg H Q=>∃rho n P ds vs,Am A n rho sg H ds vs/\t rho n P/\∀ws H' n' es,Am A n' rho sg H' (es++ds) (ws++vs)->ws.length=es.length->P es n'->Q ws H'
@[irreducible] def PD(A:AC)(X:Cx)(e:Expr)(t:TD):Prop:=PE X e (tOf A t)
@[irreducible] def PTD(A:AC)(X:Cx)(e:Expr)(t:TBD):Prop:=PT X e (zj3 A t)
@[irreducible] def PWD(A:AC)(X:Cx)(e:Expr)(t:TBD):Prop:=PW X e (zj3 A t)
@[irreducible] def PAD(A:AC)(X:Cx)(es:Qq9)(t:TAD):Prop:=PA X es (xD1 A t)
def PE.imp(h:PE X e t)(hi:∀sg H Q,t' sg H Q->t sg H Q):PE X e t':=λpins s sg H Q I q=>h pins s sg H Q I (hi _ _ _ q)
def PT.imp(h:PT X e t)(hi:∀sg H Q,t' sg H Q->t sg H Q):PT X e t':=λpins s sg H Q I q=>h pins s sg H Q I (hi _ _ _ q)
def PW.imp(h:PW X e t)(hi:∀sg H Q,t' sg H Q->t sg H Q):PW X e t':=λJ pins s sg H Q I q=>h J pins s sg H Q I (hi _ _ _ q)
def PA.imp(h:PA X e t)(hi:∀sg H Q,t' sg H Q->t sg H Q):PA X e t':=λps pins s sg H Q I q=>h ps pins s sg H Q I (hi _ _ _ q)
def PS.imp(h:PS X e t)(hi:∀E sg H,t' E sg H->t E sg H):PS X e t':=λpins s sg H Q I q=>h pins s sg H Q I (hi _ _ _ q)
def PSs.imp(h:PSs X e t)(hi:∀E sg H,t' E sg H->t E sg H):PSs X e t':=λpins s sg H Q I q=>h pins s sg H Q I (hi _ _ _ q)
section
variable {A:AC}{X:Cx}{a b c e:Expr}{es:Qq9}{ta tb tc:TD}{pos:Pos}
def atD(d:D)(k:D->Prop):Prop:=match d with
 |.own _=>False
 |.owT _ _=>False
 |.non=>k .non
 |.bl b=>k (.bl b)
 |.int b=>k (.int b)
 |.str b=>k (.str b)
 |.ty b=>k (.ty b)
 |.tup b=>k (.tup b)
 |.lst b=>k (.lst b)
 |.fz b=>k (.fz b)
 |.st=>k .st
 |.dic=>k .dic
 |.prT b=>k (.prT b)
 |.dct a b=>k (.dct a b)
def zC4(h:atD d k):wj d=true/\k d:=by
 cases d<;>first |exact⟨rfl,h⟩ |exact h.elim
def zi5(h:wj d=true)(q:k d):atD d k:=by
 cases d<;>first |exact q |(simp[wj] at h;done)
def atV(o:Option (Option D))(k:D->Prop):Prop:=match o with |some (some d)=>atD d k |_=>False
def xc7(h:atV o k):∃d,o=some (some d)/\wj d=true/\k d:=by
 match o,h with
 |some (some d),h=>exact⟨d,rfl,zC4 h⟩
def xI6(i:Nat):TD:=λrho n P=>atV rho[i]? λd=>P d n
def dC(d:D):TD:=λ_ n P=>P d n
def zh(i:Nat)(hN:X.N[i]?=some x:=by rfl)(W:Vis X.env.scope x:=by first |exact Or.inl rfl |exact Or.inr (Or.inl rfl) |exact Or.inr (Or.inr rfl))(hd:(x == ("__debug__" : Str))=false:=by decide)
  (J:(x == ("__classdict__" : Str))=false:=by decide):PD A X (.Name x pos) (xI6 i):=by
 exists (jH hN W hd J).imp λsg H Q h=>by
   obtain⟨rho,n,P,ds,vs,⟨os,I⟩,hh,Y⟩:=h;obtain⟨d,e,hd,q⟩:=xc7 hh;obtain⟨v,e1,e2⟩:=I.slot i d e;exact⟨v,e1,Y v H n d ⟨os,I.push (e2.rep hd)⟩ q⟩
def zN4(hs:qD d=true)(ht:∀sg H Q,Q (ofS d) H->t sg H Q)(h:PE X e t):PD A X e (dC d):=by
 exists h.imp λsg H Q q=>by
   obtain⟨rho,n,P,ds,vs,⟨os,I⟩,q,J⟩:=q;exact ht _ _ _ (J _ H n d ⟨os,I.push (Rep.ofS hs)⟩ q)
def zA{i:Int}{j:Nat}:PD A X (.Constant (.int i) j pos) (dC (.int i)):=by exists zN4 rfl (λ_ _ _ q=>q) ze9
def XB{i:Bool}{j:Nat}:PD A X (.Constant (.bool i) j pos) (dC (.bl i)):=by exists zN4 rfl (λ_ _ _ q=>q) xA8
def vN{j:Nat}:PD A X (.Constant .none j pos) (dC .non):=by exists zN4 rfl (λ_ _ _ q=>q) xi2
def KQ{j:Nat}:PD A X (.Constant (.str x) j pos) (dC (.str x)):=by exists zN4 rfl (λ_ _ _ q=>q) xh9
abbrev RD2:=D->D->(D->Prop)->Prop
def jb(A:AC)(r:R2)(rd:RD2):Prop:=
 ∀os n rho sg H ds vs d1 d2 v1 v2 (k:D->Prop) (Q:VK),AmO A os n rho sg H (d2::d1::ds) (v2::v1::vs)->rd d1 d2 k->(∀v H' d,Am A n rho sg H' (d::ds) (v::vs)->k d->Q v H')->r v1 v2 H Q
def dOp(rd:RD2)(ta tb:TD):TD:=λrho n P=>ta rho n λd1 W=>tb rho W λd2 J=>rd d1 d2 λd=>P d J
def zm7(t:TD):TBD:=λrho n P=>t rho n λd n'=>∃b,d=.bl b/\P b n'
def Kn(hr:jb A r rd)(h:tOf A (dOp rd ta tb) sg H Q):tOp r (tOf A ta) (tOf A tb) sg H Q:=by
 obtain⟨rho,n,P,ds,vs,I,ht,hQ⟩:=h;exact⟨rho,n,_,ds,vs,I,ht,λv1 H1 n1 d1 I1 h1=>⟨rho,n1,_,d1::ds,v1::vs,I1,h1,λv2 H2 Y d2 ⟨W,I2⟩ h2=>hr _ _ _ _ _ _ _ _ _ _ _ _ Q I2 h2 λv H' d J k=>hQ v H' Y d J k⟩⟩
def Ub{t:TE}{td:TD}(h:∀sg H Q,tOf A td sg H Q->t sg H Q){sg:St}{H:Hp}{Q:Bool->Hp->Prop}(q:zj3 A (zm7 td) sg H Q):xe2 t sg H Q:=by
 obtain⟨rho,n,P,ds,vs,I,ht,W⟩:=q;refine h _ _ _ ⟨rho,n,_,ds,vs,I,ht,λv H' n' d ⟨os,J⟩ k=>?_⟩;obtain⟨b,rfl,k⟩:=k;obtain⟨Y,r⟩:=J.pop;exact⟨b,r.bl_inv,W b H' n' ⟨os,Y⟩ k⟩
def Wn(ho:OpR X (binaryOp op) r)(J:jb A r rd)(ha:PD A X a ta)(W:PD A X b tb):PD A X (.BinOp a op b pos) (dOp rd ta tb):=by exists (xA6 ho ha W).imp λ_ _ _=>Kn J
def Vx(ho:OpR X (compareOp op) r)(J:jb A r rd)(ha:PD A X a ta)(Y:PD A X b tb)(W:behindInMarks op b=false):PD A X (.Compare a [op] [b] pos) (dOp rd ta tb):=by exists (zW6 ho ha Y W).imp λ_ _ _=>Kn J
def yj(ho:OpR X (compareOp op) r)(J:jb A r rd)(ha:PD A X a ta)(Y:PD A X b tb)(W:behindInMarks op b=false):PTD A X (.Compare a [op] [b] pos) (zm7 (dOp rd ta tb)):=by
 exists 
   (zr6 ho ha Y W).imp λ_ _ _=>Ub λ_ _ _=>Kn J
def yG(hi:IxR X r)(J:jb A r rd)(ha:PD A X a ta)(W:PD A X b tb)(hs:Ka b):PD A X (.Subscript a b pos) (dOp rd ta tb):=by exists (zW1 hi ha W hs).imp λ_ _ _=>Kn J
def Ye(ha:PD A X a ta)(he:∀J,isTrue a X.env J=(do let v <- J;standAt a.pos;holding [v] (truthy v)):=by intro _;rfl):PTD A X a (zm7 ta):=by exists (xh2 ha he).imp λ_ _ _=>Ub λ_ _ _ q=>q
def rdI(C:Int->Int->Prop)(g:Int->Int->D):RD2:=λd1 d2 k=>match d1,d2 with |.int i,.int j=>C i j/\k (g i j) |_,_=>False
def zU8(h:rdI C g d1 d2 k):∃i j,d1=.int i/\d2=.int j/\C i j/\k (g i j):=by
 unfold rdI at h
 split at h
 ·exact⟨_,_,rfl,rfl,h⟩
 ·exact h.elim
def zG1(g:Int->Int->D):RD2:=λd1 d2 k=>match d1,d2 with |.int i,.int j=>k (g i j) |_,_=>False
def zG0(h:zG1 g d1 d2 k):∃i j,d1=.int i/\d2=.int j/\k (g i j):=by
 unfold zG1 at h
 split at h
 ·exact⟨_,_,rfl,rfl,h⟩
 ·exact h.elim
def zF9{C:Int->Int->Prop}{g:Int->Int->V}{gd:Int->Int->D}(hs:∀i j,qD (gd i j)=true)(Y:∀i j,ofS (gd i j)=g i j):jb A (rI C g) (rdI C gd):=by
 rintro os n rho sg H ds vs d1 d2 v1 v2 k Q I hh hQ;obtain⟨i,j,rfl,rfl,hc,q⟩:=zU8 hh;obtain⟨I1,J⟩:=I.pop;obtain⟨I2,W⟩:=I1.pop
 exact⟨i,j,W.int_inv,J.int_inv,hc,hQ _ H _ ⟨os,I2.push (by rw[<- Y];exact Rep.ofS (hs i j))⟩ q⟩
def KJ{g:Int->Int->V}{gd:Int->Int->D}(hs:∀i j,qD (gd i j)=true)(Y:∀i j,ofS (gd i j)=g i j):jb A (rI0 g) (zG1 gd):=by
 rintro os n rho sg H ds vs d1 d2 v1 v2 k Q I hh hQ;obtain⟨i,j,rfl,rfl,q⟩:=zG0 hh;obtain⟨I1,J⟩:=I.pop;obtain⟨I2,W⟩:=I1.pop
 exact⟨i,j,W.int_inv,J.int_inv,hQ _ H _ ⟨os,I2.push (by rw[<- Y];exact Rep.ofS (hs i j))⟩ q⟩
abbrev xQ1:TD->TD->TD:=dOp (zG1 λi j=>.int (i+j))
abbrev xP6:TD->TD->TD:=dOp (zG1 λi j=>.int (i-j))
abbrev xP8:TD->TD->TD:=dOp (rdI CMul λi j=>.int (i*j))
abbrev xP9:TD->TD->TD:=dOp (rdI (λ_ j=>0<j) λi j=>.int (i%j))
abbrev xQ0:TD->TD->TD:=dOp (rdI xC9 λi j=>.int (i/j))
abbrev xP7:TD->TD->TD:=dOp (rdI xJ7 λi j=>.int (i^j.toNat))
def km(ha:PD A X a ta)(J:PD A X b tb):PD A X (.BinOp a .Add b pos) (xQ1 ta tb):=by exists Wn xj4 (KJ (λ_ _=>rfl) λ_ _=>rfl) ha J
def jI(ha:PD A X a ta)(J:PD A X b tb):PD A X (.BinOp a .Sub b pos) (xP6 ta tb):=by exists Wn xi8 (KJ (λ_ _=>rfl) λ_ _=>rfl) ha J
def YA(ha:PD A X a ta)(J:PD A X b tb):PD A X (.BinOp a .Mult b pos) (xP8 ta tb):=by exists Wn xj0 (zF9 (λ_ _=>rfl) λ_ _=>rfl) ha J
def jX(ha:PD A X a ta)(J:PD A X b tb):PD A X (.BinOp a .Mod b pos) (xP9 ta tb):=by exists Wn xj1 (zF9 (λ_ _=>rfl) λ_ _=>rfl) ha J
def KW(ha:PD A X a ta)(J:PD A X b tb):PD A X (.BinOp a .FloorDiv b pos) (xQ0 ta tb):=by exists Wn zX1 (zF9 (λ_ _=>rfl) λ_ _=>rfl) ha J
def KR(ha:PD A X a ta)(J:PD A X b tb):PD A X (.BinOp a .Pow b pos) (xP7 ta tb):=by exists Wn xi9 (zF9 (λ_ _=>rfl) λ_ _=>rfl) ha J
abbrev xL2:RD2:=zG1 λi j=>.bl (decide (i<j))
abbrev xL3:RD2:=zG1 λi j=>.bl (decide (j<i))
abbrev xL4:RD2:=zG1 λi j=>.bl (decide (j<=i))
def xf7:jb A (rI0 λi j=>.bl (decide (i<j))) xL2:=KJ (g:=λi j=>.bl (decide (i<j))) (λ_ _=>rfl) λ_ _=>rfl
def Uq:jb A (rI0 λi j=>.bl (decide (j<i))) xL3:=KJ (g:=λi j=>.bl (decide (j<i))) (λ_ _=>rfl) λ_ _=>rfl
def xu5:jb A (rI0 λi j=>.bl (decide (j<=i))) xL4:=KJ (g:=λi j=>.bl (decide (j<=i))) (λ_ _=>rfl) λ_ _=>rfl
def zP2:RD2:=λd1 d2 k=>qD d1=true/\qD d2=true/\xD6 (ofS d1) (ofS d2)=true/\k (.bl (decide (ofS d1=ofS d2)))
def Ur:jb A rEq zP2:=by
 rintro os n rho sg H ds vs d1 d2 v1 v2 k Q I ⟨h1,h2,h3,q⟩ Y;obtain⟨I1,J⟩:=I.pop;obtain⟨I2,W⟩:=I1.pop;rw[W.toS h1,J.toS h2];exact⟨h3,Y _ H _ ⟨os,I2.push (Rep.ofS rfl)⟩ q⟩
def YG:D->Bool
 |.non=>true
 |_=>false
theorem Rep.non_iff{K:Qq5}{G:QqE}{Z:QqA}{H:Hp}{v:V}:∀{d:D},Rep K G Z H d v->decide (v=.non)=YG d
 |.non,h=>by unfold Rep at h;rw[h];rfl
 |.bl b,h=>by unfold Rep at h;rw[h];rfl
 |.int b,h=>by unfold Rep at h;rw[h];rfl
 |.str b,h=>by unfold Rep at h;rw[h];rfl
 |.ty b,h=>by unfold Rep at h;rw[h];rfl
 |.st,h=>by unfold Rep at h;obtain⟨a,_,h⟩:=h;rw[h];rfl
 |.tup ds,h=>by obtain⟨a,xs,h,_⟩:=h.tup_inv;rw[h];rfl
 |.lst ds,h=>by obtain⟨a,xs,h,_⟩:=h.lst_inv;rw[h];rfl
 |.own ds,h=>by unfold Rep at h;exact h.elim
 |.owT _ _,h=>by unfold Rep at h;exact h.elim
 |.fz ds,h=>by obtain⟨a,xs,h,_⟩:=h.fz_inv;rw[h];rfl
 |.dic,h=>by unfold Rep at h;obtain⟨a,kvs,h,_⟩:=h;rw[h];rfl
 |.prT _,h=>by unfold Rep at h;obtain⟨a,h,_⟩:=h;rw[h];rfl
 |.dct _ _,h=>by unfold Rep at h;obtain⟨a,xs,h,_⟩:=h;rw[h];rfl
def xg1:RD2:=λd1 d2 k=>d2=.non/\k (.bl (YG d1))
def zP1:RD2:=λd1 d2 k=>d2=.non/\k (.bl (!YG d1))
def jV:jb A (λx y H Q=>y=.non/\Q (.bl (decide (x=.non))) H) xg1:=by
 rintro os n rho sg H ds vs d1 d2 v1 v2 k Q I ⟨rfl,q⟩ Y;obtain⟨I1,J⟩:=I.pop;obtain⟨I2,W⟩:=I1.pop;have e:v2=.non:=J.toS rfl
 exact⟨e,by rw[W.non_iff];exact Y _ H _ ⟨os,I2.push (Rep.ofS (d:=.bl (YG d1)) rfl)⟩ q⟩
def YY:jb A (λx y H Q=>y=.non/\Q (.bl (!decide (x=.non))) H) zP1:=by
 rintro os n rho sg H ds vs d1 d2 v1 v2 k Q I ⟨rfl,q⟩ Y;obtain⟨I1,J⟩:=I.pop;obtain⟨I2,W⟩:=I1.pop;have e:v2=.non:=J.toS rfl
 exact⟨e,by rw[W.non_iff];exact Y _ H _ ⟨os,I2.push (Rep.ofS (d:=.bl (!YG d1)) rfl)⟩ q⟩
def KM:RD2:=λd1 d2 k=>∃es i d,(d1=.lst es\/d1=.tup es\/d1=.fz es)/\d2=.int i/\atI es i=some d/\k d
def UZ{K:Qq5}{G:QqE}{Z:QqA}{H:Hp}{es:List D}{xs:List V}{i:Int}{d:D}(h:Reps K G Z H es xs)(e:atI es i=some d):∃v,atI xs i=some v/\Rep K G Z H d v:=by
 unfold atI at e ⊢;rw[h.length]
 cases q:ixN es.length i with
 |none=>rw[q] at e;cases e
 |some j=>
  rw[q] at e;exact h.get (i:=j) e
def yF:jb A (rIx A.K) KM:=by
 rintro os n rho sg H ds vs d1 d2 v1 v2 k Q I ⟨es,i,d,h1,rfl,h2,q⟩ hQ;obtain⟨I1,W⟩:=I.pop;obtain⟨I2,Y⟩:=I1.pop
 rcases h1 with rfl |rfl |rfl
 ·obtain⟨a,xs,e,sq,rs⟩:=Y.lst_inv;obtain⟨v,J,rv⟩:=UZ rs h2;exact .inl ⟨a,xs,i,v,e,W.int_inv,sq.sq,J,hQ v H d ⟨os,I2.push rv⟩ q⟩
 ·obtain⟨a,xs,e,sq,rs⟩:=Y.tup_inv;obtain⟨v,J,rv⟩:=UZ rs h2;exact .inr (.inl ⟨a,xs,i,v,e,W.int_inv,sq.sq,J,hQ v H d ⟨os,I2.push rv⟩ q⟩)
 ·obtain⟨a,xs,e,sq,rs⟩:=Y.fz_inv;obtain⟨v,J,rv⟩:=UZ rs h2;exact .inl ⟨a,xs,i,v,e,W.int_inv,sq,J,hQ v H d ⟨os,I2.push rv⟩ q⟩
def xg4:RD2:=λd1 d2 k=>∃es fs,d1=.lst es/\d2=.lst fs/\es.length+fs.length<=sizeLine/\k (.lst (es++fs))
def zP0:jb A xE7 xg4:=by
 rintro os n rho sg H ds vs d1 d2 v1 v2 k Q I ⟨es,fs,rfl,rfl,hz,q⟩ hQ;obtain⟨I1,J⟩:=I.pop;obtain⟨I2,W⟩:=I1.pop;obtain⟨a,xs,e,sq,rs⟩:=W.lst_inv;obtain⟨b,ys,e',sq',rs'⟩:=J.lst_inv
 exact⟨a,b,xs,ys,e,e',sq.2,sq'.2,by rw[rs.length,rs'.length];exact hz,λp Y=>hQ _ _ _ ⟨os,I2.newLst (rs.append rs') Y⟩ q⟩
def zr1:RD2:=λd1 d2 k=>∃es i,d1=.tup es/\d2=.int i/\es≠[]/\1<=i/\es.length*i.toNat<=sizeLine/\k (.tup (replicate i.toNat es).flatten)
def zq9:jb A (xg5 A.K) zr1:=by
 rintro os n rho sg H ds vs d1 d2 v1 v2 k Q I ⟨es,i,rfl,rfl,J,h1,hz,q⟩ hQ;obtain⟨I1,r2⟩:=I.pop;obtain⟨I2,Y⟩:=I1.pop;have r1':=Y;obtain⟨a,xs,e,sq,rs⟩:=Y.tup_inv;have W:=rs.length
 refine⟨a,i,xs,e,r2.int_inv,sq.sq,λz=>J ?_,h1,by rw[W];exact hz,λhi=>?_,λhi p hp=>?_⟩
 ·rw[z] at W;exact xo.mp W.symm
 ·subst hi
  have e1:(replicate (1:Int).toNat es).flatten=es:=by simp
  rw[e1] at q;rw[e] at r1';exact hQ _ H _ ⟨os,I2.push r1'⟩ q
 ·exact hQ _ _ _ ⟨os,I2.newTup (rs.flatRep i.toNat) hp⟩ q
def zt0(ha:PD A X a ta):PD A X (.UnaryOp .USub a pos) (λrho n P=>ta rho n λd n'=>∃i,d=.int i/\P (.int (-i)) n'):=by
 exists (xA5 xd7 ha).imp λsg H Q h=>by
   obtain⟨rho,n,P,ds,vs,I,ht,W⟩:=h;refine⟨rho,n,_,ds,vs,I,ht,λv H' n' d ⟨os,J⟩ k=>?_⟩;obtain⟨i,rfl,k⟩:=k;obtain⟨Y,r⟩:=J.pop;exact⟨i,r.int_inv,W _ H' n' _ ⟨os,Y.push (Rep.ofS (d:=.int (-i)) rfl)⟩ k⟩
variable {t u:TBD}{rest:Qq9}
def xJ3(t u:TBD):TBD:=λrho n P=>t rho n λc J=>if c=true then u rho J P else P false J
def bOr(t u:TBD):TBD:=λrho n P=>t rho n λc J=>if c=true then P true J else u rho J P
def xC6(t:TBD):TBD:=λrho n P=>t rho n λc J=>P (!c) J
def Zs(ha:PTD A X a t):PWD A X (.BoolOp .And [a] pos) t:=by exists zV2 ha
def Ut(ha:PTD A X a t):PWD A X (.BoolOp .Or [a] pos) t:=by exists xg9 ha
def Yd(ha:PTD A X a t)(Y:PWD A X (.BoolOp .And (b::rest) pos) u):PWD A X (.BoolOp .And (a::b::rest) pos) (xJ3 t u):=by
 exists (xh0 ha Y).imp λsg H Q h=>by
   obtain⟨rho,n,P,ds,vs,I,ht,W⟩:=h;refine⟨rho,n,_,ds,vs,I,ht,λc H' n' J k=>?_⟩
   cases c with
   |true=>exact⟨rho,n',P,ds,vs,J,k,W⟩
   |false=>exact W _ _ _ J k
def ze0(ha:PTD A X a t)(Y:PWD A X (.BoolOp .Or (b::rest) pos) u):PWD A X (.BoolOp .Or (a::b::rest) pos) (bOr t u):=by
 exists (xA2 ha Y).imp λsg H Q h=>by
   obtain⟨rho,n,P,ds,vs,I,ht,W⟩:=h;refine⟨rho,n,_,ds,vs,I,ht,λc H' n' J k=>?_⟩
   cases c with
   |false=>exact⟨rho,n',P,ds,vs,J,k,W⟩
   |true=>exact W _ _ _ J k
def PWD.pt(h:PWD A X e t):PTD A X e t:=by exists PW.pt h
def QG(ha:PTD A X a t):PTD A X (.UnaryOp .Not a pos) (xC6 t):=by
 exists (xh3 ha).imp λsg H Q h=>by
   obtain⟨rho,n,P,ds,vs,I,ht,W⟩:=h;exact⟨rho,n,_,ds,vs,I,ht,λc H' n' J k=>W _ _ _ J k⟩
def xJ2(ta tb:TD):TD:=λrho n P=>ta rho n λd J=>∃c,d=.bl c/\if c=true then tb rho J P else P (.bl false) J
def xJ0(ta:TD):TD:=λrho n P=>ta rho n λd J=>∃c,d=.bl c/\P (.bl (!c)) J
def zQ1(h:PD A X a ta):PD A X (.BoolOp op [a] pos) ta:=by exists xi0 h
def zt2(ha:PD A X a ta)(hb:PD A X (.BoolOp .And (b::rest) pos) tb):PD A X (.BoolOp .And (a::b::rest) pos) (xJ2 ta tb):=by
 exists (xi3 ha hb).imp λsg H Q h=>by
   obtain⟨rho,n,P,ds,vs,I,ht,W⟩:=h;refine⟨rho,n,_,ds,vs,I,ht,λv H' n' d ⟨os,J⟩ k=>?_⟩;obtain⟨c,rfl,k⟩:=k;obtain⟨Y,r⟩:=J.pop;refine⟨c,r.bl_inv,?_⟩
   cases c with
   |true=>exact⟨rho,n',P,ds,vs,⟨os,Y⟩,k,W⟩
   |false=>exact W _ _ _ _ ⟨os,Y.push (Rep.ofS (d:=.bl false) rfl)⟩ k
def zQ2(ha:PD A X a ta):PD A X (.UnaryOp .Not a pos) (xJ0 ta):=by
 exists (xi1 ha).imp λsg H Q h=>by
   obtain⟨rho,n,P,ds,vs,I,ht,W⟩:=h;refine⟨rho,n,_,ds,vs,I,ht,λv H' n' d ⟨os,J⟩ k=>?_⟩;obtain⟨c,rfl,k⟩:=k;obtain⟨Y,r⟩:=J.pop;exact⟨c,r.bl_inv,W _ _ _ _ ⟨os,Y.push (Rep.ofS (d:=.bl (!c)) rfl)⟩ k⟩
def dIf(t:TBD)(ta tb:TD):TD:=λrho n P=>t rho n λc J=>if c=true then ta rho J P else tb rho J P
def KU(Y:PTD A X c t)(ha:PD A X a ta)(hb:PD A X b tb):PD A X (.IfExp c a b pos) (dIf t ta tb):=by
 exists (zH6 Y ha hb).imp λsg H Q h=>by
   obtain⟨rho,n,P,ds,vs,I,ht,W⟩:=h;refine⟨rho,n,_,ds,vs,I,ht,λc H' n' J k=>?_⟩
   cases c with
   |true=>exact⟨rho,n',P,ds,vs,J,k,W⟩
   |false=>exact⟨rho,n',P,ds,vs,J,k,W⟩
variable {t1:TAD}
def xs7:TAD:=λ_ n P=>P [] n
def xc9(t:TD)(r:TAD):TAD:=λrho n P=>t rho n λd W=>r rho W λds J=>P (d::ds) J
def zi:PAD A X [] xs7:=by
 exists Xx.imp λsg H Q h=>by
   obtain⟨rho,n,P,ds,vs,I,ht,J⟩:=h;exact J [] H n [] I rfl ht
def zF8{K:Qq5}{G:QqE}{Z:QqA}{H:Hp}{es ds:List D}{ws vs:List V}{d:D}{v:V}(h:Reps K G Z H (es++d::ds) (ws++v::vs))(J:ws.length=es.length):Reps K G Z H (d::es++ds) (v::ws++vs):=by
 have h1:=h.take es.length;have h2:=h.drop es.length;rw[take_left' rfl,take_left' J] at h1;rw[va rfl,va J] at h2;obtain⟨r,t⟩:=h2.inv;exact .cons r (h1.append t)
def qp:Expr->Bool
 |.Starred ..=>true
 |_=>false
def sE(h:qp e=false):starEach (e::es) env=(false,eval e env)::starEach es env:=by
 cases e<;>first |(simp[starEach];done) |(simp[qp] at h;done)
def zc(ha:PD A X a ta)(hr:PAD A X es t1)(hs:qp a=false:=by rfl):PAD A X (a::es) (xc9 ta t1):=by
 exists (jv ha hr (sE hs)).imp λsg H Q h=>by
   obtain⟨rho,n,P,ds,vs,I,ht,hQ⟩:=h;refine⟨rho,n,_,ds,vs,I,ht,λv H' n' d J k=>⟨rho,n',_,d::ds,v::vs,J,k,λws H2 n2 es' ⟨os,Y⟩ W k2=>?_⟩⟩
   exact hQ (v::ws) H2 n2 (d::es') ⟨os,Y.pends (zF8 Y.pend W)⟩ (by rw[zP,zP,W]) k2
def XQ{K:Qq5}{G:QqE}{Z:QqA}{H:Hp}{es ds:List D}{ws vs:List V}(h:Reps K G Z H (es++ds) (ws++vs))(J:ws.length=es.length):Reps K G Z H es ws/\Reps K G Z H ds vs:=by
 have h1:=h.take es.length;have h2:=h.drop es.length;rw[take_left' rfl,take_left' J] at h1;rw[va rfl,va J] at h2;exact⟨h1,h2⟩
def xI7(t:TAD):TD:=λrho n P=>t rho n λds J=>ds.length<=sizeLine/\P (.tup ds) J
def xC4(t:TAD):TD:=λrho n P=>t rho n λds J=>ds.length<=sizeLine/\P (.lst ds) J
def yU{Y}(h:PAD A X es t1):PD A X (.Tuple es Y pos) (xI7 t1):=by
 exists (zs6 h).imp λsg H Q h=>by
   obtain⟨rho,n,P,ds,vs,I,ht,hQ⟩:=h
   refine⟨rho,n,_,ds,vs,I,ht,λws H' n' es' ⟨os,J⟩ W k=>⟨by rw[W];exact k.1,λp hp=>?_⟩⟩
   obtain⟨q1,q2⟩:=XQ J.pend W;exact hQ _ _ n' _ ⟨os,(J.pends q2).newTup q1 hp⟩ k.2
def kr(h:PAD A X es t1):PD A X (.List es pos) (xC4 t1):=by
 exists (ze8 h).imp λsg H Q h=>by
   obtain⟨rho,n,P,ds,vs,I,ht,hQ⟩:=h
   refine⟨rho,n,_,ds,vs,I,ht,λws H' n' es' ⟨os,J⟩ W k=>⟨by rw[W];exact k.1,λp hp=>?_⟩⟩
   obtain⟨q1,Y⟩:=XQ J.pend W;exact hQ _ _ n' _ ⟨os,(J.pends Y).newLst q1 hp⟩ k.2
def vV(A:AC)(r:List V->Hp->VK->Prop)(rd:List D->(D->Prop)->Prop):Prop:=
 ∀os n rho sg H ds vs es ws (k:D->Prop) (Q:VK),AmO A os n rho sg H ds vs->Reps A.K A.G (Zof A os) H es ws->rd es k->(∀v H' d,Am A n rho sg H' (d::ds) (v::vs)->k d->Q v H')->r ws H Q
def zN3(rd:List D->(D->Prop)->Prop)(t:TAD):TD:=λrho n P=>t rho n λes J=>rd es λd=>P d J
def zO6(hr:vV A r rd)(h:tOf A (zN3 rd t1) sg H Q):tCB r (xD1 A t1) sg H Q:=by
 obtain⟨rho,n,P,ds,vs,I,ht,hQ⟩:=h;refine⟨rho,n,_,ds,vs,I,ht,λws H' n' es' ⟨os,J⟩ hl k=>?_⟩;obtain⟨Y,W⟩:=XQ J.pend hl;exact hr _ _ _ _ _ _ _ _ _ _ Q (J.pends W) Y k λv H2 d J2 k2=>hQ v H2 n' d J2 k2
def wc{x:Str}{p:Pos}{id:String}{r:List V->Hp->VK->Prop}{rd:List D->(D->Prop)->Prop}(hc:qy X (.builtin id) r)(hr:vV A r rd)(hm:X.mg x=none)(Y:bootBuiltins x=some (.builtin id))(ha:PAD A X (e::es) t1)(hg:Gl X x:=by rfl)(hn:x ≠ "__name__" := by decide)(W:(x == ("__debug__" : Str))=false:=by decide)
  (he:starEach (e::es) X.env=(false,eval e X.env)::starEach es X.env:=by rfl) (J:(backTo pos (starEach es X.env)).any (·.1)=false:=by rfl):PD A X (.Call (.Name x p) (e::es) [] pos) (zN3 rd t1):=by
 exists 
   (UA hc hg hm Y ha hn W he J).imp λ_ _ _=>zO6 hr
def yr(hc:qy X (.type T) r)(hr:vV A r rd)(hm:X.mg x=none)(Y:bootBuiltins x=some (.type T))(ha:PAD A X (e::es) t1)(hg:Gl X x:=by rfl)(hn:x ≠ "__name__" := by decide)(W:(x == ("__debug__" : Str))=false:=by decide)
  (he:starEach (e::es) X.env=(false,eval e X.env)::starEach es X.env:=by rfl) (J:(backTo pos (starEach es X.env)).any (·.1)=false:=by rfl):PD A X (.Call (.Name x p) (e::es) [] pos) (zN3 rd t1):=by
 exists 
   (KP hc hg hm Y ha hn W he J).imp λ_ _ _=>zO6 hr
def qz{K:Qq5}{G:QqE}{Z:QqA}{H:Hp}{d:D}{ws:List V}(h:Reps K G Z H [d] ws):∃v,ws=[v]/\Rep K G Z H d v:=by
 obtain⟨v,r,rfl,q,t⟩:=h.split;rw[t.nil_inv];exact⟨v,rfl,q⟩
def KH{K:Qq5}{G:QqE}{Z:QqA}{H:Hp}{d d':D}{ws:List V}(h:Reps K G Z H [d,d'] ws):∃v v',ws=[v,v']/\Rep K G Z H d v/\Rep K G Z H d' v':=by
 obtain⟨v,r,rfl,q,t⟩:=h.split;obtain⟨v',rfl,q'⟩:=qz t;exact⟨v,v',rfl,q,q'⟩
noncomputable def zL8:List D->(D->Prop)->Prop:=λes k=>∃fs,(es=[.lst fs]\/es=[.tup fs]\/es=[.fz fs])/\k (.int fs.length)
noncomputable def xI5:List D->(D->Prop)->Prop:=λes k=>∃i,es=[.int i]/\k (.int (if i<0 then -i else i))
noncomputable def xl9:List D->(D->Prop)->Prop:=λes k=>∃c,es=[.bl c]/\k (.int (if c then 1 else 0))
noncomputable def xP0:List D->(D->Prop)->Prop:=λes k=>∃bs:List Bool,es=[.lst (bs.map D.bl)]/\k (.bl (bs.any id))
noncomputable def zx2:List D->(D->Prop)->Prop:=λes k=>∃fs,(es=[.lst fs]\/es=[.tup fs])/\k (.tup fs)
noncomputable def zZ9:List D->(D->Prop)->Prop:=λes k=>∃fs,(es=[.lst fs]\/es=[.tup fs])/\k (.lst fs)
def qa:vV A (λxs H Q=>∃p ys,xs=[.ref p]/\(SqL A.K H p ys\/SqT A.K H p ys)/\Q (.int ys.length) H) zL8:=by
 rintro os n rho sg H ds vs es ws k Q I rs ⟨fs,h,q⟩ W
 rcases h with rfl |rfl |rfl
 ·obtain ⟨v, rfl, r⟩ := qz rs;obtain⟨a,xs,rfl,sq,J⟩:=r.lst_inv
  exact⟨a,xs,rfl,.inl sq.sq,by rw[J.length];exact W _ H _ ⟨os,I.push (Rep.ofS rfl)⟩ q⟩
 ·obtain ⟨v, rfl, r⟩ := qz rs;obtain⟨a,xs,rfl,sq,J⟩:=r.tup_inv
  exact⟨a,xs,rfl,.inr sq.sq,by rw[J.length];exact W _ H _ ⟨os,I.push (Rep.ofS rfl)⟩ q⟩
 ·obtain ⟨v, rfl, r⟩ := qz rs;obtain⟨a,xs,rfl,sq,J⟩:=r.fz_inv
  exact⟨a,xs,rfl,.inl sq,by rw[J.length];exact W _ H _ ⟨os,I.push (Rep.ofS rfl)⟩ q⟩
def zS7:vV A (λxs H Q=>∃i,xs=[.int i]/\Q (.int (if i<0 then -i else i)) H) xI5:=by
 rintro os n rho sg H ds vs es ws k Q I rs ⟨i,rfl,q⟩ J;obtain⟨v,rfl,r⟩:=qz rs
 exact⟨i,by rw[r.int_inv],J _ H _ ⟨os,I.push (Rep.ofS rfl)⟩ q⟩
def za7:vV A (λxs H Q=>(∃i,xs=[.int i]/\Q (.int i) H)\/∃k,xs=[.bl k]/\Q (.int (if k then 1 else 0)) H) xl9:=by
 rintro os n rho sg H ds vs es ws k Q I rs ⟨i,rfl,q⟩ J;obtain⟨v,rfl,r⟩:=qz rs
 exact .inr ⟨i,by rw[r.bl_inv],J _ H _ ⟨os,I.push (Rep.ofS rfl)⟩ q⟩
theorem Vu{K:Qq5}{G:QqE}{Z:QqA}{H:Hp}:∀{bs:List Bool}{ws:List V},Reps K G Z H (bs.map D.bl) ws->ws=bs.map V.bl
 |[],ws,h=>h.nil_inv
 |b::bs,ws,h=>by
  obtain⟨v,r,rfl,q,t⟩:=h.split;rw[q.bl_inv,Vu t];rfl
def xn8:vV A (λxs H Q=>∃(p:Addr) (bs:List Bool),xs=[.ref p]/\SqL A.K H p (bs.map V.bl)/\Q (.bl (bs.any id)) H) xP0:=by
 rintro os n rho sg H ds vs es ws k Q I rs ⟨bs,rfl,q⟩ W;obtain⟨v,rfl,r⟩:=qz rs;obtain⟨a,xs,rfl,sq,J⟩:=r.lst_inv;have e:=Vu J;subst e;exact⟨a,bs,rfl,sq.sq,W _ H _ ⟨os,I.push (Rep.ofS rfl)⟩ q⟩
def vL:vV A (λxs H Q=>∃p ys,xs=[.ref p]/\((SqL A.K H p ys/\∀l,H l=none->Q (.ref l) (upd H l (.tup ys)))\/(SqT A.K H p ys/\Q (.ref p) H))) zx2:=by
 rintro os n rho sg H ds vs es ws k Q I rs ⟨fs,h,q⟩ W
 rcases h with rfl |rfl
 ·obtain⟨v,rfl,r⟩:=qz rs;obtain⟨a,xs,rfl,sq,J⟩:=r.lst_inv;exact⟨a,xs,rfl,.inl ⟨sq.sq,λl Y=>W _ _ _ ⟨os,I.newTup J Y⟩ q⟩⟩
 ·obtain⟨v,rfl,r⟩:=qz rs;have r':=r;obtain⟨a,xs,rfl,sq,J⟩:=r.tup_inv;exact⟨a,xs,rfl,.inr ⟨sq.sq,W _ _ _ ⟨os,I.push r'⟩ q⟩⟩
def xb9:vV A (λxs H Q=>∃p ys,xs=[.ref p]/\(SqL A.K H p ys\/SqT A.K H p ys)/\∀l,H l=none->Q (.ref l) (upd H l (.lst ys))) zZ9:=by
 rintro os n rho sg H ds vs es ws k Q I rs ⟨fs,h,q⟩ Y
 rcases h with rfl |rfl
 ·obtain⟨v,rfl,r⟩:=qz rs;obtain⟨a,xs,rfl,sq,J⟩:=r.lst_inv;exact⟨a,xs,rfl,.inl sq.sq,λl W=>Y _ _ _ ⟨os,I.newLst J W⟩ q⟩
 ·obtain⟨v,rfl,r⟩:=qz rs;obtain⟨a,xs,rfl,sq,J⟩:=r.tup_inv;exact⟨a,xs,rfl,.inr sq.sq,λl W=>Y _ _ _ ⟨os,I.newLst J W⟩ q⟩
end
section
variable {A:AC}{os:List (Nat × Addr)}{n:Nat}{rho:Rho}{sg:St}{H:Hp}{ds es:List D}{vs ws:List V}{d:D}{v:V}
def AmO.split(I:AmO A os n rho sg H (es++ds) (ws++vs))(Y:ws.length=es.length):AmO A os n rho sg H ds vs/\Reps A.K A.G (Zof A os) H es ws:=
 let ⟨W,J⟩:=XQ I.pend Y
 ⟨I.pends J,W⟩
def AmO.join(I:AmO A os n rho sg H ds vs)(h:Reps A.K A.G (Zof A os) H es ws):AmO A os n rho sg H (es++ds) (ws++vs):=I.pends (h.append I.pend)
def AmO.under(I:AmO A os n rho sg H (d::(es++ds)) (v::(ws++vs)))(W:ws.length=es.length):AmO A os n rho sg H (d::ds) (v::vs):=by
 obtain⟨J,r⟩:=I.pop;exact(J.split W).1.push r
def AmO.front(m:Nat)(I:AmO A os n rho sg H ds vs):AmO A (os.map λp=>(p.1+m,p.2)) n (replicate m none++rho) (replicate m none++sg) H ds vs:=by
 have J:∀a,Zof A (os.map λp=>(p.1+m,p.2)) a->Zof A os a:=λa z=>by
  rcases z with z |⟨p,hp,e⟩
  ·exact .inl z
  ·obtain⟨q,hq,rfl⟩:=zo.mp hp;exact .inr ⟨q,hq,e⟩
 refine⟨by simp[I.len],λi c e=>?_,Reps.mono (λa _ z=>J a z) (λ_ _ _ e=>e) _ _ I.pend,?_,λp hp=>?_,I.st,I.gz,I.fr,I.z0⟩
 ·have hi : m <= i := by
   apply Nat.le_of_not_lt;intro W
   rw[xW (by simpa using W),xS,if_pos W] at e
   cases e
  rw[xC (by simpa using hi),wN] at e
  obtain⟨u,e1,e2⟩:=I.slot _ c e
  refine⟨u,by rw[xC (by simpa using hi),wN];exact e1,?_⟩
  have key:∀j,j+m=i->SlotR A os H j c u->SlotR A (os.map λp=>(p.1+m,p.2)) H i c u:=λj hj h=>by
   subst hj
   cases c with
   |own fs=>
    obtain⟨a,xs,q1,q2,q3,Y⟩:=h;exact⟨a,xs,q1,zo.mpr ⟨_,q2,rfl⟩,q3,Reps.mono (λa _ z=>J a z) (λ_ _ _ e=>e) _ _ Y⟩
   |owT ks fs=>
    obtain⟨a,xs,q1,q2,q3,ql,Y⟩:=h;exact⟨a,xs,q1,zo.mpr ⟨_,q2,rfl⟩,q3,ql,Reps.mono (λa _ z=>J a z) (λ_ _ _ e=>e) _ _ Y⟩
   |non=>exact Rep.mono (λa _ z=>J a z) (λ_ _ _ e=>e) _ _ h
   |bl _=>exact Rep.mono (λa _ z=>J a z) (λ_ _ _ e=>e) _ _ h
   |int _=>exact Rep.mono (λa _ z=>J a z) (λ_ _ _ e=>e) _ _ h
   |str _=>exact Rep.mono (λa _ z=>J a z) (λ_ _ _ e=>e) _ _ h
   |ty _=>exact Rep.mono (λa _ z=>J a z) (λ_ _ _ e=>e) _ _ h
   |tup _=>exact Rep.mono (λa _ z=>J a z) (λ_ _ _ e=>e) _ _ h
   |lst _=>exact Rep.mono (λa _ z=>J a z) (λ_ _ _ e=>e) _ _ h
   |st=>exact Rep.mono (λa _ z=>J a z) (λ_ _ _ e=>e) _ _ h
   |fz _=>exact Rep.mono (λa _ z=>J a z) (λ_ _ _ e=>e) _ _ h
   |dic=>exact Rep.mono (λa _ z=>J a z) (λ_ _ _ e=>e) _ _ h
   |prT _=>exact Rep.mono (λa _ z=>J a z) (λ_ _ _ e=>e) _ _ h
   |dct _ _=>exact Rep.mono (λa _ z=>J a z) (λ_ _ _ e=>e) _ _ h
  exact key (i-m) q5 e2
 ·rw [xF]
  exact I.nd.imp λ{p q} h=>⟨λz=>h.1 (by simpa using z),h.2⟩
 ·obtain⟨q,hq,rfl⟩:=zo.mp hp;exact I.fresh q hq
def AmO.back{m:Nat}{rho':Rho}{sg':St}(I:AmO A os n rho' sg' H ds vs)(h1:rho'.drop m=rho)(h2:sg'.drop m=sg):∃os',AmO A os' n rho sg H ds vs:=by
 refine⟨(os.filter λp=>decide (m<=p.1)).map λp=>(p.1-m,p.2),?_⟩
 have J:∀a,Zof A ((os.filter λp=>decide (m<=p.1)).map λp=>(p.1-m,p.2)) a->Zof A os a:=λa z=>by
  rcases z with z |⟨p,hp,e⟩
  ·exact .inl z
  ·obtain⟨q,Y,rfl⟩:=zo.mp hp;exact .inr ⟨q,(zB.mp Y).1,e⟩
 subst h1 h2
 refine⟨by simp[I.len],λi c e=>?_,Reps.mono (λa _ z=>J a z) (λ_ _ _ e=>e) _ _ I.pend,?_,λp hp=>?_,I.st,I.gz,I.fr,I.z0⟩
 ·rw [wD] at e;obtain⟨u,e1,W⟩:=I.slot _ c e
  refine⟨u,by rw[wD];exact e1,?_⟩
  cases c with
  |own fs=>
   obtain⟨a,xs,q1,q2,q3,q4⟩:=W
   exact⟨a,xs,q1,zo.mpr ⟨_,zB.mpr ⟨q2,by simp⟩,by simp⟩,q3,Reps.mono (λa _ z=>J a z) (λ_ _ _ e=>e) _ _ q4⟩
  |owT ks fs=>
   obtain⟨a,xs,q1,q2,q3,ql,q4⟩:=W
   exact⟨a,xs,q1,zo.mpr ⟨_,zB.mpr ⟨q2,by simp⟩,by simp⟩,q3,ql,Reps.mono (λa _ z=>J a z) (λ_ _ _ e=>e) _ _ q4⟩
  |non=>exact Rep.mono (λa _ z=>J a z) (λ_ _ _ e=>e) _ _ W
  |bl _=>exact Rep.mono (λa _ z=>J a z) (λ_ _ _ e=>e) _ _ W
  |int _=>exact Rep.mono (λa _ z=>J a z) (λ_ _ _ e=>e) _ _ W
  |str _=>exact Rep.mono (λa _ z=>J a z) (λ_ _ _ e=>e) _ _ W
  |ty _=>exact Rep.mono (λa _ z=>J a z) (λ_ _ _ e=>e) _ _ W
  |tup _=>exact Rep.mono (λa _ z=>J a z) (λ_ _ _ e=>e) _ _ W
  |lst _=>exact Rep.mono (λa _ z=>J a z) (λ_ _ _ e=>e) _ _ W
  |st=>exact Rep.mono (λa _ z=>J a z) (λ_ _ _ e=>e) _ _ W
  |fz _=>exact Rep.mono (λa _ z=>J a z) (λ_ _ _ e=>e) _ _ W
  |dic=>exact Rep.mono (λa _ z=>J a z) (λ_ _ _ e=>e) _ _ W
  |prT _=>exact Rep.mono (λa _ z=>J a z) (λ_ _ _ e=>e) _ _ W
  |dct _ _=>exact Rep.mono (λa _ z=>J a z) (λ_ _ _ e=>e) _ _ W
 ·rw [xF, List.pairwise_filter];refine I.nd.imp λ{p q} h hp Y=>⟨λz=>h.1 ?_,h.2⟩
  have a1:m<=p.1:=by simpa using hp
  have a2:m<=q.1:=by simpa using Y
  have z':p.1-m=q.1-m:=z;lia
 ·obtain⟨q,Y,rfl⟩:=zo.mp hp;exact I.fresh q (zB.mp Y).1
end
abbrev TGD:=D->Rho->(Rho->Prop)->Prop
abbrev xd0:=List D->Rho->(Rho->Prop)->Prop
def gOf(A:AC)(m:Nat)(g:TGD):TG:=λv sg H Q=>∃rho n P d ds vs,Am A n rho sg H (d::ds) (v::vs)/\g d rho P/\∀rho' sg',Am A n rho' sg' H ds vs->sg'.drop m=sg.drop m->P rho'->Q sg' H
def xP2(A:AC)(m:Nat)(g:xd0):TGs:=λus sg H Q=>∃rho n P es ds vs,Am A n rho sg H (es++ds) (us++vs)/\us.length=es.length/\g es rho P/\∀rho' sg',Am A n rho' sg' H ds vs->sg'.drop m=sg.drop m->P rho'->Q sg' H
@[irreducible] def PGD(A:AC)(X:Cx)(m:Nat)(tg:Expr)(g:TGD):Prop:=PG X tg (gOf A m g)
@[irreducible] def xs8(A:AC)(X:Cx)(m:Nat)(tg:Qq9)(g:xd0):Prop:=PGs X tg (xP2 A m g)
def PG.imp(h:PG X tg g)(hi:∀v sg H Q,g' v sg H Q->g v sg H Q):PG X tg g':=λpins s sg H v u Q I r q=>h pins s sg H v u Q I r (hi _ _ _ _ q)
def PGs.imp(h:PGs X tg g)(hi:∀v sg H Q,g' v sg H Q->g v sg H Q):PGs X tg g':=λpins s sg H v u Q I r q=>h pins s sg H v u Q I r (hi _ _ _ _ q)
section
variable {A:AC}{X:Cx}{m:Nat}{pos:Pos}
def zR7(i:Nat):TGD:=λd rho P=>i<rho.length/\P (rho.set i (some d))
def xh{i:Nat}(hN:X.N.Nodup)(hi:X.N[i]?=some x)(hx:Loc X.env.scope x)(J:i<m)(Y:X.fn x=true\/X.env.scope.names.lookup x=some .local:=by first |exact .inl rfl |exact .inr rfl |assumption):PGD A X m (.Name x pos) (zR7 i):=by
 exists 
   (Uy hN hi hx Y).imp λv sg H Q h => by
    obtain⟨rho,n,P,d,ds,vs,⟨os,I⟩,⟨W,k⟩,hQ⟩:=h;refine hQ (rho.set i (some d)) (sg.set i (some v)) ⟨_,I.set W⟩ ?_ k;rw[List.drop_set_of_lt J]
def xm7:xd0:=λes rho P=>es=[]/\P rho
def zR8(g:TGD)(gs:xd0):xd0:=λes rho P=>∃d r,es=d::r/\g d rho λrho'=>gs r rho' P
def vh:xs8 A X m [] xm7:=by
 exists zs5.imp λus sg H Q h=>by
   obtain⟨rho,n,P,es,ds,vs,I,J,⟨rfl,k⟩,W⟩:=h;have e:us=[]:=xo.mp J;subst e;exact⟨rfl,W rho sg I rfl k⟩
def xt(h1:PGD A X m e g)(h2:xs8 A X m es gs)(hs:(assignEach (e::es) X.env).map (·.2)=assign e X.env::(assignEach es X.env).map (·.2):=by rfl):xs8 A X m (e::es) (zR8 g gs):=by
 exists 
   (XR h1 h2 hs).imp λus sg H Q h => by
    obtain⟨rho,n,P,es',ds,vs,I,W,⟨d,r,rfl,k⟩,hQ⟩:=h
    cases us with
    |nil=>simp at W
    |cons u us=>
     refine⟨u,us,rfl,⟨rho,n,_,d,r++ds,us++vs,I,k,λrho' sg' I' e1 k'=>⟨rho',n,P,r,ds,vs,I',by simpa using W,k',λJ sg2 I2 e2 Y=>hQ J sg2 I2 (e2.trans e1) Y⟩⟩⟩
def xm6(k:Nat)(gs:xd0):TGD:=λd rho P=>∃es,d=.tup es/\es.length=k/\gs es rho P
def vS{es:Qq9}{k:Nat}{gs:xd0}{Y:Nat}(hK:X.K=A.K)(hc:X.calm=true)(h:xs8 A X m es gs)(hn:(assignEach es X.env).length=k:=by rfl)(W:(assignEach es X.env).findIdx? (·.1)=none:=by rfl):PGD A X m (.Tuple es Y pos) (xm6 k gs):=by
 exists 
   (zQ0 (n := k) hc h hn W).imp λv sg H Q h => by
    obtain⟨rho,n,P,d,ds,vs,⟨os,I⟩,⟨fs,rfl,hl,q⟩,hQ⟩:=h;obtain⟨J,r⟩:=I.pop;obtain⟨a,xs,rfl,sq,rs⟩:=r.tup_inv;have hx:=rs.length;rw[hK]
    exact⟨a,xs,rfl,sq.sq,by rw[hx];exact hl,rho,n,P,fs,ds,vs,⟨os,J.join rs⟩,hx,q,hQ⟩
end
abbrev TID:=Rho->Nat->(List D->Nat->Prop)->Prop
def JIs(A:AC)(J:It)(es:List D)(ws:List V)(items:List D):Prop:=∀n rho sg H ds vs i,Am A n rho sg H (es++ds) (ws++vs) ->
 (∀d,items[i]?=some d->J.go i H/\∀x H',J.yld i H x H'->Am A n rho sg H' (d::(es++ds)) (x::(ws++vs)))/\(items.length<=i->J.stop i H)
def iOf(A:AC)(it:TID):TI:=λsg H R=>∃rho n P ds vs,Am A n rho sg H ds vs/\it rho n P/\∀J H' n' items es ws,Am A n' rho sg H' (es++ds) (ws++vs)->ws.length=es.length->JIs A J es ws items->P items n'->R J H'
@[irreducible] def PID(A:AC)(X:Cx)(tg iter:Expr)(it:TID):Prop:=PI X tg iter (iOf A it)
def PI.imp(h:PI X tg e t)(hi:∀sg H Q,t' sg H Q->t sg H Q):PI X tg e t':=λpins s sg H Q I q=>h pins s sg H Q I (hi _ _ _ q)
section
variable {A:AC}{X:Cx}{tg a b:Expr}{ta tb:TD}{pos p:Pos}{t1:TAD}
def zd7(lo:Int)(k:Nat):List D:=(List.range k).map fun(i:Nat)=>D.int (lo+(i:Int))
def xa5(t:TAD):TID:=λrho n P=>t rho n λes J=>∃j:Int,es=[.int j]/\-(2^62)<=j/\j<2^62/\P (zd7 0 j.toNat) J
def xa1{lo:Int}{k:Nat}:JIs A (Itr lo k) [] [] (zd7 lo k):=λn2 Y sg2 H2 ac aa i ⟨J,I2⟩=>by
 refine⟨λd e=>?_,λhi=>?_⟩
 ·unfold zd7 at e;rw[zy] at e
  cases q:(List.range k)[i]? with
  |none=>rw[q] at e;cases e
  |some j=>
   rw[q] at e;cases e;have hj:=zu.mp q;obtain⟨W,ej⟩:=hj;rw[List.getElem_range] at ej;subst ej
   refine⟨(show i<k by simpa using W),λx H3 y=>?_⟩
   obtain⟨e3,e4⟩:=y;subst e3 e4;exact⟨J,I2.push (Rep.ofS (d:=.int (lo+i)) rfl)⟩
 ·unfold zd7 at hi
  exact(show k<=i by simpa using hi)
def qW(W:X.mg "range" = none)(ha:PAD A X [a] t1)(hg:Gl X "range" := by rfl)(hs:starEach [a] X.env=[(false,eval a X.env)]:=by rfl):PID A X tg (.Call (.Name "range" p) [a] [] pos) (xa5 t1):=by
 exists 
   (zs4 hg W ha hs).imp λsg H R h => by
    obtain⟨rho,n,P,ds,vs,I,ht,hQ⟩:=h;refine⟨rho,n,_,ds,vs,I,ht,λws H' n' es' ⟨os,J⟩ Y k=>?_⟩;obtain⟨j,rfl,h1,h2,k⟩:=k;obtain⟨J1,rs⟩:=J.split Y;obtain⟨v,rfl,r⟩:=qz rs
    exact⟨j,by rw[r.int_inv],h1,h2,hQ _ H' n' _ [] [] ⟨os,J1⟩ rfl xa1 k⟩
noncomputable def Wd:D->Option (Bool × List D)
 |.lst es=>some (true,es)
 |.tup es=>some (false,es)
 |_=>none
theorem Rep.seq{K:Qq5}{G:QqE}{Z:QqA}{H:Hp}{v:V}{b:Bool}{es:List D}:∀{d:D},Wd d=some (b,es)->Rep K G Z H d v->∃a xs,v=.ref a/\SqZ K Z H b a xs/\Reps K G Z H es xs
 |.lst fs,h,r=>by cases h;exact r.lst_inv
 |.tup fs,h,r=>by cases h;exact r.tup_inv
 |.non,h,_=>by cases h
 |.bl _,h,_=>by cases h
 |.int _,h,_=>by cases h
 |.str _,h,_=>by cases h
 |.ty _,h,_=>by cases h
 |.st,h,_=>by cases h
 |.own _,h,_=>by cases h
 |.owT _ _,h,_=>by cases h
 |.prT _,h,_=>by cases h
 |.fz _,h,_=>by cases h
def Kh(xs ys:List D):List D:=List.zipWith (λx y=>D.tup [x,y]) xs ys
def xm3(t:TAD):TID:=λrho n P=>t rho n λes J=>∃d1 d2 Y xs W ys,es=[d1,d2]/\Wd d1=some (Y,xs)/\Wd d2=some (W,ys)/\P (Kh xs ys) J
def xa0{d1 d2:D}{l1 l2:Addr}{b1 b2:Bool}{xs ys:List D}(h1:Wd d1=some (b1,xs))(h2:Wd d2=some (b2,ys)):JIs A (Itz A.K b1 b2 l1 l2) [d1,d2] [.ref l1,.ref l2] (Kh xs ys):=λn rho sg H ds vs i ⟨os,I⟩=>by
 obtain⟨I1,r1⟩:=AmO.pop (d:=d1) (v:=.ref l1) (ds:=d2::ds) (vs:=.ref l2::vs) I;obtain⟨I2,r2⟩:=I1.pop;obtain⟨a1,us,e1,W,aa⟩:=r1.seq h1;obtain⟨a2,ws,e2,J,Y⟩:=r2.seq h2;cases e1;cases e2;refine⟨λd e=>?_,λhi=>⟨us,ws,W.sq,J.sq,?_⟩⟩
 ·unfold Kh at e;rw[List.getElem?_zipWith] at e
  cases q1:xs[i]? with
  |none=>rw[q1] at e;cases e
  | some x =>
   cases q2:ys[i]? with
   |none=>rw[q1,q2] at e;cases e
   |some y=>
    rw[q1,q2] at e;cases e;obtain⟨u,eu,ru⟩:=aa.get q1;obtain⟨w,ew,rw'⟩:=Y.get q2;refine⟨⟨us,ws,u,w,W.sq,J.sq,eu,ew⟩,λv H3 yy=>?_⟩;obtain⟨T,hT,rfl,k⟩:=yy;obtain⟨u',w',eu',ew',rfl⟩:=k us ws W.sq J.sq;rw[eu] at eu';cases eu';rw[ew] at ew';cases ew';exact⟨os,I.newTup (.cons ru (.cons rw' .nil)) hT⟩
 ·rw[aa.length,Y.length];unfold Kh at hi;rw[wJ] at hi;lia
def Ux{es:Qq9}{kk:Nat}{ps:Pos}(hK:X.K=A.K)(hm:X.mg "zip" = none)(ha:PAD A X [a,b] t1)(hg:Gl X "zip" := by rfl)(hs:starEach [a,b] X.env=[(false,eval a X.env),(false,eval b X.env)]:=by rfl)(aa:starEach [b] X.env=[(false,eval b X.env)]:=by rfl) :
  PID A X (.Tuple es kk ps) (.Call (.Name "zip" p) [a,b] [] pos) (xm3 t1):=by
 exists (xh7 hg hm ha hs aa).imp λsg H R h=>by
   obtain⟨rho,n,P,ds,vs,I,ht,hQ⟩:=h;refine⟨rho,n,_,ds,vs,I,ht,λws H' n' es' ⟨os,J⟩ hl k=>?_⟩;obtain⟨d1,d2,b1,xs,b2,ys,rfl,h1,h2,k⟩:=k;obtain⟨J1,rs⟩:=J.split hl;obtain⟨v1,v2,rfl,r1,r2⟩:=KH rs;obtain⟨a1,us,rfl,Y,ad⟩:=r1.seq h1;obtain⟨a2,ws',rfl,W,ac⟩:=r2.seq h2;rw[hK];exact⟨b1,b2,a1,a2,us,ws',rfl,Y.sq,W.sq,hQ _ H' n' _ [d1,d2] [.ref a1,.ref a2] ⟨os,J⟩ rfl (xa0 h1 h2) k⟩
end
section
variable {A:AC}{X:Cx}{tg iter elt:Expr}{ifs:Qq9}{scope:Scope}{own M:Qq2}{pos:Pos}{it:TID}{g:TGD}{tt:TBD}{te:TD}
def zm8(it:TID)(own:Nat)(g:TGD)(tt:TBD)(te:TD):TD:=λrho n P=>it rho n λitems n1=>items.length<=sizeLine/\∃J:Nat->List D->Nat->Prop,J 0 [] n1 /\
 (∀i d acc n,items[i]?=some d->J i acc n->g d (replicate own none++rho) λrho'=>rho'.drop own=rho/\tt rho' n λc W=>if c=true then te rho' W λe Y=>J (i+1) (acc++[e]) Y else J (i+1) acc W) /\
 ∀acc n,J items.length acc n->P (.lst acc) n
def xo4:TBD:=λ_ n P=>P true n
def PTs.imp(h:PTs X e t)(hi:∀sg H Q,t' sg H Q->t sg H Q):PTs X e t':=by exists λpins s sg H Q I q=>h pins s sg H Q I (hi _ _ _ q)
def yz:PTs X [] (zj3 A xo4):=by
 exists zV4.imp λsg H Q h=>by
   obtain⟨rho,n,P,ds,vs,I,ht,J⟩:=h;exact J true H n I ht
def zp4{m:Nat}{n:Nat}(I:Am A n rho sg H ds vs)(ht:zm8 it m g tt te rho n P)
  (hQ:∀os n' H' fs xs p,AmO A os n' rho sg H' ds vs->Reps A.K A.G (Zof A os) H' fs xs->H' p=none->P (.lst fs) n'->Q (.ref p) (upd H' p (.lst xs))):zE9 (iOf A it) m (gOf A m g) (zj3 A tt) (tOf A te) sg H Q:=by
 refine⟨rho,n,_,ds,vs,I,ht,λJ H' n' items es ws I1 hl hJ k=>?_⟩;obtain⟨hsz,W,w0,turn,fin⟩:=k
 refine⟨λi mm acc H=>mm=items.length-i/\i<=items.length/\acc.length<=i/\∃Y n,acc.length=Y.length/\Am A n rho sg H (es++(Y++ds)) (ws++(acc++vs))/\W i Y n,
  ⟨items.length,rfl,wq _,zj _,[],n',rfl,I1,w0⟩,?_⟩
 rintro i mm acc H3 ⟨rfl,hi,ah,Y,n3,ac,⟨os,I3⟩,w3⟩;obtain⟨j1,j2⟩:=hJ n3 rho sg H3 (Y++ds) (acc++vs) i ⟨os,I3⟩
 by_cases aa:i<items.length
 ·refine .inr ⟨(j1 items[i] (by simp [aa])).1, by lia, λx H4 y => ?_⟩
  obtain⟨ao,I4⟩:=(j1 items[i] (by simp[aa])).2 x H4 y
  refine⟨replicate m none++rho,n3,_,items[i],es++(Y++ds),ws++(acc++vs),⟨_,I4.front m⟩,turn i items[i] Y n3 (by simp[aa]) w3,λrho' sg' ⟨ag,I5⟩ e5 k5=>?_⟩
  obtain⟨k5,k6⟩:=k5
  have e6:sg'.drop m=sg:=by rw[e5,va (by simp)]
  refine⟨e6,rho',n3,_,es++(Y++ds),ws++(acc++vs),⟨ag,I5⟩,k6,λc H6 n6 ⟨af,I6⟩ k7=>?_⟩
  cases c with
  |false=>
   obtain⟨ae,I7⟩:=I6.back k5 e6
   exact⟨items.length-(i+1),q5,rfl,aa,q5,Y,n6,ac,⟨ae,I7⟩,k7⟩
  |true=>
   rw[if_pos rfl] at k7 ⊢;refine⟨rho',n6,_,es++(Y++ds),ws++(acc++vs),⟨af,I6⟩,k7,λv H8 n8 d ⟨am,I8⟩ k8=>?_⟩;obtain⟨ad,I9⟩:=I8.back k5 e6;obtain⟨ak,rv⟩:=I9.pop;obtain⟨aj,r1⟩:=ak.split hl;obtain⟨ai,r2⟩:=aj.split ac
   refine⟨items.length-(i+1),q5,rfl,aa,by rw[zF,List.length_singleton];lia,Y++[d],n8,by simp[ac],⟨ad,(ai.join (r2.append (.cons rv .nil))).join r1⟩,k8⟩
 ·have e : i = items.length := by lia
  subst e;refine .inl ⟨j2 (zj _),zG ah hsz,λD hD=>?_⟩;obtain⟨I4,r1⟩:=I3.split hl;obtain⟨I5,r2⟩:=I4.split ac;exact hQ os n3 _ Y acc D I5 r2 hD (fin Y n3 w3)
def zd1{m:Nat}(h:tOf A (zm8 it m g tt te) sg H Q):zE9 (iOf A it) m (gOf A m g) (zj3 A tt) (tOf A te) sg H Q:=by
 obtain⟨rho,n,P,ds,vs,I,ht,Y⟩:=h;exact zp4 I ht λos n' H' fs xs p J r W k=>Y _ _ n' _ ⟨os,J.newLst r W⟩ k
def vO(ok:CompOk X scope M)(Y:X.calm=true)(hi:PID A X tg iter it)(W:∀C J H2 fp,PGD A (yP X scope own M C J H2 fp) own.length tg g)(ht:∀C J H2 fp,PTs (yP X scope own M C J H2 fp) ifs (zj3 A tt))
  (he:∀C J H2 fp,PD A (yP X scope own M C J H2 fp) elt te) (hs:∀x,foldedSetIterable iter X.env x=pure x:=by intro _;rfl):PD A X (.ListComp elt [⟨tg,iter,ifs,0⟩] scope pos) (zm8 it own.length g tt te):=by
 exists 
   (zW5 ok Y hi W ht he hs).imp λ_ _ _=>zd1
end
structure EndsD where
 nx:Rho->Nat->Prop
 rt:D->Nat->Prop
 bk:Rho->Nat->Prop:=λ_ _=>False
 ct:Rho->Nat->Prop:=λ_ _=>False
abbrev TSD:=EndsD->Rho->Nat->Prop
structure EOk(A:AC)(E:zT0)(F:EndsD)(ds:List D)(vs:List V):Prop where
 nx:∀rho n sg H,Am A n rho sg H ds vs->F.nx rho n->E.nx sg H
 rt:∀d n v rho sg H,Am A n rho sg H (d::ds) (v::vs)->F.rt d n->E.rt v H
 bk:∀rho n sg H,Am A n rho sg H ds vs->F.bk rho n->E.bk sg H
 ct:∀rho n sg H,Am A n rho sg H ds vs->F.ct rho n->E.ct sg H
def sOf(A:AC)(t:TSD):TS:=λE sg H=>∃rho n F ds vs,Am A n rho sg H ds vs/\t F rho n/\EOk A E F ds vs
@[irreducible] def PSD(A:AC)(X:Cx)(s:Stmt)(t:TSD):Prop:=PS X s (sOf A t)
@[irreducible] def Ql(A:AC)(X:Cx)(s:List Stmt)(t:TSD):Prop:=PSs X s (sOf A t)
section
variable {A:AC}{X:Cx}{st:Stmt}{rest:List Stmt}{t u:TSD}{e a b:Expr}{te:TD}{tc:TBD}{pos:Pos}
def xf2:TSD:=λF rho n=>F.nx rho n
def Qi(t u:TSD):TSD:=λF rho n=>t { F with nx:=u F } rho n
def yT:Ql A X [] xf2:=by
 exists zr8.imp λE sg H h=>by
   obtain⟨rho,n,F,ds,vs,I,ht,ok⟩:=h;exact ok.nx _ _ _ _ I ht
def zI(h1:PSD A X st t)(h2:Ql A X rest u):Ql A X (st::rest) (Qi t u):=by
 exists (Uv h1 h2).imp λE sg H h=>by
   obtain⟨rho,n,F,ds,vs,I,ht,ok⟩:=h;exact⟨rho,n,{ F with nx:=u F },ds,vs,I,ht,⟨λrho' n' sg' H' I' k=>⟨rho',n',F,ds,vs,I',k,ok⟩,ok.rt,ok.bk,ok.ct⟩⟩
def zZ(h1:PSD A X st t):Ql A X [st] t:=by exists zV5 h1
def xD8(te:TD):TSD:=λF rho n=>te rho n F.rt
def xQ(he:PD A X e te):PSD A X (.Return (some e) pos) (xD8 te):=by
 exists (zP7 he).imp λE sg H h=>by
   obtain⟨rho,n,F,ds,vs,I,ht,ok⟩:=h;exact⟨rho,n,_,ds,vs,I,ht,λv H' n' d I' k=>ok.rt _ _ _ _ _ _ I' k⟩
def sIf(c:TBD)(t u:TSD):TSD:=λF rho n=>c rho n λb J=>if b=true then t F rho J else u F rho J
def kj(W:PTD A X c tc)(ha:Ql A X sa t)(Y:Ql A X sb u):PSD A X (.If c sa sb pos) (sIf tc t u):=by
 exists (xA4 W ha Y).imp λE sg H h=>by
   obtain⟨rho,n,F,ds,vs,I,ht,ok⟩:=h;refine⟨rho,n,_,ds,vs,I,ht,λc H' n' J k=>?_⟩
   cases c with
   |true=>exact⟨rho,n',F,ds,vs,J,k,ok⟩
   |false=>exact⟨rho,n',F,ds,vs,J,k,ok⟩
def zq3(i:Nat)(te:TD):TSD:=λF rho n=>i<rho.length/\te rho n λd J=>F.nx (rho.set i (some d)) J
def yo{i:Nat}(hN:X.N.Nodup)(hi:X.N[i]?=some x)(hx:Loc X.env.scope x)(he:PD A X e te)(hs:swapsWith e (some (.Name x pos')) pos.line X.env=pure false:=by rfl)(Y:X.fn x=true\/X.env.scope.names.lookup x=some .local:=by first |exact .inl rfl |exact .inr rfl |assumption) :
  PSD A X (.Assign [.Name x pos'] e pos) (zq3 i te):=by
 exists (ze3 hN hi hx he hs Y).imp λE sg H h=>by
   obtain⟨rho,n,F,ds,vs,I,⟨W,ht⟩,ok⟩:=h;exact⟨rho,n,_,ds,vs,I,ht,λv H' n' d ⟨os,J⟩ k=>ok.nx _ _ _ _ ⟨_,J.set W⟩ k⟩
def Yh{i:Nat}(hN:X.N.Nodup)(aa:X.N[i]?=some x)(hx:Loc X.env.scope x)(ok:CompOk X scope M)(hc:X.calm=true)(hi:PID A X tg iter it)
  (hg:∀C W H2 fp,PGD A (yP X scope own M C W H2 fp) own.length tg g) (ht:∀C W H2 fp,PTs (yP X scope own M C W H2 fp) ifs (zj3 A tt)) (he:∀C W H2 fp,PD A (yP X scope own M C W H2 fp) elt te)
  (Y:swapsWith (.ListComp elt [⟨tg,iter,ifs,0⟩] scope pos) (some (.Name x pos')) spos.line X.env=pure true:=by rfl) (hf:X.fn x=true\/X.env.scope.names.lookup x=some .local:=by first |exact .inl rfl |exact .inr rfl |assumption)
  (hs:∀x,foldedSetIterable iter X.env x=pure x:=by intro _;rfl):PSD A X (.Assign [.Name x pos'] (.ListComp elt [⟨tg,iter,ifs,0⟩] scope pos) spos) (zq3 i (zm8 it own.length g tt te)):=by
 exists 
   (zk0 hN aa hx ok hc hi hg ht he Y hf hs).imp λE sg H h => by
    obtain⟨rho,n,F,ds,vs,I,⟨hl,ht⟩,ok⟩:=h;exact zd1 (A:=A) ⟨rho,n,_,ds,vs,I,ht,λv H' n' d ⟨os,J⟩ k=>ok.nx _ _ _ _ ⟨_,J.set hl⟩ k⟩
def xD7(te:TD)(g:TGD):TSD:=λF rho n=>te rho n λd J=>g d rho λrho'=>F.nx rho' J
def Yg{m:Nat}(he:PD A X e te)(Y:PGD A X m tg g)(hs:swapsWithSole [tg] e pos.line X.env=pure false:=by rfl)(W:swappedStores [tg] e X.env=pure none:=by rfl)
  (h1:(assignEach [tg] X.env).map (·.2)=[assign tg X.env]:=by rfl):PSD A X (.Assign [tg] e pos) (xD7 te g):=by
 exists (ze4 he Y hs W h1).imp λE sg H h=>by
   obtain⟨rho,n,F,ds,vs,I,ht,ok⟩:=h;exact⟨rho,n,_,ds,vs,I,ht,λv H' n' d J k=>⟨rho,n',_,d,ds,vs,J,k,λrho' sg' J' _ k'=>ok.nx _ _ _ _ J' k'⟩⟩
def xu0(i j:Nat)(t:TAD):TSD:=λF rho n=>i<rho.length/\j<rho.length/\t rho n λes J=>∃d d',es=[d,d']/\F.nx ((rho.set i (some d)).set j (some d')) J
def zV7{i j:Nat}{x y:Str}{ta:TAD}{px py pt:Pos}{kt k2 W}(hc:X.calm=true)(hN:X.N.Nodup)(hi:X.N[i]?=some x)(hj:X.N[j]?=some y)(ac:i≠j)
  (hx:X.env.scope.names.lookup x=some .local) (hy:X.env.scope.names.lookup y=some .local) (ha:PAD A X [a,b] ta)
  (hw:swappedStores [.Tuple [.Name x px,.Name y py] kt pt] (.Tuple [a,b] k2 W) X.env=pure (some [x,y]):=by rfl)
  (hs:swapsWithSole [.Tuple [.Name x px,.Name y py] kt pt] (.Tuple [a,b] k2 W) pos.line X.env=pure false:=by rfl) :
  PSD A X (.Assign [.Tuple [.Name x px,.Name y py] kt pt] (.Tuple [a,b] k2 W) pos) (xu0 i j ta):=by
 exists (zP8 hc hN hi hj ac hx hy ha hw hs).imp λE sg H h=>by
   obtain⟨rho,n,F,ds,vs,I,⟨hl,aa,ht⟩,ok⟩:=h;refine⟨rho,n,_,ds,vs,I,ht,λws H' n' es ⟨os,J⟩ Y k=>?_⟩;obtain⟨d,d',rfl,k⟩:=k;obtain⟨J1,rs⟩:=J.split Y;obtain⟨v,v',rfl,r,r'⟩:=KH rs;refine⟨v,v',rfl,ok.nx _ _ _ _ ?_ k⟩;have J2:AmO A os n' rho sg H' (d::d'::ds) (v::v'::vs):=(J1.push r').push r
   exact⟨_,(J2.set hl).set (by simpa using aa)⟩
def xu2(it:TID)(g:TGD)(tb:TSD):TSD:=λF rho n=>it rho n λitems W=>∃J:Nat->Rho->Nat->Prop,J 0 rho W /\
 (∀i d rho n,items[i]?=some d->J i rho n->g d rho λrho'=>tb { F with nx:=J (i+1),ct:=J (i+1),bk:=F.nx } rho' n)/\∀rho n,J items.length rho n->F.nx rho n
def qc{m:Nat}(hp:PassesOwn (model X.prog X.w) X.A X.env X.xe)(hc:X.calm=true)(hi:PID A X tg iter it)(hg:PGD A X m tg g)(hb:Ql A X body tb)
  (hs:∀x,foldedSetIterable iter X.env x=pure x:=by intro _;rfl):PSD A X (.For tg iter body [] pos) (xu2 it g tb):=by
 exists (xh4 hp hc hi hg hb hs).imp λE sg H h=>by
   obtain⟨rho,n,F,ds,vs,I,ht,ok⟩:=h;refine⟨rho,n,_,ds,vs,I,ht,λJ H' n' items es ws I1 hl hJ k=>?_⟩;obtain⟨W,w0,turn,fin⟩:=k;refine⟨λi mm sg H=>mm=items.length-i/\i<=items.length/\∃rho n,Am A n rho sg H (es++ds) (ws++vs)/\W i rho n,⟨items.length,rfl,wq _,rho,n',I1,w0⟩,?_⟩;rintro i mm af H3 ⟨rfl,hi,aa,n3,I3,w3⟩;obtain⟨j1,j2⟩:=hJ n3 aa af H3 ds vs i I3
   by_cases ac:i<items.length
   ·refine .inr ⟨(j1 items[i] (by simp [ac])).1, λsg' H' => ∃ rho n, Am A n rho sg' H' (es ++ ds) (ws ++ vs) /\ W (i + 1) rho n, λsg' H' ⟨rho', n', I', w'⟩ => ⟨items.length - (i + 1), by lia, rfl, ac, rho', n', I', w'⟩, λx H4 y => ?_⟩
    have I4:=(j1 items[i] (by simp[ac])).2 x H4 y
    refine⟨aa,n3,_,items[i],es++ds,ws++vs,I4,turn i items[i] aa n3 (by simp[ac]) w3,λrho' sg' I5 _ k5=>⟨rho',n3,{ F with nx:=W (i+1),ct:=W (i+1),bk:=F.nx },es++ds,ws++vs,I5,k5,?_⟩⟩
    refine⟨λY n6 ad H6 I6 k6=>⟨Y,n6,I6,k6⟩,λd n6 v Y ad H6 ⟨ae,I6⟩ k6=>ok.rt _ _ _ _ _ _ ⟨ae,I6.under hl⟩ k6,λY n6 ad H6 ⟨ae,I6⟩ k6=>ok.nx _ _ _ _ ⟨ae,(I6.split hl).1⟩ k6,λY n6 ad H6 I6 k6=>⟨Y,n6,I6,k6⟩⟩
   ·have e : i = items.length := by lia
    subst e;obtain⟨os,I3⟩:=I3;exact .inl ⟨j2 (zj _),ok.nx _ _ _ _ ⟨os,(I3.split hl).1⟩ (fin aa n3 w3)⟩
def AmO.setOwn{os:List (Nat × Addr)}{n:Nat}{rho:Rho}{sg:St}{H:Hp}{ds es:List D}{vs xs:List V}{i:Nat}{p:Addr}(I:AmO A os n rho sg H ds vs)(hi:i<rho.length)(W:H p=none)(r:Reps A.K A.G (Zof A os) H es xs) :
  ∃os',AmO A os' n (rho.set i (some (.own es))) (sg.set i (some (.ref p))) (upd H p (.lst xs)) ds vs:=by
 have Y:∀a u,H a=some u->upd H p (.lst xs) a=some u:=λa u e=>by rw[ww (yC e W)];exact e
 refine⟨(i,p)::os.filter λq=>decide (q.1≠i),?_⟩
 have zz:∀a,H a≠none->Zof A ((i,p)::os.filter λq=>decide (q.1≠i)) a->Zof A os a:=λa ha z=>by
  rcases z with z |⟨q,J,e⟩
  ·exact .inl z
  ·rcases zn.mp J with rfl | J
   ·exact absurd (by rw[<- e];exact W) ha
   ·exact .inr ⟨q,(zB.mp J).1,e⟩
 have h0:A.H0 p=none:=by
  cases q:A.H0 p with
  |none=>rfl
  |some o=>
   by_cases e:A.G=some p
   ·obtain⟨x,y,z,w,_⟩:=I.st p e;rw[w] at W;cases W
   ·have:=I.fr p o e q;rw[this] at W;cases W
 refine⟨by simp[I.len],λj c e=>?_,Reps.mono zz (λa u _ e=>Y a u e) _ _ I.pend,?_,λq J=>?_,λa e=>?_,I.gz,λa u h e=>Y a u (I.fr a u h e),I.z0⟩
 ·by_cases hj : j = i
  ·subst hj;rw[xg hi] at e;cases e
   exact⟨.ref p,xg (by rw[<- I.len];exact hi),p,xs,rfl,xj,yx,Reps.mono zz (λa u _ e=>Y a u e) _ _ r⟩
  ·rw [xq (Ne.symm hj)] at e;obtain⟨u,e1,e2⟩:=I.slot j c e
   exact⟨u,by rw[xq (Ne.symm hj)];exact e1,SlotR.mono zz (λa u _ e=>Y a u e) (λa ys m q=>⟨zk _ (zB.mpr ⟨m,by simpa using hj⟩),Y a _ q⟩) _ _ e2⟩
 ·refine wB.mpr ⟨λq J => ?_, I.nd.filter _⟩;obtain⟨m1,m2⟩:=zB.mp J
  refine⟨λz=>by simp[<- z] at m2,λz=>(I.fresh q m1).2.2.ne ?_⟩
  have z':p=q.2:=z;rw[<- z'];exact W
 ·rcases zn.mp J with rfl | J
  ·exact⟨h0,λz=>(I.z0.1 p z).ne h0,by show Hot (upd H p _ p);rw[yx];exact Hot.lst⟩
  ·obtain⟨f1,f2,f3⟩:=I.fresh q (zB.mp J).1;exact⟨f1,f2,f3.of λu w=>Y _ _ w⟩
 ·obtain⟨x,y,z,q,rr⟩:=I.st a e;exact⟨x,y,z,Y _ _ q,rr⟩
def xu1(i:Nat)(t:TAD):TSD:=λF rho n=>i<rho.length/\t rho n λes J=>es.length<=sizeLine/\F.nx (rho.set i (some (.own es))) J
def Wm{i:Nat}(hN:X.N.Nodup)(hi:X.N[i]?=some x)(hx:Loc X.env.scope x)(ha:PAD A X els ta)(hf:X.fn x=true\/X.env.scope.names.lookup x=some .local:=by first |exact .inl rfl |exact .inr rfl |assumption)
  (hs:swapsWith (.List els pos2) (some (.Name x pos')) pos.line X.env=pure false:=by rfl):PSD A X (.Assign [.Name x pos'] (.List els pos2) pos) (xu1 i ta):=by
 exists (ze3 hN hi hx (ze8 ha) hs hf).imp λE sg H h=>by
   obtain⟨rho,n,F,ds,vs,I,⟨hl,ht⟩,ok⟩:=h
   refine⟨rho,n,_,ds,vs,I,ht,λws H' n' es ⟨os,J⟩ W k=>⟨by rw[W];exact k.1,λp Y=>?_⟩⟩
   obtain⟨J1,rs⟩:=J.split W;exact ok.nx _ _ _ _ (J1.setOwn hl Y rs) k.2
def AmO.own{os:List (Nat × Addr)}{n:Nat}{rho:Rho}{sg:St}{H:Hp}{ds es es':List D}{vs xs':List V}{i:Nat}(I:AmO A os n rho sg H ds vs)(hi:rho[i]?=some (some (.own es))) :
  ∃a xs,sg[i]?=some (some (.ref a))/\H a=some (.lst xs)/\Reps A.K A.G (Zof A os) H es xs/\∀es' xs',Reps A.K A.G (Zof A os) H es' xs'->AmO A os n (rho.set i (some (.own es'))) sg (upd H a (.lst xs')) ds vs:=by
 obtain⟨v,J,a,xs,rfl,Y,hH,rs⟩:=I.slot i _ hi;have aa:i<rho.length:=(zu.mp hi).1;have za:Zof A os a:=.inr ⟨_,Y,rfl⟩
 have hf:∀(xs':List V) b u,¬ Zof A os b->H b=some u->upd H a (.lst xs') b=some u:=λxs' b u nz e=>by
  rw[ww λz=>nz (by rw[z];exact za)];exact e
 have uniq:∀j,(j,a)∈os->j=i:=λj hj=>by
  by_cases W:j=i
  ·exact W
  ·have key : ∀ (l : List (Nat × Addr)), l.Pairwise (λp q => p.1 ≠ q.1 /\ p.2 ≠ q.2) -> (j, a) ∈ l -> (i, a) ∈ l -> False := by
    intro l
    induction l with
    |nil=>intro _ h;simp at h
    |cons c l ih=>
     intro hp h1 h2;obtain⟨p1,p2⟩:=wB.mp hp
     rcases zn.mp h1 with J |h1<;>rcases zn.mp h2 with e2 |h2
     ·rw[<- e2] at J;exact W (Prod.mk.inj J).1
     ·exact(p1 _ h2).2 (by rw[<- J])
     ·exact(p1 _ h1).2 (by rw[<- e2])
     ·exact ih p2 h1 h2
   exact(key os I.nd hj Y).elim
 obtain⟨ad,ac,ae⟩:=I.fresh _ Y
 refine⟨a,xs,J,hH,rs,λes' xs' r=>⟨by simp[I.len],λj c e=>?_,Reps.mono (λ_ _ z=>z) (hf xs') _ _ I.pend,I.nd,λq hq=>?_,λb e=>?_,I.gz,λb u h e=>?_,I.z0⟩⟩
 ·by_cases hj : j = i
  ·subst hj;rw[xg aa] at e;cases e;exact⟨.ref a,J,a,xs',rfl,Y,yx,Reps.mono (λ_ _ z=>z) (hf xs') _ _ r⟩
  ·rw [xq (Ne.symm hj)] at e;obtain⟨u,e2,e3⟩:=I.slot j c e
   exact⟨u,e2,SlotR.mono (λ_ _ z=>z) (hf xs') (λb ys m q=>⟨m,by rw[ww λz=>hj (uniq j (by rw[<- z];exact m))];exact q⟩) _ _ e3⟩
 ·obtain ⟨f1, f2, f3⟩ := I.fresh q hq;refine⟨f1,f2,?_⟩
  by_cases e:q.2=a
  ·rw[e,yx];exact Hot.lst
  ·rw[ww e];exact f3
 ·obtain ⟨x, y, z, q, rr⟩ := I.st b e
  exact⟨x,y,z,by rw[ww λw=>ac (by rw[<- w];exact I.gz b e)];exact q,rr⟩
 ·rw [ww λw => by rw [w, ad] at e; cases e]
  exact I.fr b u h e
def AmO.freeze{os:List (Nat × Addr)}{n:Nat}{rho:Rho}{sg:St}{H:Hp}{ds es:List D}{vs:List V}{i:Nat}(I:AmO A os n rho sg H ds vs)(hi:rho[i]?=some (some (.own es))):∃os',AmO A os' n (rho.set i (some (.lst es))) sg H ds vs:=by
 obtain⟨v,e1,a,xs,rfl,hm,hH,rs⟩:=I.slot i _ hi;have aa:i<rho.length:=(zu.mp hi).1;refine⟨os.filter λq=>decide (q.1≠i),?_⟩
 have sub:∀b,H b≠none->Zof A (os.filter λp=>decide (p.1≠i)) b->Zof A os b:=λb _ z=>by
  rcases z with z |⟨p,W,e⟩
  ·exact .inl z
  ·exact .inr ⟨p,(zB.mp W).1,e⟩
 have key:∀(l:List (Nat × Addr)),l.Pairwise (λp q=>p.1≠q.1/\p.2≠q.2)->(i,a)∈l->∀q∈l,q.2=a->q.1=i:=by
  intro l
  induction l with
  |nil=>intro _ h;simp at h
  |cons c l ih=>
   intro W h1 q hq J;obtain⟨p1,p2⟩:=wB.mp W
   rcases zn.mp h1 with e1 |h1<;>rcases zn.mp hq with Y |h2
   ·rw[Y,<- e1]
   ·exact absurd (by rw[<- e1,J]) (p1 _ h2).2
   ·exact absurd (by rw[<- Y,J]) (p1 _ h1).2
   ·exact ih p2 h1 q h2 J
 refine⟨by simp[I.len],λj c e=>?_,Reps.mono sub (λ_ _ _ e=>e) _ _ I.pend,I.nd.filter _,λp W=>I.fresh p (zB.mp W).1,I.st,I.gz,I.fr,I.z0⟩
 by_cases hj:j=i
 ·subst hj;rw[xg aa] at e;cases e;refine⟨.ref a,e1,Rep.lst_mk ⟨λz=>?_,hH⟩ (Reps.mono sub (λ_ _ _ e=>e) _ _ rs)⟩
  rcases z with z |⟨p,W,e⟩
  ·exact(I.fresh _ hm).2.1 z
  ·obtain⟨m1,m2⟩:=zB.mp W;have:=key os I.nd hm p m1 e;simp[this] at m2
 ·rw [xq (Ne.symm hj)] at e;obtain⟨u,Y,e3⟩:=I.slot j c e
  exact⟨u,Y,SlotR.mono sub (λ_ _ _ e=>e) (λb ys m q=>⟨zB.mpr ⟨m,by simpa using hj⟩,q⟩) _ _ e3⟩
def xp8(i:Nat)(t:TSD):TSD:=λF rho n=>∃es,rho[i]?=some (some (.own es))/\t F (rho.set i (some (.lst es))) n
def Yi(i:Nat)(h:PSD A X st t):PSD A X st (xp8 i t):=by
 exists PS.imp h λE sg H q=>by
   obtain⟨rho,n,F,ds,vs,⟨os,I⟩,⟨es,hi,ht⟩,ok⟩:=q;exact⟨_,n,F,ds,vs,I.freeze hi,ht,ok⟩
end
section
variable {A:AC}{X:Cx}{e a b:Expr}{es:Qq9}{te ta tb:TD}{t1:TAD}{pos:Pos}
def QB(i:Nat)(t:TAD):TSD:=λF rho n=>∃es,rho[i]?=some (some (.own es))/\es.length<sizeLine/\t rho n λds J=>∃d,ds=[d]/\F.nx (rho.set i (some (.own (es++[d])))) J
def qd{i:Nat}{x:Str}{px apos cpos:Pos}(ha:PAD A X [e] t1)(hK:X.K=A.K)(hN:X.N[i]?=some x:=by rfl)(hv:Vis X.env.scope x:=by first |exact Or.inl rfl |exact Or.inr (Or.inl rfl) |exact Or.inr (Or.inr rfl))(hd:(x == ("__debug__" : Str))=false:=by decide)
  (af:(x == ("__classdict__" : Str))=false:=by decide) (aa:attributeBase (.Name x px) "append" X.env (eval (.Name x px) X.env)=eval (.Name x px) X.env:=by rfl)
  (ac : ((backTo cpos (starEach [e] X.env)).all (λx => !x.1) && (backToKw cpos (keywordEach [] X.env)).all (λx => x.1.isSome)
   && decide ([e].length+([]:List Keyword).length+(if ([]:List Keyword).isEmpty then 0 else 1)<30))=true:=by rfl)
  (Y:(apos.endLine == cpos.line)=true:=by rfl) (hs:starEach [e] X.env=(false,eval e X.env)::starEach [] X.env:=by rfl) (W:(backTo cpos (starEach [] X.env)).any (·.1)=false:=by rfl)
  (ae:swapsWith (.Call (.Attribute (.Name x px) "append" apos) [e] [] cpos) none pos.line X.env=pure false:=by rfl) :
  PSD A X (.Expr (.Call (.Attribute (.Name x px) "append" apos) [e] [] cpos) pos) (QB i t1):=by
 exists 
   (zs1 (xA7 PySem.F.plainAttrs_list PySem.F.slot_list_append PySem.F.type_list_append zv2 (jH hN hv hd af) ha aa ac Y hs W) ae).imp λE sg H h => by
    obtain⟨rho,n,F,ds,vs,⟨os,I⟩,⟨es,hi,hz,ht⟩,ok⟩:=h;obtain⟨a,xs,e1,hH,rs,_⟩:=I.own (es':=es) (xs':=[]) hi;refine⟨.ref a,e1,.inl ⟨rfl,xs,SqL.of hH⟩,rho,n,_,ds,vs,⟨os,I⟩,ht,λws H' n' fs ⟨os',J⟩ hl k=>?_⟩;obtain⟨d,rfl,k⟩:=k;obtain⟨J1,ad⟩:=J.split hl;obtain⟨v,rfl,r⟩:=qz ad;obtain⟨a',xs',e2,hH',rs',up⟩:=J1.own (es':=es) (xs':=[]) hi;rw[e1] at e2;cases e2
    exact⟨a,xs',v,rfl,rfl,hH',by rw[rs'.length];exact hz,ok.nx _ _ _ _ ⟨os',up _ _ (rs'.append (.cons r .nil))⟩ k⟩
def zt4(o:Option (Option D))(p:List D->Prop):Prop:=∃es,o=some (some (.own es))/\p es
def zS4(i:Nat)(tb:TD):TD:=λrho n P=>zt4 rho[i]? λes=>tb rho n λd J=>∃j c,d=.int j/\atI es j=some c/\P c J
def zI1{i:Nat}{x:Str}{px:Pos}(hb:PD A X b tb)(W:Ka b)(hN:X.N[i]?=some x:=by rfl)(hv:Vis X.env.scope x:=by first |exact Or.inl rfl |exact Or.inr (Or.inl rfl) |exact Or.inr (Or.inr rfl))(hd:(x == ("__debug__" : Str))=false:=by decide)
  (Y:(x == ("__classdict__" : Str))=false:=by decide):PD A X (.Subscript (.Name x px) b pos) (zS4 i tb):=by
 exists 
   (zW1 za0 (jH hN hv hd Y) hb W).imp λsg H Q h => by
    obtain⟨rho,n,P,ds,vs,⟨os,I⟩,⟨es,hi,ht⟩,hQ⟩:=h;obtain⟨a,xs,e1,hH,rs,_⟩:=I.own (es':=es) (xs':=[]) hi;refine⟨.ref a,e1,rho,n,_,ds,vs,⟨os,I⟩,ht,λv H' n' d ⟨os',J⟩ k=>?_⟩;obtain⟨j,c,rfl,hc,k⟩:=k;obtain⟨J1,r⟩:=J.pop;obtain⟨a',xs',e2,hH',rs',_⟩:=J1.own (es':=es) (xs':=[]) hi;rw[e1] at e2;cases e2;obtain⟨w,e3,rw'⟩:=UZ rs' hc;exact⟨a,xs',j,w,rfl,r.int_inv,SqL.of hH',e3,hQ w H' n' c ⟨os',J1.push rw'⟩ k⟩
def xn6(i:Nat)(tb:TD):TD:=λrho n P=>rho[i]?=some (some .st)/\tb rho n λd J=>∃j:Int,d=.int j/\0<=j/\j<J/\∀z:Int,0<=z->(j=1->z<2147483647)->P (.int z) J
def zR6{n:Nat}{i:Int}(h0:0<=i)(h1:i<n):ixN n i=some i.toNat:=by unfold ixN;rw[if_pos h0,if_pos h1]
def jW{i:Nat}{x:Str}{px:Pos}(hb:PD A X b tb)(aa:Ka b)(hN:X.N[i]?=some x:=by rfl)(hv:Vis X.env.scope x:=by first |exact Or.inl rfl |exact Or.inr (Or.inl rfl) |exact Or.inr (Or.inr rfl))(hd:(x == ("__debug__" : Str))=false:=by decide)
  (ac:(x == ("__classdict__" : Str))=false:=by decide):PD A X (.Subscript (.Name x px) b pos) (xn6 i tb):=by
 exists 
   (zW1 za0 (jH hN hv hd ac) hb aa).imp λsg H Q h => by
    obtain⟨rho,n,P,ds,vs,⟨os,I⟩,⟨hi,ht⟩,hQ⟩:=h;obtain⟨v,e1,e2⟩:=I.slot i _ hi
    obtain⟨a,ha,rfl⟩:∃a,A.G=some a/\v=.ref a:=by
     have e3:=SlotR.rep (d:=.st) rfl e2;unfold Rep at e3;exact e3
    refine⟨.ref a,e1,rho,n,_,ds,vs,⟨os,I⟩,ht,λw H' n' d ⟨os',J⟩ k=>?_⟩;obtain⟨j,rfl,h0,h3,k⟩:=k;obtain⟨J1,r⟩:=J.pop;obtain⟨zs,_,_,hH,p1,p2,p3⟩:=J1.st a ha;obtain⟨W,rfl⟩:=xT h0
    have Y:W<zs.length:=q5
    have ej:zs[W]?=some zs[W]:=zd Y
    refine⟨a,_,(W:Int),.int zs[W],rfl,r.int_inv,SqL.of hH,?_,hQ _ H' n' _ ⟨os',J1.push (Rep.ofS (d:=.int zs[W]) rfl)⟩ (k zs[W] (p2 _ (wZ Y)) λe=>p3 _ (by rw[<- ej];congr 1;lia))⟩
    unfold atI
    rw[zR6 q5 (by rw[zf];lia)]
    simp[Y]
def zL9(J:Qq4)(j:Nat)(z:Int):(J.map V.int).set j (.int z)=(J.set j z).map V.int:=by rw[List.map_set]
def AmO.setSt{os:List (Nat × Addr)}{n:Nat}{rho:Rho}{sg:St}{H:Hp}{ds:List D}{vs:List V}{a:Addr}{J:Qq4}(I:AmO A os n rho sg H ds vs)(ha:A.G=some a)(h:J.length=n/\(∀x∈J,0<=x)/\∀x,J[1]?=some x->x<2147483647) :
  AmO A os n rho sg (upd H a (.lst (J.map V.int))) ds vs:=by
 have za:Zof A os a:=.inl (I.gz a ha)
 have hf:∀b u,¬ Zof A os b->H b=some u->upd H a (.lst (J.map V.int)) b=some u:=λb u nz e=>by
  rw[ww λw=>nz (by rw[w];exact za)];exact e
 have W:∀p∈os,p.2≠a:=λp hp e=>(I.fresh p hp).2.1 (by rw[e];exact I.gz a ha)
 refine⟨I.len,λj c e=>?_,Reps.mono (λ_ _ w=>w) hf _ _ I.pend,I.nd,λq Y=>?_,λb e=>?_,I.gz,λb u h e=>?_,I.z0⟩
 ·obtain ⟨u, e1, e2⟩ := I.slot j c e
  exact⟨u,e1,SlotR.mono (λ_ _ w=>w) hf (λb ys m q=>⟨m,by rw[ww (W _ m)];exact q⟩) _ _ e2⟩
 ·obtain ⟨f1, f2, f3⟩ := I.fresh q Y
  exact⟨f1,f2,by rw[ww (W q Y)];exact f3⟩
 ·rw[ha] at e;cases e;exact⟨J,0,0,yx,h⟩
 ·rw [ww λw => h (by rw [w]; exact ha)]
  exact I.fr b u h e
def zO8(i:Nat)(te tb:TD):TSD:=λF rho n=>rho[i]?=some (some .st)/\te rho n λd W=>tb rho W λd2 J=>∃j z:Int,d=.int z/\d2=.int j/\0<=j/\j<J/\0<=z/\(j=1->z<2147483647)/\F.nx rho J
def Wk{i:Nat}(he:PD A X e te)(hb:PD A X b tb)(hN:X.N[i]?=some x:=by rfl)(hv:Vis X.env.scope x:=by first |exact Or.inl rfl |exact Or.inr (Or.inl rfl) |exact Or.inr (Or.inr rfl))(hd:(x == ("__debug__" : Str))=false:=by decide)
  (ad : (x == ("__classdict__" : Str)) = false := by decide) (ha : ∀ v, assign (.Subscript (.Name x px) b ps) X.env v = (do
   let W <- holding [v] (eval (.Name x px) X.env)
   let iv <- holding [v,W] (eval b X.env)
   standAt ps
   holding [v,W,iv] (setItem W iv v)
   release [v,W,iv] []):=by intro _;rfl) (hs:swapsWithSole [.Subscript (.Name x px) b ps] e pos.line X.env=pure false:=by rfl) (hw:swappedStores [.Subscript (.Name x px) b ps] e X.env=pure none:=by rfl)
  (h1:(assignEach [.Subscript (.Name x px) b ps] X.env).map (·.2)=[assign (.Subscript (.Name x px) b ps) X.env]:=by rfl) :
  PSD A X (.Assign [.Subscript (.Name x px) b ps] e pos) (zO8 i te tb):=by
 exists 
   (ze4 he (xh8 (jH hN hv hd ad) hb zF1 ha) hs hw h1).imp λE sg H h => by
    obtain⟨rho,n,F,ds,vs,⟨os,I⟩,⟨hi,ht⟩,ok⟩:=h;obtain⟨v,e1,e2⟩:=I.slot i _ hi
    obtain⟨a,hG,rfl⟩:∃a,A.G=some a/\v=.ref a:=by
     have e3:=SlotR.rep (d:=.st) rfl e2;unfold Rep at e3;exact e3
    refine⟨rho,n,_,ds,vs,⟨os,I⟩,ht,λv H' n' d J k=>⟨.ref a,e1,rho,n',_,d::ds,v::vs,J,k,λw H2 n2 d2 ⟨aa,J2⟩ k2=>?_⟩⟩;obtain⟨j,z,rfl,rfl,h0,h3,hz,h2,k2⟩:=k2;obtain⟨J3,r2⟩:=J2.pop;obtain⟨J4,r1⟩:=J3.pop;obtain⟨zs,_,_,hH,p1,p2,p3⟩:=J4.st a hG;rw[r1.int_inv,r2.int_inv];obtain⟨Y,rfl⟩:=xT h0
    have ac:Y<zs.length:=q5
    refine⟨a,_,(Y:Int),Y,rfl,rfl,hH,by rw[zR6 q5 (by rw[zf];lia)];simp,?_⟩
    rw[zL9]
    refine ok.nx _ _ _ _ ⟨aa,J4.setSt hG ⟨by rw[List.length_set];exact p1,λx hx=>?_,λx hx=>?_⟩⟩ k2
    ·rcases List.mem_or_eq_of_mem_set hx with hx | rfl
     ·exact p2 x hx
     ·exact hz
    ·by_cases e : Y = 1
     ·subst e;rw[xg ac] at hx;cases hx;exact h2 rfl
     ·rw[xq e] at hx;exact p3 x hx
noncomputable def Ki(es:List D)(lo hi:Option Int):List D:=(es.drop (HT.sIx es.length 0 lo)).take (HT.sIx es.length es.length hi-HT.sIx es.length 0 lo)
def Uo{K:Qq5}{G:QqE}{Z:QqA}{H:Hp}{fs:List D}{xs:List V}(h:Reps K G Z H fs xs)(lo hi:Option Int):Reps K G Z H (Ki fs lo hi) (zN5 xs lo hi):=by
 unfold Ki zN5;rw[h.length];exact(h.drop _).take _
end
abbrev TF:=List D->Nat->(D->Nat->Prop)->Prop
def spD(K:Qq5)(k:Nat)(t:TF):Sp:=λvs H Q _=>∃(G:QqE) (Z:QqA) (n:Nat) (P:D->Nat->Prop) (ds:List D),ds.length=k/\Reps K G Z H ds vs/\zD6 G n H/\(∀a,G=some a->Z a)/\ZOk K G Z H/\t ds n P /\
 ∀v H' n' d,(∀a o,G≠some a->H a=some o->H' a=some o)->zD6 G n' H'->Rep K G Z H' d v->P d n'->Q v H'
def startD(N:Qq2)(ds:List D):Rho:=ds.map some++replicate (N.length-ds.length) none
def Zm{K:Qq5}{G:QqE}{Z:QqA}{H:Hp}{N:Qq2}{ds:List D}{vs:List V}{n:Nat}(rs:Reps K G Z H ds vs)(st:zD6 G n H)(gz:∀a,G=some a->Z a)(z0:ZOk K G Z H) :
  AmO ⟨K,G,Z,H⟩ [] n (startD N ds) (start N vs) H [] []:=by
 have Y:=rs.length
 have zz:∀a,Zof ⟨K,G,Z,H⟩ [] a->Z a:=λa z=>by
  rcases z with z |⟨p,J,_⟩
  ·exact z
  ·simp at J
 have rs':Reps K G (Zof ⟨K,G,Z,H⟩ []) H ds vs:=Reps.mono (λa _ z=>zz a z) (λ_ _ _ e=>e) _ _ rs
 refine⟨by simp[startD,start,Y],λi d e=>?_,.nil,.nil,λp J=>by simp at J,st,gz,λa o _ e=>e,z0⟩
 unfold startD at e
 by_cases hi:i<ds.length
 ·rw [xW (by simpa using hi), zy] at e
  cases q:ds[i]? with
  |none=>rw[q] at e;cases e
  |some c=>
   rw[q] at e;cases e;obtain⟨v,e1,r⟩:=rs'.get q;refine⟨v,?_,SlotR.of r⟩;unfold start
   rw[xW (by rw[zf,Y];exact hi),zy,e1]
   rfl
 ·rw [xC (by simpa using hi), xS] at e
  split at e<;>cases e
section
variable {P:Qq3}{w:Qqa}{K:Qq5}{mg:QqM}{base:Heap}
def Fun.okD{x J:Str}{st:Stmt}{f:Addr}{fd:Qqb}{N ps:Qq2}{k:Nat}{t:TF}{tb:TSD}(F:Fun K x J st f fd)(S:FnScope N ps (xm st))
  (body : ∀ (W : Value) (A0 : Around) (outer : List Env) (s : Shared) (H : Hp) (E : XK) (G : Option Addr) (Z : Addr -> Prop), Room k (A0.deeper (envOfC J (xm st) s.heap.objs.size f W)) ->
   Ql ⟨K,G,Z,H⟩ (zD5 CX0 P w K mg base N J (xm st) f W A0 outer s H E).nox (ku st) tb)
  (Y:∀ds n Q,ds.length=ps.length->t ds n Q->tb { nx:=λ_ n=>Q .non n,rt:=Q } (startD N ds) n):FnOk P w K mg base CX0 (k+1) f fd ps (spD K ps.length t):=by
 exists (by
   refine F.ok S (λvs H Q E h=>?_) (λW A0 outer s H vs Q E hr h=>?_)
   ·obtain⟨G,Z,n,R,ds,hl,rs,_⟩:=h;rw[rs.length];exact hl
   ·obtain ⟨G, Z, n, R, ds, hl, rs, aa, gz, z0, ht, hQ⟩ := h;refine⟨_,body W A0 outer s H E G Z hr,startD N ds,n,_,[],[],⟨[],Zm rs aa gz z0⟩,Y ds n R hl ht,?_⟩;have zz:∀ (os:List (Nat × Addr)) a,Z a->Zof ⟨K,G,Z,H⟩ os a:=λos a z=>.inl z;refine⟨λrho' n' sg' H' ⟨os,I⟩ q=>?_,λd n' v rho' sg' H' ⟨os,I⟩ q=>?_,λ_ _ _ _ _ q=>q.elim,λ_ _ _ _ _ q=>q.elim⟩
    ·exact hQ .non H' n' .non I.fr I.st (Rep.ofS rfl) q
    ·exact hQ v H' n' d I.fr I.st (Rep.mono (λa _ z=>zz os a z) (λ_ _ _ e=>e) _ _ I.pop.2) q)
end
section
variable {A:AC}{X:Cx}{e:Expr}{es:Qq9}{t1:TAD}{pos p:Pos}
def dFn(k:Nat)(t:TF)(t1:TAD):TD:=λrho n P=>t1 rho n λes J=>es.length=k/\t es J P
def AmO.called{os:List (Nat × Addr)}{n n':Nat}{rho:Rho}{sg:St}{H H':Hp}{ds:List D}{vs:List V}(I:AmO A os n rho sg H ds vs)(fr:∀a o,A.G≠some a->H a=some o->H' a=some o)(st:zD6 A.G n' H'):AmO A os n' rho sg H' ds vs:=by
 have Y:∀b u,¬ Zof A os b->H b=some u->H' b=some u:=λb u nz e=>fr b u (λz=>nz (.inl (I.gz b z))) e;have J:∀p∈os,A.G≠some p.2:=λp hp e=>(I.fresh p hp).2.1 (I.gz _ e);refine⟨I.len,λj c e=>?_,Reps.mono (λ_ _ w=>w) Y _ _ I.pend,I.nd,λq W=>?_,st,I.gz,λb u h e=>fr b u h (I.fr b u h e),I.z0⟩
 ·obtain⟨u,e1,e2⟩:=I.slot j c e;exact⟨u,e1,SlotR.mono (λ_ _ w=>w) Y (λb ys m q=>⟨m,fr _ _ (J _ m) q⟩) _ _ e2⟩
 ·obtain⟨f1,f2,f3⟩:=I.fresh q W;exact⟨f1,f2,f3.of λu z=>fr _ _ (J q W) z⟩
def zX0{kk k:Nat}(F:FnOk X.prog X.w X.K X.mg X.base CX0 kk f fd ps (spD X.K k t))(hr:Room kk X.A)(hm:X.mg x=some (.ref f))(hk:W.keepIn X.K (.ref f)=true)(hb:Binds X.K fd ps [])(hK:X.K=A.K)
  (ha:PAD A X (e::es) t1) (hg:Gl X x:=by rfl) (ac:(x == ("__debug__" : Str))=false:=by decide) (he:starEach (e::es) X.env=(false,eval e X.env)::starEach es X.env:=by rfl) (aa:(backTo pos (starEach es X.env)).any (·.1)=false:=by rfl) :
  PD A X (.Call (.Name x p) (e::es) [] pos) (dFn k t t1):=by
 exists (UB F hr hg hm hk hb .nil zI3 ha ac he aa).imp λsg H Q h=>by
   obtain⟨rho,n,R,ds,vs,I,ht,hQ⟩:=h;refine⟨rho,n,_,ds,vs,I,ht,λws H' n' es' ⟨os,J⟩ hl k=>?_⟩;obtain⟨Y,rs⟩:=J.split hl;rw[wv,hK];refine⟨A.G,Zof A os,n',R,es',k.1,rs,Y.st,λa z=>.inl (Y.gz a z),Y.zO,k.2,λv H2 n2 d fr st r q=>hQ v H2 n2 d ⟨os,(Y.called fr st).push r⟩ q⟩
end
section
variable {A:AC}{X:Cx}{tg a:Expr}{ta:TD}{pos p:Pos}
def xC0(K:Qq5)(tl:TE):TI:=λsg H R=>tl sg H λx H1=>∃l,x=.ref l/\(((∃xs,SqL K H1 l xs)/\R (Itl K l) H1)\/((∃xs,SqT K H1 l xs)/\R (Itt K l) H1))
def zW0{l:Expr}{tl:TE}(hl:PE X l tl):PI X tg l (xC0 X.K tl):=by
 intro pins s sg H R I h;refine thn (hl pins s sg H _ I h) λv s1 ⟨x,H1,J,r1,Y⟩=>?_;obtain⟨c,e,Y⟩:=Y;subst e;cases r1
 have W:∀b∈[s1.heap.objs.size],FpOk X pins H1 b:=λb hb=>by
  obtain rfl:b=s1.heap.objs.size:=by simpa using hb
  exact J.fpOk (zj _) (J.hok.fresh (zj _))
 rcases Y with ⟨⟨xs,hq⟩,q⟩ |⟨⟨xs,hq⟩,q⟩
 ·obtain⟨its,rv,pl,hz⟩:=J.list hq;exact vd pl.isList ⟨s1.heap.objs.size,[s1.heap.objs.size],_,_,H1,rfl,J.kept (t':=s1.toks) λb o e=>zg _ e,zo6 c _,⟨_,zr _ rfl,rfl,rfl⟩,W,q⟩
 ·obtain⟨its,rv,pl,hz⟩:=J.tuple hq;exact wpAny_pyIter_tuple (show s1.heap.IsTuple c its.toArray from pl) ⟨s1.heap.objs.size,[s1.heap.objs.size],_,_,H1,rfl,J.kept (t':=s1.toks) λb o e=>zg _ e,zj1 c _,⟨_,zr _ rfl,rfl,rfl⟩,W,q⟩
def xm4(ta:TD):TID:=λrho n P=>ta rho n λd J=>∃es,(d=.lst es\/d=.tup es)/\P es J
def vq(hK:X.K=A.K)(ha:PD A X a ta):PID A X tg a (xm4 ta):=by
 exists (zW0 ha).imp λsg H R h=>by
   obtain⟨rho,n,P,ds,vs,I,ht,hQ⟩:=h;refine⟨rho,n,_,ds,vs,I,ht,λv H' n' d ⟨os,J⟩ k=>?_⟩;obtain⟨es,hd,k⟩:=k;have r:=J.pop.2;rw[hK]
   rcases hd with rfl |rfl
   ·obtain ⟨l, xs, rfl, sq, rs⟩ := r.lst_inv;refine⟨l,rfl,.inl ⟨⟨xs,sq.sq⟩,hQ _ H' n' es [.lst es] [.ref l] ⟨os,J⟩ rfl (λn2 ae sg2 H2 ad aa i ⟨ac,I2⟩=>?_) k⟩⟩;obtain⟨I3,r2⟩:=AmO.pop (d:=.lst es) (v:=.ref l) (ds:=ad) (vs:=aa) I2;obtain⟨l',xs2,e,W,Y⟩:=r2.lst_inv;cases e
    refine⟨λd e=>?_,λhi=>⟨xs2,W.sq,by rw[Y.length];exact hi⟩⟩
    obtain⟨v,e1,rv⟩:=Y.get e;refine⟨⟨xs2,v,W.sq,e1⟩,λx H3 y=>?_⟩;obtain⟨e3,y⟩:=y;subst e3;have e4:=y xs2 W.sq;rw[e1] at e4;cases e4;exact⟨ac,I2.push rv⟩
   ·obtain ⟨l, xs, rfl, sq, rs⟩ := r.tup_inv;refine⟨l,rfl,.inr ⟨⟨xs,sq.sq⟩,hQ _ H' n' es [.tup es] [.ref l] ⟨os,J⟩ rfl (λn2 ae sg2 H2 ad aa i ⟨ac,I2⟩=>?_) k⟩⟩;obtain⟨I3,r2⟩:=AmO.pop (d:=.tup es) (v:=.ref l) (ds:=ad) (vs:=aa) I2;obtain⟨l',xs2,e,W,Y⟩:=r2.tup_inv;cases e
    refine⟨λd e=>?_,λhi=>⟨xs2,W.sq,by rw[Y.length];exact hi⟩⟩
    obtain⟨v,e1,rv⟩:=Y.get e;refine⟨⟨xs2,v,W.sq,e1⟩,λx H3 y=>?_⟩;obtain⟨e3,y⟩:=y;subst e3;have e4:=y xs2 W.sq;rw[e1] at e4;cases e4;exact⟨ac,I2.push rv⟩
end
structure Fn(P:Qq3)(w:Qqa)(K:Qq5)(mg:QqM)(base:Heap)(x:Str)(kk k:Nat)(t:TF):Prop where
 ex:∃(f:Addr) (fd:Qqb) (ps:Qq2),FnOk P w K mg base CX0 kk f fd ps (spD K k t)/\mg x=some (.ref f)/\W.keepIn K (.ref f)=true/\Binds K fd ps []
def wy{Y k:Nat}(F:Fn X.prog X.w X.K X.mg X.base x Y k t)(hr:Room Y X.A)(hK:X.K=A.K)
  (ha:PAD A X (e::es) t1) (hg:Gl X x:=by rfl) (W:(x == ("__debug__" : Str))=false:=by decide) (he:starEach (e::es) X.env=(false,eval e X.env)::starEach es X.env:=by rfl) (J:(backTo pos (starEach es X.env)).any (·.1)=false:=by rfl) :
  PD A X (.Call (.Name x p) (e::es) [] pos) (dFn k t t1):=by
 exists (by
   obtain⟨f,fd,ps,h1,h2,h3,h4⟩:=F.ex
   exact zX0 h1 hr h2 h3 h4 hK ha hg W he J)
structure Blt(mg:QqM):Prop where
 len:mg "len" = none
 abs:mg "abs" = none
 all:mg "all" = none
 any:mg "any" = none
 isi:mg "isinstance" = none
 int:mg "int" = none
 bool:mg "bool" = none
 str:mg "str" = none
 tuple:mg "tuple" = none
 list:mg "list" = none
 range:mg "range" = none
 zip:mg "zip" = none
 enum:mg "enumerate" = none
 max:mg "max" = none
 min:mg "min" = none
 sorted:mg "sorted" = none
def kK:bootBuiltins "len" = some (.builtin "len"):=w5
def zS9:bootBuiltins "abs" = some (.builtin "abs"):=w5
def xo1:bootBuiltins "any" = some (.builtin "any"):=w5
def zC0:bootBuiltins "int" = some (.type "int"):=w5
def vM:bootBuiltins "tuple" = some (.type "tuple"):=w5
def zB9:bootBuiltins "list" = some (.type "list"):=w5
def isB(d:D)(p:Bool->Prop):Prop:=∃c,d=.bl c/\p c
@[simp] theorem xM9{b:Bool}:isB (.bl b) p↔p b:=⟨fun⟨_,e,h⟩=>by cases e;exact h,λh=>⟨_,rfl,h⟩⟩
@[simp] theorem xw2{F rho n}:xf2 F rho n=F.nx rho n:=rfl
@[simp] theorem xF0{t u F rho n}:Qi t u F rho n=t { F with nx:=u F } rho n:=rfl
@[simp] theorem xF1{te F rho n}:xD8 te F rho n=te rho n F.rt:=rfl
@[simp] theorem xL9{c t u F rho n}:sIf c t u F rho n=c rho n λb J=>if b=true then t F rho J else u F rho J:=rfl
@[simp] theorem xE9{i te F rho n}:zq3 i te F rho n=(i<rho.length/\te rho n λd J=>F.nx (rho.set i (some d)) J):=rfl
@[simp] theorem xE8{te g F rho n}:xD7 te g F rho n=te rho n λd J=>g d rho λrho'=>F.nx rho' J:=rfl
@[simp] theorem xF3{i t F rho n}:xu1 i t F rho n=(i<rho.length/\t rho n λes J=>es.length<=sizeLine/\F.nx (rho.set i (some (.own es))) J):=rfl
@[simp] theorem xF4{i t F rho n}:xp8 i t F rho n=∃es,rho[i]?=some (some (.own es))/\t F (rho.set i (some (.lst es))) n:=rfl
@[simp] theorem xg6{i t F rho n}:QB i t F rho n=∃es,rho[i]?=some (some (.own es))/\es.length<sizeLine/\t rho n λds J=>∃d,ds=[d]/\F.nx (rho.set i (some (.own (es++[d])))) J:=rfl
@[simp] theorem xr4{i d rho P}:zR7 i d rho P=(i<rho.length/\P (rho.set i (some d))):=rfl
@[simp] theorem xG1{i rho n P}:xI6 i rho n P=atV rho[i]? λd=>P d n:=rfl
@[simp] theorem xO1{d k}:atV (some (some d)) k=atD d k:=rfl
@[simp] theorem xI0{k}:atD .non k=k .non:=rfl
@[simp] theorem xH9{k b}:atD (.bl b) k=k (.bl b):=rfl
@[simp] theorem xH8{k b}:atD (.int b) k=k (.int b):=rfl
@[simp] theorem xH7{k b}:atD (.str b) k=k (.str b):=rfl
@[simp] theorem xH6{k b}:atD (.tup b) k=k (.tup b):=rfl
@[simp] theorem xH5{k b}:atD (.lst b) k=k (.lst b):=rfl
@[simp] theorem xH4{k b}:atD (.fz b) k=k (.fz b):=rfl
@[simp] theorem xH3{k}:atD .st k=k .st:=rfl
@[simp] theorem xH2{k a b}:atD (.dct a b) k=k (.dct a b):=rfl
@[simp] theorem xO2{d k}(h:wj d=true):atD d k=k d:=propext ⟨λz=>(zC4 z).2,zi5 h⟩
@[simp] theorem xQ5{d rho n P}:dC d rho n P=P d n:=rfl
@[simp] theorem xN7{rd ta tb rho n P}:dOp rd ta tb rho n P=ta rho n λd1 W=>tb rho W λd2 J=>rd d1 d2 λd=>P d J:=rfl
@[simp] theorem xy9{t rho n P}:zm7 t rho n P=t rho n λd n'=>isB d λb=>P b n':=rfl
@[simp] theorem xw6{d1 d2 k}:xg1 d1 d2 k=(d2=.non/\k (.bl (YG d1))):=rfl
@[simp] theorem xq3{d1 d2 k}:zP1 d1 d2 k=(d2=.non/\k (.bl (!YG d1))):=rfl
@[simp] theorem xH1{t u rho n P}:xJ3 t u rho n P=t rho n λc J=>if c=true then u rho J P else P false J:=rfl
@[simp] theorem xO0{t u rho n P}:bOr t u rho n P=t rho n λc J=>if c=true then P true J else u rho J P:=rfl
@[simp] theorem xH0{t rho n P}:xC6 t rho n P=t rho n λc J=>P (!c) J:=rfl
@[simp] theorem xG9{rho n P}:xo4 rho n P=P true n:=rfl
@[simp] theorem xG8{ta tb rho n P}:xJ2 ta tb rho n P=ta rho n λd J=>isB d λc=>if c=true then tb rho J P else P (.bl false) J:=rfl
@[simp] theorem xG5{ta rho n P}:xJ0 ta rho n P=ta rho n λd J=>isB d λc=>P (.bl (!c)) J:=rfl
@[simp] theorem xN8{t ta tb rho n P}:dIf t ta tb rho n P=t rho n λc J=>if c=true then ta rho J P else tb rho J P:=rfl
@[simp] theorem xI1{rho n P}:xs7 rho n P=P [] n:=rfl
@[simp] theorem xz5{t r rho n P}:xc9 t r rho n P=t rho n λd W=>r rho W λds J=>P (d::ds) J:=rfl
@[simp] theorem xG2{t rho n P}:xI7 t rho n P=t rho n λds J=>ds.length<=sizeLine/\P (.tup ds) J:=rfl
@[simp] theorem xG6{t rho n P}:xC4 t rho n P=t rho n λds J=>ds.length<=sizeLine/\P (.lst ds) J:=rfl
@[simp] theorem xz4{rd t rho n P}:zN3 rd t rho n P=t rho n λes J=>rd es λd=>P d J:=rfl
@[simp] theorem xN9{k t t1 rho n P}:dFn k t t1 rho n P=t1 rho n λes J=>es.length=k/\t es J P:=rfl
@[simp] theorem xy5{ta rho n P}:xm4 ta rho n P=ta rho n λd J=>∃es,(d=.lst es\/d=.tup es)/\P es J:=rfl
@[simp] theorem xy6{t rho n P}:xa5 t rho n P=t rho n λes J=>∃j:Int,es=[.int j]/\-(2^62)<=j/\j<2^62/\P (zd7 0 j.toNat) J:=rfl
@[simp] theorem xy8{rho P}:xm7 [] rho P↔P rho:=⟨λh=>h.2,λh=>⟨rfl,h⟩⟩
@[simp] theorem xr5{g gs d r rho P}:zR8 g gs (d::r) rho P↔g d rho λrho'=>gs r rho' P:=⟨fun⟨_,_,e,h⟩=>by cases e;exact h,λh=>⟨_,_,rfl,h⟩⟩
@[simp] theorem xy7{k gs es rho P}:xm6 k gs (.tup es) rho P↔(es.length=k/\gs es rho P):=⟨fun⟨_,e,h⟩=>by cases e;exact h,λh=>⟨_,rfl,h⟩⟩
@[simp] theorem xM0{C g i j k}:rdI C g (.int i) (.int j) k=(C i j/\k (g i j)):=rfl
@[simp] theorem xF6{g i j k}:zG1 g (.int i) (.int j) k=k (g i j):=rfl
@[simp] theorem zV0{es i k}:KM (.lst es) (.int i) k↔∃d,atI es i=some d/\k d:=⟨fun⟨_,_,d,e,e',h⟩=>by cases e' ;rcases e with e |e |e<;>cases e;exact⟨d,h⟩,fun⟨d,h⟩=>⟨_,_,d,.inl rfl,rfl,h⟩⟩
@[simp] theorem QE{es i k}:KM (.tup es) (.int i) k↔∃d,atI es i=some d/\k d:=⟨fun⟨_,_,d,e,e',h⟩=>by cases e' ;rcases e with e |e |e<;>cases e;exact⟨d,h⟩,fun⟨d,h⟩=>⟨_,_,d,.inr (.inl rfl),rfl,h⟩⟩
@[simp] theorem xw5{es i k}:KM (.fz es) (.int i) k↔∃d,atI es i=some d/\k d:=⟨fun⟨_,_,d,e,e',h⟩=>by cases e' ;rcases e with e |e |e<;>cases e;exact⟨d,h⟩,fun⟨d,h⟩=>⟨_,_,d,.inr (.inr rfl),rfl,h⟩⟩
@[simp] theorem xx1{es fs k}:xg4 (.lst es) (.lst fs) k↔(es.length+fs.length<=sizeLine/\k (.lst (es++fs))):=⟨fun⟨_,_,e,e',h⟩=>by cases e;cases e';exact h,λh=>⟨_,_,rfl,rfl,h⟩⟩
@[simp] theorem zG4{es i k}:zr1 (.tup es) (.int i) k↔(es≠[]/\1<=i/\es.length*i.toNat<=sizeLine/\k (.tup (replicate i.toNat es).flatten)):=⟨fun⟨_,_,e,e',h⟩=>by cases e;cases e';exact h,λh=>⟨_,_,rfl,rfl,h⟩⟩
def xi6(es:List D)(p:D->D->Prop):Prop:=∃d d',es=[d,d']/\p d d'
@[simp] theorem xx2{a b p}:xi6 [a,b] p↔p a b:=⟨fun⟨_,_,e,h⟩=>by cases e;exact h,λh=>⟨_,_,rfl,h⟩⟩
@[simp] theorem xF2{i j t F rho n}:xu0 i j t F rho n=(i<rho.length/\j<rho.length/\t rho n λes J=>xi6 es λd d'=>F.nx ((rho.set i (some d)).set j (some d')) J):=rfl
@[simp] theorem xw8{i j:Int}{k}:zP2 (.int i) (.int j) k↔k (.bl (decide (i=j))):=by
 have e:decide (ofS (.int i)=ofS (.int j))=decide (i=j):=by simp[ofS]
 unfold zP2;rw[e];exact⟨λh=>h.2.2.2,λh=>⟨rfl,rfl,rfl,h⟩⟩
@[simp] theorem xw9{i j:Bool}{k}:zP2 (.bl i) (.bl j) k↔k (.bl (decide (i=j))):=by
 have e:decide (ofS (.bl i)=ofS (.bl j))=decide (i=j):=by simp[ofS]
 unfold zP2;rw[e];exact⟨λh=>h.2.2.2,λh=>⟨rfl,rfl,rfl,h⟩⟩
@[simp] theorem xy0{fs k}:zL8 [.lst fs] k↔k (.int fs.length):=⟨fun⟨_,e,h⟩=>by rcases e with e |e |e<;>cases e;exact h,λh=>⟨_,.inl rfl,h⟩⟩
@[simp] theorem Us{fs k}:zL8 [.tup fs] k↔k (.int fs.length):=⟨fun⟨_,e,h⟩=>by rcases e with e |e |e<;>cases e;exact h,λh=>⟨_,.inr (.inl rfl),h⟩⟩
@[simp] theorem xy1{fs k}:zL8 [.fz fs] k↔k (.int fs.length):=⟨fun⟨_,e,h⟩=>by rcases e with e |e |e<;>cases e;exact h,λh=>⟨_,.inr (.inr rfl),h⟩⟩
@[simp] theorem xF7{i k}:xI5 [.int i] k↔k (.int (if i<0 then -i else i)):=⟨fun⟨_,e,h⟩=>by cases e;exact h,λh=>⟨_,rfl,h⟩⟩
@[simp] theorem xy2{i k}:xl9 [.bl i] k↔k (.int (if i then 1 else 0)):=⟨fun⟨_,e,h⟩=>by cases e;exact h,λh=>⟨_,rfl,h⟩⟩
@[simp] theorem KO{fs k}:zx2 [.lst fs] k↔k (.tup fs):=⟨fun⟨_,e,h⟩=>by rcases e with e |e<;>cases e;exact h,λh=>⟨_,.inl rfl,h⟩⟩
@[simp] theorem xg7{fs k}:zx2 [.tup fs] k↔k (.tup fs):=⟨fun⟨_,e,h⟩=>by rcases e with e |e<;>cases e;exact h,λh=>⟨_,.inr rfl,h⟩⟩
@[simp] theorem xr3{fs k}:zZ9 [.lst fs] k↔k (.lst fs):=⟨fun⟨_,e,h⟩=>by rcases e with e |e<;>cases e;exact h,λh=>⟨_,.inl rfl,h⟩⟩
@[simp] theorem xr2{fs k}:zZ9 [.tup fs] k↔k (.lst fs):=⟨fun⟨_,e,h⟩=>by rcases e with e |e<;>cases e;exact h,λh=>⟨_,.inr rfl,h⟩⟩
@[simp] theorem xz0{i tb rho n P}:xn6 i tb rho n P=(rho[i]?=some (some .st)/\tb rho n λd J=>∃j:Int,d=.int j/\0<=j/\j<J/\∀z:Int,0<=z->(j=1->z<2147483647)->P (.int z) J):=rfl
@[simp] theorem xq1{i te tb F rho n}:zO8 i te tb F rho n=(rho[i]?=some (some .st)/\te rho n λd W=>tb rho W λd2 J=>∃j z:Int,d=.int z/\d2=.int j/\0<=j/\j<J/\0<=z/\(j=1->z<2147483647)/\F.nx rho J):=rfl
@[simp] theorem xM8:wj .non=true:=rfl
@[simp] theorem xM7{b}:wj (.bl b)=true:=rfl
@[simp] theorem xM6{b}:wj (.int b)=true:=rfl
@[simp] theorem xM5{b}:wj (.str b)=true:=rfl
@[simp] theorem xM4{b}:wj (.tup b)=true:=rfl
@[simp] theorem xM3{b}:wj (.lst b)=true:=rfl
@[simp] theorem xM2:wj .st=true:=rfl
@[simp] theorem xM1{b}:wj (.fz b)=true:=rfl
@[simp] theorem xN5:YG .non=true:=rfl
@[simp] theorem xN4{b}:YG (.bl b)=false:=rfl
@[simp] theorem xN3{b}:YG (.int b)=false:=rfl
@[simp] theorem xN2{b}:YG (.str b)=false:=rfl
@[simp] theorem xN1{b}:YG (.tup b)=false:=rfl
@[simp] theorem xN0{b}:YG (.lst b)=false:=rfl
@[simp] theorem xL8{b}:Wd (.lst b)=some (true,b):=rfl
@[simp] theorem xL7{b}:Wd (.tup b)=some (false,b):=rfl
@[simp] theorem xv7:(0<=sizeLine)=True:=by simp
@[simp] theorem xv6:(1<=sizeLine)=True:=by simp[sizeLine]
@[simp] theorem xv5:(2<=sizeLine)=True:=by simp[sizeLine]
@[simp] theorem xv4:(3<=sizeLine)=True:=by simp[sizeLine]
@[simp] theorem xv3:(4<=sizeLine)=True:=by simp[sizeLine]
@[simp] theorem xv2:(5<=sizeLine)=True:=by simp[sizeLine]
@[simp] theorem xv1:(6<=sizeLine)=True:=by simp[sizeLine]
@[simp] theorem xv0:(7<=sizeLine)=True:=by simp[sizeLine]
def yk{k:Nat}(h:k<=1000:=by decide):k<=sizeLine:=zG h q9
def lt_size{k:Nat}(h:k<=1000:=by decide):k<sizeLine:=vB h q9
def zB0(own:Nat)(g:TGD)(tt:TBD)(te:TD)(rho:Rho)(P:D->Nat->Prop)(items:List D)(n1:Nat):Prop:=items.length<=sizeLine/\∃J:Nat->List D->Nat->Prop,J 0 [] n1 /\
 (∀i d acc n,items[i]?=some d->J i acc n->g d (replicate own none++rho) λrho'=>rho'.drop own=rho/\tt rho' n λc W=>if c=true then te rho' W λe Y=>J (i+1) (acc++[e]) Y else J (i+1) acc W) /\
 ∀acc n,J items.length acc n->P (.lst acc) n
@[simp] theorem xz3{it own g tt te rho n P}:zm8 it own g tt te rho n P=it rho n (zB0 own g tt te rho P):=rfl
def xk6(g:TGD)(tb:TSD)(F:EndsD)(rho:Rho)(items:List D)(W:Nat):Prop:=∃J:Nat->Rho->Nat->Prop,J 0 rho W /\
 (∀i d rho n,items[i]?=some d->J i rho n->g d rho λrho'=>tb { F with nx:=J (i+1),ct:=J (i+1),bk:=F.nx } rho' n)/\∀rho n,J items.length rho n->F.nx rho n
@[simp] theorem xF5{it g tb F rho n}:xu2 it g tb F rho n=it rho n (xk6 g tb F rho):=rfl
def zN7{it:TID}{own:Nat}{g:TGD}{te:TD}{rho:Rho}{n:Nat}{P:D->Nat->Prop}{α:Type}(enc:α->D)(f:α->D)(xs:List α)
  (hi:∀R,R (xs.map enc) n->it rho n R) (hz:xs.length<=sizeLine) (he:∀x∈xs,∀Q,Q (f x) n->g (enc x) (replicate own none++rho) λrho'=>rho'.drop own=rho/\te rho' n Q) (Y:P (.lst (xs.map f)) n):zm8 it own g xo4 te rho n P:=by
 refine hi _ ⟨by simpa using hz,λi acc n'=>n'=n/\acc=(xs.take i).map f,⟨rfl,rfl⟩,?_,?_⟩
 ·rintro i d acc n' e ⟨rfl, rfl⟩;rw[zy] at e
  cases q:xs[i]? with
  |none=>rw[q] at e;cases e
  |some x=>
   rw[q] at e;cases e;have W:x∈xs:=zV q;refine he x W (λe J=>J=n'/\(xs.take i).map f++[e]=(xs.take (i+1)).map f) ⟨rfl,?_⟩;rw[xE,q];simp
 ·rintro acc n' ⟨rfl,rfl⟩;rw[zf,wW];exact Y
def zC3{α:Type}{xs:List α}{i:Int}(h0:0<=i)(h1:i<xs.length):∃d,atI xs i=some d/\d∈xs:=by
 obtain⟨k,rfl⟩:=xT h0
 have hk:k<xs.length:=q5
 exact⟨xs[k],qM (by simp[hk]),wZ hk⟩
@[simp] theorem xO5{α:Type}{a:α}{l:List α}:atI (a::l) 0=some a:=qM (j:=0) rfl
@[simp] theorem xO4{α:Type}{a b:α}{l:List α}:atI (a::b::l) 1=some b:=qM (j:=1) rfl
@[simp] theorem xO3{α:Type}{a b c:α}{l:List α}:atI (a::b::c::l) 2=some c:=qM (j:=2) rfl
@[simp] theorem xx3{es p}:zt4 (some (some (.own es))) p↔p es:=⟨fun⟨_,e,h⟩=>by cases e;exact h,λh=>⟨_,rfl,h⟩⟩
@[simp] theorem xr8{i tb rho n P}:zS4 i tb rho n P=zt4 rho[i]? λes=>tb rho n λd J=>∃j c,d=.int j/\atI es j=some c/\P c J:=rfl
@[simp] theorem xG0:ixN 3 0=some 0:=rfl
@[simp] theorem xF9:ixN 3 1=some 1:=rfl
@[simp] theorem xF8:ixN 3 2=some 2:=rfl
def zO1(H:Hp):Prop:=∀b,H b=none\/(∃o xs,H b=some (.frz o (.lst xs)))\/∃q,H b=some (.cot q)
def Kr(K:Qq5):Sp:=λvs H Q _=>∃(a:Addr) (ns:Qq4),vs=[.ref a]/\zO1 H/\SqL K H a (ns.map V.int)/\ns.length<=63/\(∀P q,qN K P q->H P=some (.cot q))/\∀H',(∀P q,H P=some (.cot q)->H' P=some (.cot q))->Q (.bl true) H'
def wI(ns:Qq4):D:=.fz (ns.map D.int)
def kF(ns:Qq4)(N:Nat):Rho:=some (wI ns)::replicate (N-1) none
def Ww(ns:Qq4)(i N:Nat):Rho:=(kF ns N).set i (some .st)
theorem jU{K:Qq5}{G:QqE}{Z:QqA}{H:Hp}:∀{ns:Qq4},Reps K G Z H (ns.map D.int) (ns.map V.int)
 |[]=>.nil
 |n::ns=>.cons (Rep.ofS (d:=.int n) rfl) jU
theorem ju{K:Qq5}{G:QqE}{Z:QqA}{H:Hp}:∀{ns:Qq4}{xs:List V},Reps K G Z H (ns.map D.int) xs->xs=ns.map V.int
 |[],xs,h=>by unfold Reps at h;exact h
 |n::ns,xs,h=>by
  obtain⟨v,r,rfl,h1,h2⟩:=Reps.split h;rw[h1.int_inv,ju h2];rfl
section
variable {P:Qq3}{w:Qqa}{K:Qq5}{mg:QqM}{base:Heap}
def Fun.okLaw{x J:Str}{st:Stmt}{f:Addr}{fd:Qqb}{N:Qq2}{p:Str}{k:Nat}{t:TSD}(F:Fun K x J st f fd)(S:FnScope N [p] (xm st))(n0:Nat)
  (body : ∀ (W : Value) (Y : Around) (outer : List Env) (s : Shared) (H : Hp) (E : XK), Room k (Y.deeper (envOfC J (xm st) s.heap.objs.size f W)) ->
   Ql ⟨K,none,λ_=>False,H⟩ (zD5 CX0 P w K mg base N J (xm st) f W Y outer s H E).nox (ku st) t)
  (h1:∀(ns:Qq4),ns.length<=63->t { nx:=λ_ _=>False,rt:=λd _=>d=.bl true } (startD N [wI ns]) n0):FnOk P w K mg base CX0 (k+1) f fd [p] (Kr K):=by
 exists (by
   refine F.ok S (λvs H Q E h=>?_) (λW Y outer s H vs Q E hr h=>?_)
   ·obtain⟨a,ns,rfl,_⟩:=h;rfl
   ·obtain ⟨a, ns, rfl, hO, hS, hl, hT, k⟩ := h;refine⟨_,body W Y outer s H E hr,?_⟩
    have rs:Reps K none (λ_=>False) H [wI ns] [.ref a]:=by
     refine .cons ?_ .nil;unfold wI Rep;refine⟨a,ns.map V.int,rfl,?_,jU⟩
     rcases hS with (q |⟨o,q⟩) |q
     ·rcases hO a with z | ⟨o, xs, z⟩ | ⟨o, z⟩
      ·rw[z] at q;cases q
      ·rw[z] at q;cases q
      ·rw[z] at q;cases q
     ·exact .inl ⟨λz=>z,o,q⟩
     ·exact .inr (.inr q)
    refine⟨startD N [wI ns],n0,_,[],[],⟨[],Zm rs (λb e=>by cases e) (λb e=>by cases e) ⟨λb e=>e.elim,λP q t=>⟨hT P q t,by simp⟩⟩⟩,h1 ns hl,?_⟩
    refine⟨λ_ _ _ _ _ q=>q.elim,λd n v aa sg2 H2 ⟨ac,I2⟩ q=>?_,λ_ _ _ _ _ q=>q.elim,λ_ _ _ _ _ q=>q.elim⟩;subst q;rw[I2.pop.2.bl_inv]
    exact k H2 λP q e=>I2.fr P _ (by simp) e)
end
def xD9(i:Nat)(t:TF)(t1:TAD)(t2:TSD):TSD:=λF rho n=>∃ns:List Int,i<rho.length/\i≠0/\rho[0]?=some (some (wI ns))/\t1 rho n λes W=>∃j:Int,es=[wI ns,.int j]/\W=n/\t es n λd Y=>∃J:List Int,d=.lst (J.map D.int)/\J.length=n/\(∀x∈J,0<=x)/\(∀x,J[1]?=some x->x<2147483647) /\
 t2 { nx:=λrho' n'=>n'=n/\rho'.length=rho.length/\rho'[0]?=some (some (wI ns))/\F.nx (kF ns rho.length) n,rt:=λd n'=>n'=n/\qD d=true/\F.rt d n,bk:=λrho' n'=>n'=n/\rho'.length=rho.length/\rho'[0]?=some (some (wI ns))/\F.bk (kF ns rho.length) n,ct:=λrho' n'=>n'=n/\rho'.length=rho.length/\rho'[0]?=some (some (wI ns))/\F.ct (kF ns rho.length) n } (Ww ns i rho.length) n
@[simp] theorem xd4:wj (wI ns)=true:=rfl
@[simp] theorem zV1:zL8 [wI ns] k↔k (.int ns.length):=by unfold wI;simp
def Ji{i:Nat}{n:Nat}(ns:Qq4)(hi:i<rho.length)(h0:i≠0)(hr:rho[0]?=some (some (wI ns)))(j:Int)(ht:t1 rho n λes J=>es=[wI ns,.int j]/\J=n)
  (Y:∀(P P':List D->Nat->Prop),(∀es J,P es J->P' es J)->t1 rho n P->t1 rho n P')
  (h : t [wI ns, .int j] n λd n2 => ∃ W : List Int, d = .lst (W.map D.int) /\ W.length = n /\ (∀ x ∈ W, 0 <= x) /\ (∀ x, W[1]? = some x -> x < 2147483647) /\
   t2 { nx:=λrho' n'=>n'=n/\rho'.length=rho.length/\rho'[0]?=some (some (wI ns))/\F.nx (kF ns rho.length) n,rt:=λd n'=>n'=n/\qD d=true/\F.rt d n,bk:=λrho' n'=>n'=n/\rho'.length=rho.length/\rho'[0]?=some (some (wI ns))/\F.bk (kF ns rho.length) n,ct:=λrho' n'=>n'=n/\rho'.length=rho.length/\rho'[0]?=some (some (wI ns))/\F.ct (kF ns rho.length) n } (Ww ns i rho.length) n):xD9 i t t1 t2 F rho n:=
 ⟨ns,hi,h0,hr,Y _ _ (λes J ⟨e1,e2⟩=>⟨j,e1,e2,by rw[e1];exact h⟩) ht⟩
section
variable {A:AC}{X:Cx}{e:Expr}{es:Qq9}{t1:TAD}{t2:TSD}{pos p:Pos}
def YW{K:Qq5}{G G':QqE}{Z Z':QqA}{H H':Hp}{ns:Qq4}{v:V}(h:Rep K G Z H (wI ns) v)(hz:∀a o u,¬ Z a->H a=some (.frz o u)->¬ Z' a/\H' a=some (.frz o u)):Rep K G' Z' H' (wI ns) v:=by
 unfold wI Rep at h ⊢;obtain⟨a,xs,rfl,sq,rs⟩:=h
 refine⟨a,xs,rfl,?_,by rw[ju rs];exact jU⟩
 rcases sq with ⟨J,o,e⟩ |sq
 ·obtain⟨z1,z2⟩:=hz a o _ J e;exact .inl ⟨z1,o,z2⟩
 ·exact .inr sq
def ze2{x g:Str}{i:Nat}{t:TF}{kk:Nat}{pos' spos:Pos}{rest:List Stmt}(hG:A.G=none)(hN:X.N.Nodup)(hi:X.N[i]?=some x)(hx:Loc X.env.scope x)(F:Fn X.prog X.w X.K X.mg X.base g kk 2 t)(hr:Room kk X.A)(hK:X.K=A.K)
  (ha:PAD A X (e::es) t1) (h2:∀(c:Addr) (Z:QqA) (H0:Hp),Ql ⟨A.K,some c,Z,H0⟩ X rest t2) (hg:Gl X g:=by rfl) (ap:(g == ("__debug__" : Str))=false:=by decide) (he:starEach (e::es) X.env=(false,eval e X.env)::starEach es X.env:=by rfl) (aj:(backTo pos (starEach es X.env)).any (·.1)=false:=by rfl)
  (hs:swapsWith (.Call (.Name g p) (e::es) [] pos) (some (.Name x pos')) spos.line X.env=pure false:=by rfl) (hf:X.fn x=true\/X.env.scope.names.lookup x=some .local:=by first |exact .inl rfl |exact .inr rfl |assumption) :
  Ql A X (.Assign [.Name x pos'] (.Call (.Name g p) (e::es) [] pos) spos::rest) (xD9 i t t1 t2):=by
 exists (by
   obtain⟨f,fd,ps,f1,f2,f3,f4⟩:=F.ex;have c1:=ze3 (pos:=spos) hN hi hx (UB (p:=p) f1 hr hg f2 f3 f4 .nil zI3 ha ap he aj) hs hf
   have c2:PSs X rest (λE' sg' H'=>∃c Z H0,sOf ⟨A.K,some c,Z,H0⟩ t2 E' sg' H'):=λpins s' sg' H' D I q=>by
    obtain⟨c,Z,H0,q⟩:=q;exact h2 c Z H0 pins s' sg' H' D I q
   refine(Uv c1 c2).imp λE sg H h=>?_;obtain⟨rho,n,F,ds,vs,I,⟨ns,hi',h0,ai,ht⟩,ok⟩:=h;refine⟨rho,n,_,ds,vs,I,ht,λws H' n' es' ⟨os',J⟩ hl k=>?_⟩;obtain⟨j,rfl,rfl,k⟩:=k;obtain⟨J1,rs⟩:=J.split hl;obtain⟨v1,v2,rfl,r1,r2⟩:=KH rs;have r1':Rep A.K none (λa=>Hot (H' a)/\¬ ∃o u,H' a=some (.frz o u)) H' (wI ns) v1:=YW r1 λa o u _ e=>⟨λz=>z.2 ⟨o,u,e⟩,e⟩
   have r2':Rep A.K none (λa=>Hot (H' a)/\¬ ∃o u,H' a=some (.frz o u)) H' (.int j) v2:=by rw[r2.int_inv];exact Rep.ofS (d:=.int j) rfl
   rw[wv,hK]
   refine⟨none,λa=>Hot (H' a)/\¬ ∃o u,H' a=some (.frz o u),n',_,_,rfl,.cons r1' (.cons r2' .nil),λb e=>(by cases e),λb e=>(by cases e),⟨λb z=>z.1,λP q t=>⟨(J1.zO.2 P q t).1,by simp⟩⟩,k,λv H2 n2 d fr st r q=>?_⟩
   obtain⟨zs,rfl,q1,q2,q3,q⟩:=q;obtain⟨c,xs,rfl,sq,rr⟩:=r.lst_inv;rw[ju rr] at sq
   have hc:H' c=none:=by
    cases z:H' c with
    |none=>rfl
    |some o=>
     have z2:=fr c o (by simp) z
     rw[sq.2] at z2;cases z2
     exact absurd ⟨by rw[z];exact Hot.lst,fun⟨o,u,z3⟩=>by rw[z] at z3;cases z3⟩ sq.1
   have ne:∀{a:Addr}{o:HO},H' a=some o->a≠c:=λ{a o} e h=>by rw[h,hc] at e;cases e
   have back:∀{os:List (Nat × Addr)}{rho' Y:Rho}{sg':St}{H3:Hp}{ae:List D}{aa:List V},AmO ⟨A.K,some c,λb=>Zof A os' b\/b=c,H2⟩ os n' rho' sg' H3 ae aa->Y.length=sg'.length->(∀j d,Y[j]?=some (some d)->∃v,sg'[j]?=some (some v)/\Rep A.K A.G (Zof A []) H3 d v)->AmO A [] n' Y sg' H3 ds vs:=λ{os rho' Y sg' H3 ae aa} W am ah=>by
    have keep:∀a o,H' a=some o->H3 a=some o:=λa o e=>W.fr a o (λz=>ne e (zD z).symm) (fr a o (by simp) e)
    refine⟨am,λj d e=>?_,?_,.nil,λp hp=>(by simp at hp),λb e=>(by rw[hG] at e;cases e),J1.gz,λa o z e=>keep a o (J1.fr a o z e),J1.z0⟩
    ·obtain⟨v,e1,e2⟩:=ah j d e;exact⟨v,e1,SlotR.of e2⟩
    ·refine Reps.mono (λa _ z => ?_) (λa o _ e => keep a o e) _ _ J1.pend
     rcases z with z |⟨p,hp,_⟩
     ·exact .inl z
     ·simp at hp
   have af:∀{os:List (Nat × Addr)}{rho':Rho}{sg':St}{H3:Hp}{ae:List D}{aa:List V},AmO ⟨A.K,some c,λb=>Zof A os' b\/b=c,H2⟩ os n' rho' sg' H3 ae aa->rho'[0]?=some (some (wI ns))->rho.length=sg'.length->AmO A [] n' (kF ns rho.length) sg' H3 ds vs:=λ{os rho' sg' H3 ae aa} W e0 ak=>by
    refine back W (by rw[<- ak];simp[kF];lia) λj d e=>?_
    unfold kF at e
    cases j with
    |zero=>
     cases e;obtain⟨v,e1,e2⟩:=W.slot 0 _ e0;have e3:=SlotR.rep (d:=wI ns) rfl e2;refine⟨v,e1,YW e3 λa o u nz e=>⟨λz=>nz ?_,e⟩⟩
     rcases z with z |⟨p,hp,_⟩
     ·exact .inl (.inl (.inl z))
     ·simp at hp
    |succ j=>
     rw[List.getElem?_cons_succ,xS] at e
     split at e<;>cases e
   have ao:rho.length=sg.length:=J1.len;refine⟨c,λb=>Zof A os' b\/b=c,H2,Ww ns i rho.length,n',_,[],[],⟨[],?_⟩,q,?_⟩
   ·refine ⟨by simp [Ww, kF, ao]; lia, λj d e => ?_, .nil, .nil, λp hp => by simp at hp, λb e => ?_, λb e => ?_, λb o _ e => e, ?_⟩
    ·unfold Ww at e
     by_cases hj:j=i
     ·subst hj
      rw[xg (by simp[kF];lia)] at e
      cases e
      exact⟨.ref c,xg q5,SlotR.of (by unfold Rep;exact⟨c,rfl,rfl⟩)⟩
     ·rw [xq (Ne.symm hj)] at e;unfold kF at e
      cases j with
      |zero=>
       cases e;obtain⟨v,e1,e2⟩:=J1.slot 0 _ ai;have e3:=SlotR.rep (d:=wI ns) rfl e2
       refine⟨v,by rw[xq h0];exact e1,SlotR.of (YW e3 λa o u nz e=>⟨λz=>?_,fr a _ (by simp) e⟩)⟩
       rcases z with (z |z) |⟨p,hp,_⟩
       ·exact nz z
       ·exact ne e z
       ·simp at hp
      |succ j=>
       rw[List.getElem?_cons_succ,xS] at e
       split at e<;>cases e
    ·cases e;exact⟨zs,0,0,sq.2,q1,q2,q3⟩
    ·exact .inr (zD e).symm
    ·refine ⟨λb e => ?_, λP q t => ⟨fr P _ (by simp) (J1.zO.2 P q t).1, λz => ne (J1.zO.2 P q t).1 (zD z).symm⟩⟩
     rcases e with e |e
     ·exact(J1.zHot b e).of λo z=>fr b o (by simp) z
     ·show Hot (H2 b);rw[e,sq.2];exact Hot.lst
   ·refine ⟨λad n3 ac H3 ⟨ag, W⟩ q => ?_, λd n3 v ad ac H3 ⟨ag, W⟩ q => ?_, λad n3 ac H3 ⟨ag, W⟩ q => ?_, λad n3 ac H3 ⟨ag, W⟩ q => ?_⟩
    ·obtain ⟨rfl, l3, e3, q⟩ := q
     exact ok.nx _ _ _ _ ⟨[],af W e3 (by rw[<- l3];exact W.len)⟩ q
    ·obtain ⟨rfl, hd, q⟩ := q
     have I4:AmO A [] n3 (replicate ac.length none) ac H3 ds vs:=back W (by simp) λj d e=>by
      rw[xS] at e
      split at e<;>cases e
     refine ok.rt _ _ _ _ _ _ ⟨[],I4.push ?_⟩ q;rw[W.pop.2.toS hd];exact Rep.ofS hd
    ·obtain ⟨rfl, l3, e3, q⟩ := q
     exact ok.bk _ _ _ _ ⟨[],af W e3 (by rw[<- l3];exact W.len)⟩ q
    ·obtain ⟨rfl, l3, e3, q⟩ := q
     exact ok.ct _ _ _ _ ⟨[],af W e3 (by rw[<- l3];exact W.len)⟩ q)
end
end L2
namespace L2
open PySem PySem.Spec PyProof.Rows PySem.SeqAt
mutual
def eqD:D->D->Bool
 |.non,.non=>true
 |.bl a,.bl b=>a == b
 |.bl a,.int i=>(if a then 1 else 0) == i
 |.int i,.bl a=>i == (if a then 1 else 0)
 |.int i,.int j=>i == j
 |.str x,.str y=>x == y
 |.tup xs,.tup ys=>Xl xs ys
 |.lst xs,.lst ys=>Xl xs ys
 |_,_=>false
def Xl:List D->List D->Bool
 |[],[]=>true
 |x::xs,y::ys=>eqD x y&&Xl xs ys
 |_,_=>false
end
mutual
def okE:D->Nat->Bool
 |.non,_=>true
 |.bl _,_=>true
 |.int _,_=>true
 |.str _,_=>true
 |.tup ds,k=>match k with
  |0=>false
  |k+1=>Je ds k
 |.lst ds,k=>match k with
  |0=>false
  |k+1=>Je ds k
 |_,_=>false
def Je:List D->Nat->Bool
 |[],_=>true
 |d::ds,k=>okE d k&&Je ds k
end
theorem YD:∀{ds:List D}{k i:Nat}{d:D},Je ds k=true->ds[i]?=some d->okE d k=true
 |[],k,i,d,_,e=>by simp at e
 |c::ds,k,0,d,h,e=>by
  simp at e;subst e;unfold Je at h;rw[zW] at h;exact h.1
 |c::ds,k,i+1,d,h,e=>by
  unfold Je at h;rw[zW] at h
  exact YD (i:=i) h.2 (by simpa using e)
noncomputable def eAt(xs ys:List D)(j:Nat):Bool:=match xs[j]?,ys[j]? with
 |some x,some y=>eqD x y
 |_,_=>true
def WX(n:Nat)(e:Nat->Bool):(List.range (n+1)).all e=(e 0&&(List.range n).all λj=>e (j+1)):=by
 rw[List.range_succ_eq_map,List.all_cons,List.all_map];rfl
theorem XU:∀(xs ys:List D),((List.range (min xs.length ys.length)).all (eAt xs ys)&&xs.length == ys.length)=Xl xs ys
 |[],[]=>by unfold Xl;rfl
 |[],y::ys=>by unfold Xl;simp
 |x::xs,[]=>by unfold Xl;simp
 |x::xs,y::ys=>by
  have J:=XU xs ys;unfold Xl;rw[<- J]
  have Y:min (x::xs).length (y::ys).length=min xs.length ys.length+1:=by simp only[zP];lia
  rw[Y,WX]
  have W:((x::xs).length == (y::ys).length)=(xs.length == ys.length):=by simp
  rw[W,Bool.and_assoc];rfl
def JE(h:xs.length=ys.length):(List.range xs.length).all (eAt xs ys)=Xl xs ys:=by
 rw[<- XU,h];simp
def zM7(h:xs.length≠ys.length):Xl xs ys=false:=by
 rw[<- XU];simp[h]
theorem zz0:∀{xs ys:List D},xs.length=ys.length->(∀(j:Nat) (x y:D),xs[j]?=some x->ys[j]?=some y->eqD x y=true)->Xl xs ys=true
 |[],[],_,_=>by unfold Xl;rfl
 |[],y::ys,h,_=>by simp at h
 |x::xs,[],h,_=>by simp at h
 |x::xs,y::ys,h,q=>by
  unfold Xl
  rw[q 0 x y rfl rfl,zz0 (by simpa using h) λj a b ha J=>q (j+1) a b (by simpa using ha) (by simpa using J)]
  rfl
def Reps.get2{K:Qq5}{G:QqE}{Z:QqA}{H:Hp}{ds:List D}{vs:List V}{i:Nat}{d:D}{v:V}(h:Reps K G Z H ds vs)(e:ds[i]?=some d)(e':vs[i]?=some v):Rep K G Z H d v:=by
 obtain⟨u,h1,h2⟩:=h.get e;rw[h1] at e';cases e';exact h2
section
variable {X:Cx}{pins:QqL}{σ:St}{H:Hp}{s:Qq1}{G:QqE}{Z:QqA}
def zd8(I:Inv X pins σ H s):∀(k:Nat) (d1 d2:D) (v:V),okE d1 k=true->okE d2 k=true->Rep X.K G Z H d1 v->Rep X.K G Z H d2 v->eqD d1 d2=true:=by
 intro k
 induction k with
 | zero =>
  intro d1 d2 v h1 h2 Y W
  cases d1<;>cases d2<;>first
   |(simp[okE] at h1;done) |(simp[okE] at h2;done)
   |(have e1:=Y.toS rfl;have J:=W.toS rfl;rw[e1] at J;simp[ofS] at J;done)
   |(have e1:=Y.toS rfl;have J:=W.toS rfl;rw[e1] at J;simp[ofS] at J;simp[eqD,J])
 | succ k ih =>
  have seq:∀{ds es:List D}{xs:List V},Je ds k=true->Je es k=true->Reps X.K G Z H ds xs->Reps X.K G Z H es xs->Xl ds es=true:=λ{ds es xs} h1 h2 Y W=>by
   refine zz0 (Y.length.symm.trans W.length) λj x y hx hy=>?_;obtain⟨u,hu,ru⟩:=Y.get hx;exact ih x y u (YD h1 hx) (YD h2 hy) ru (W.get2 hy hu)
  intro d1 d2 v h1 h2 Y W
  cases d1<;>cases d2<;>try (first
   |(simp[okE] at h1;done) |(simp[okE] at h2;done)
   |(have e1:=Y.toS rfl;have J:=W.toS rfl;rw[e1] at J;simp[ofS] at J;done)
   |(have e1:=Y.toS rfl;have J:=W.toS rfl;rw[e1] at J;simp[ofS] at J;simp[eqD,J];done)
   |(obtain⟨a,xs,e,_⟩:=Y.tup_inv;have J:=W.toS rfl;rw[e] at J;simp[ofS] at J;done)
   |(obtain⟨a,xs,e,_⟩:=Y.lst_inv;have J:=W.toS rfl;rw[e] at J;simp[ofS] at J;done)
   |(obtain⟨a,xs,e,_⟩:=W.tup_inv;have J:=Y.toS rfl;rw[e] at J;simp[ofS] at J;done)
   |(obtain⟨a,xs,e,_⟩:=W.lst_inv;have J:=Y.toS rfl;rw[e] at J;simp[ofS] at J;done))
  ·rename_i ds es;obtain⟨a,xs,e,sq,rs⟩:=Y.tup_inv;obtain⟨b,ys,e',sq',rs'⟩:=W.tup_inv;rw[e] at e';cases e';have:=I.tuple_inj sq.sq sq'.sq;subst this;unfold eqD
   exact seq (by simpa [okE] using h1) (by simpa [okE] using h2) rs rs'
  ·rename_i ds es;obtain⟨a,xs,e,sq,rs⟩:=Y.tup_inv;obtain⟨b,ys,e',sq',rs'⟩:=W.lst_inv;rw[e] at e';cases e';obtain⟨its,rv,pl,hz⟩:=I.tuple sq.sq;obtain⟨its',rv',pl',hz'⟩:=I.list sq'.sq;exact absurd rfl (ne_of_list_tuple pl'.isList (show s.heap.IsTuple a its.toArray from pl))
  ·rename_i ds es;obtain⟨a,xs,e,sq,rs⟩:=Y.lst_inv;obtain⟨b,ys,e',sq',rs'⟩:=W.tup_inv;rw[e] at e';cases e';obtain⟨its,rv,pl,hz⟩:=I.list sq.sq;obtain⟨its',rv',pl',hz'⟩:=I.tuple sq'.sq;exact absurd rfl (ne_of_list_tuple pl.isList (show s.heap.IsTuple a its'.toArray from pl'))
  ·rename_i ds es;obtain⟨a,xs,e,sq,rs⟩:=Y.lst_inv;obtain⟨b,ys,e',sq',rs'⟩:=W.lst_inv;rw[e] at e';cases e';have:=I.list_inj sq.sq sq'.sq;subst this;unfold eqD
   exact seq (by simpa [okE] using h1) (by simpa [okE] using h2) rs rs'
def rcC{b c:Bool}(h:RcAt A s y x b)(e:b=c):RcAt A s y x c:=e ▸ h
def rnC{b c:Bool}(h:RcNeAt A s y x b)(e:b=c):RcNeAt A s y x c:=e ▸ h
def eqC{b c:Bool}(h:EqAt A s y x b)(e:b=c):EqAt A s y x c:=e ▸ h
def E3(A:Around)(s:Qq1)(u1 u2:Value)(b:Bool):Prop:=EqAt A s u1 u2 b/\RcAt A s u1 u2 b/\RcNeAt A s u1 u2 (!b)
def E3.cast{b c:Bool}(h:E3 A s y x b)(e:b=c):E3 A s y x c:=e ▸ h
def zC1:D->D->Bool
 |.tup _,.tup _=>true
 |.lst _,.lst _=>true
 |_,_=>false
def ShE(s:Qq1):D->Value->Prop
 |.non,u=>u=.none
 |.bl x,u=>u=.bool x
 |.int x,u=>∃t,u=.int x t
 |.str x,u=>∃t,u=.str x t
 |.tup _,u=>∃a its,u=.ref a/\s.heap.IsTuple a its
 |.lst _,u=>∃a its,u=.ref a/\s.heap.IsList a its
 |_,_=>False
def shE(I:Inv X pins σ H s){k:Nat}{d:D}{v:V}{u:Value}(h:okE d k=true)(r:Rep X.K G Z H d v)(q:RelV v u):ShE s d u:=by
 cases d with
 |non=>have:=r.toS rfl;subst this;exact q
 |bl x=>have:=r.toS rfl;subst this;exact q
 |int x=>have:=r.toS rfl;subst this;exact q
 |str x=>have:=r.toS rfl;subst this;exact q
 |tup x=>
  obtain⟨a,xs,w,sq,_⟩:=r.tup_inv;subst w;obtain⟨its,_,pl,_⟩:=I.tuple sq.sq;exact⟨a,its.toArray,q,pl⟩
 |lst x=>
  obtain⟨a,xs,w,sq,_⟩:=r.lst_inv;subst w;obtain⟨its,_,pl,_⟩:=I.list sq.sq;exact⟨a,its.toArray,q,pl.isList⟩
 |_=>simp[okE] at h
section
local macro_rules
 | `(tactic|nomatch $n:ident,$t,*)=>do
  let f:=fun(p:Lean.Name)=>Lean.mkIdent (p++n.getId)
  let t:=t.getElems
  `(tactic|exact E3.cast ⟨$(f `EqAt) $t*,$(f `RcAt) $t*,$(f `RcNeAt) $t*⟩ (by unfold eqD;rfl))
def zS0(I:Inv X pins σ H s){k:Nat}(h1:okE d1 k=true)(h2:okE d2 k=true)(r1:Rep X.K G Z H d1 v1)(r2:Rep X.K G Z H d2 v2)(q1:RelV v1 u1)(q2:RelV v2 u2)
  (hu:A.units<cLine) (hb:zC1 d1 d2=false):E3 A s u1 u2 (eqD d1 d2):=by
 have Y:=shE I h1 r1 q1;have J:=shE I h2 r2 q2;clear h1 h2 r1 r2 q1 q2
 cases d1 with
 |non=>
  cases Y
  cases d2 with
  |non=>cases J;exact E3.cast ⟨EqAt.same _,RcAt.none_none,RcNeAt.none_none⟩ (by unfold eqD;rfl)
  |bl=>cases J;nomatch none_bool,_
  |int=>obtain⟨_,rfl⟩:=J;nomatch none_int,_,_
  |str=>obtain⟨_,rfl⟩:=J;nomatch none_str,_,_
  |tup=>obtain⟨_,_,rfl,L⟩:=J;nomatch none_tuple,L,hu
  |lst=>obtain⟨_,_,rfl,L⟩:=J;nomatch none_list,L,hu
  |_=>exact J.elim
 |bl x1=>
  cases Y
  cases d2 with
  |non=>cases J;nomatch bool_none,_
  |bl=>cases J;nomatch bool_bool,_,_
  |int=>obtain⟨_,rfl⟩:=J;nomatch bool_int,_,_,_
  |str=>obtain⟨_,rfl⟩:=J;nomatch bool_str,_,_,_
  |tup=>obtain⟨_,_,rfl,L⟩:=J;nomatch bool_tuple,_,L,hu
  |lst=>obtain⟨_,_,rfl,L⟩:=J;nomatch bool_list,_,L,hu
  |_=>exact J.elim
 |int x1=>
  obtain⟨t1,rfl⟩:=Y
  cases d2 with
  |non=>cases J;nomatch int_none,_,_
  |bl=>cases J;nomatch int_bool,_,_,_
  |int=>obtain⟨_,rfl⟩:=J;nomatch int_int,_,_,_,_
  |str=>obtain⟨_,rfl⟩:=J;nomatch int_str,_,_,_,_
  |tup=>obtain⟨_,_,rfl,L⟩:=J;nomatch int_tuple,_,_,L,hu
  |lst=>obtain⟨_,_,rfl,L⟩:=J;nomatch int_list,_,_,L,hu
  |_=>exact J.elim
 |str x1=>
  obtain⟨t1,rfl⟩:=Y
  cases d2 with
  |non=>cases J;nomatch str_none,_,_
  |bl=>cases J;nomatch str_bool,_,_,_
  |int=>obtain⟨_,rfl⟩:=J;nomatch str_int,_,_,_,_
  |str=>obtain⟨_,rfl⟩:=J;nomatch str_str,_,_,_,_
  |tup=>obtain⟨_,_,rfl,L⟩:=J;nomatch str_tuple,_,_,L,hu
  |lst=>obtain⟨_,_,rfl,L⟩:=J;nomatch str_list,_,_,L,hu
  |_=>exact J.elim
 |tup x1=>
  obtain⟨a1,i1,rfl,W⟩:=Y
  cases d2 with
  |non=>cases J;nomatch tuple_none,W,hu
  |bl=>cases J;nomatch tuple_bool,_,W,hu
  |int=>obtain⟨_,rfl⟩:=J;nomatch tuple_int,_,_,W,hu
  |str=>obtain⟨_,rfl⟩:=J;nomatch tuple_str,_,_,W,hu
  |tup=>cases hb
  |lst=>obtain⟨_,_,rfl,L⟩:=J;nomatch tuple_list,W,L,hu
  |_=>exact J.elim
 |lst x1=>
  obtain⟨a1,i1,rfl,W⟩:=Y
  cases d2 with
  |non=>cases J;nomatch list_none,W,hu
  |bl=>cases J;nomatch list_bool,_,W,hu
  |int=>obtain⟨_,rfl⟩:=J;nomatch list_int,_,_,W,hu
  |str=>obtain⟨_,rfl⟩:=J;nomatch list_str,_,_,W,hu
  |tup=>obtain⟨_,_,rfl,L⟩:=J;nomatch list_tuple,W,L,hu
  |lst=>cases hb
  |_=>exact J.elim
 |_=>exact Y.elim
end
def zy9(I:Inv X pins σ H s):∀(k:Nat) (d1 d2:D) (v1 v2:V) (u1 u2:Value) (A:Around),okE d1 k=true->okE d2 k=true->Rep X.K G Z H d1 v1->Rep X.K G Z H d2 v2->RelV v1 u1->RelV v2 u2 ->
  A.units+k<cLine->E3 A s u1 u2 (eqD d1 d2):=by
 intro k
 induction k with
 |zero=>
  intro d1 d2 v1 v2 u1 u2 A h1 h2 Y W q1 q2 hu
  refine zS0 I h1 h2 Y W q1 q2 q5 ?_
  cases d1<;>first |rfl |(simp[okE] at h1;done)
 | succ k ih =>
  intro d1 d2 v1 v2 u1 u2 A h1 h2 Y W q1 q2 hu
  by_cases hb:zC1 d1 d2=false
  ·exact zS0 I h1 h2 Y W q1 q2 q5 hb
  have items:∀{ds es:List D}{xs ys:List V}{its its':QqW},Je ds k=true->Je es k=true->Reps X.K G Z H ds xs->Reps X.K G Z H es ys->Vals xs its->Vals ys its' ->
    ∀(j:Nat) (l1:j<its.toArray.size) (l2:j<its'.toArray.size),EqAt A.in1 s its.toArray[j] its'.toArray[j] (eAt ds es j):=λ{ds es xs ys its its'} h1 h2 Y W rv rv' j l1 l2=>by
   have l1':j<its.length:=by simpa using l1
   have l2':j<its'.length:=by simpa using l2
   have a1:j<ds.length:=by rw[<- Y.length,rv.length];exact l1'
   have a2:j<es.length:=by rw[<- W.length,rv'.length];exact l2'
   have g1:ds[j]?=some ds[j]:=zd a1;have g2:es[j]?=some es[j]:=zd a2;obtain⟨w1,e1,p1⟩:=Y.get g1;obtain⟨w2,e2,p2⟩:=W.get g2;obtain⟨z1,f1,t1⟩:=rv.get e1;obtain⟨z2,f2,t2⟩:=rv'.get e2
   have m1:its.toArray[j]=z1:=by
    have:its[j]?=some its[j]:=zd l1';rw[f1] at this
    simpa using (zD this).symm
   have m2:its'.toArray[j]=z2:=by
    have:its'[j]?=some its'[j]:=zd l2';rw[f2] at this
    simpa using (zD this).symm
   have e3:eAt ds es j=eqD ds[j] es[j]:=by unfold eAt;rw[g1,g2]
   rw[m1,m2,e3]
   exact(ih _ _ _ _ _ _ A.in1 (YD h1 g1) (YD h2 g2) p1 p2 t1 t2 (by show A.units+1+k<cLine;lia)).1
  cases d1 with
  | tup ds =>
   cases d2 with
   | tup es =>
    have s1:=Y;have s2:=W;obtain⟨a,xs,e,sq,rs⟩:=Y.tup_inv;obtain⟨b,ys,e',sq',rs'⟩:=W.tup_inv;subst e e';have c1:u1=.ref a:=q1;have c2:u2=.ref b:=q2;subst c1 c2;obtain⟨its,rv,pl,hz⟩:=I.tuple sq.sq;obtain⟨its',rv',pl',hz'⟩:=I.tuple sq'.sq
    have it:=items (by simpa [okE] using h1) (by simpa [okE] using h2) rs rs' rv rv'
    have n1:its.toArray.size=ds.length:=by rw[<- rs.length,rv.length];simp
    have n2:its'.toArray.size=es.length:=by rw[<- rs'.length,rv'.length];simp
    have ev:((List.range (min its.toArray.size its'.toArray.size)).all (eAt ds es)&&its.toArray.size == its'.toArray.size)=eqD (.tup ds) (.tup es):=by
     rw[n1,n2,XU];unfold eqD;rfl
    have R:=rcC (RcAt.tuples (A:=A) (show s.heap.IsTuple a its.toArray from pl) (show s.heap.IsTuple b its'.toArray from pl') q5 it) ev
    have N:=rnC (RcNeAt.tuples (A:=A) (show s.heap.IsTuple a its.toArray from pl) (show s.heap.IsTuple b its'.toArray from pl') q5 it) (congrArg (!·) ev)
    refine⟨?_,R,N⟩
    by_cases J:a=b
    ·subst J;exact eqC (EqAt.same _) (zd8 I (k+1) _ _ _ h1 h2 s1 s2).symm
    ·exact .of_refs J R
   |_=>exact absurd rfl hb
  | lst ds =>
   cases d2 with
   | lst es =>
    have s1:=Y;have s2:=W;obtain⟨a,xs,e,sq,rs⟩:=Y.lst_inv;obtain⟨b,ys,e',sq',rs'⟩:=W.lst_inv;subst e e';have c1:u1=.ref a:=q1;have c2:u2=.ref b:=q2;subst c1 c2;obtain⟨its,rv,pl,hz⟩:=I.list sq.sq;obtain⟨its',rv',pl',hz'⟩:=I.list sq'.sq
    have it:=items (by simpa [okE] using h1) (by simpa [okE] using h2) rs rs' rv rv'
    have n1:its.toArray.size=ds.length:=by rw[<- rs.length,rv.length];simp
    have n2:its'.toArray.size=es.length:=by rw[<- rs'.length,rv'.length];simp
    have R:RcAt A s (.ref a) (.ref b) (eqD (.lst ds) (.lst es))/\RcNeAt A s (.ref a) (.ref b) (!eqD (.lst ds) (.lst es)):=by
     by_cases hl:ds.length=es.length
     ·have ev : (List.range its.toArray.size).all (eAt ds es) = eqD (.lst ds) (.lst es) := by rw [n1, JE hl]; unfold eqD; rfl
      exact⟨rcC (RcAt.lists (A:=A) pl.isList pl'.isList (by rw[n1,n2,hl]) q5 it) ev,rnC (RcNeAt.lists (A:=A) pl.isList pl'.isList (by rw[n1,n2,hl]) q5 it) (congrArg (!·) ev)⟩
     ·have ev : false = eqD (.lst ds) (.lst es) := by unfold eqD; exact (zM7 hl).symm
      have hs:(its.toArray.size != its'.toArray.size)=true:=by rw[n1,n2];simpa using hl
      exact⟨rcC (RcAt.lists_lengths (A:=A) pl.isList pl'.isList hs q5) ev,rnC (RcNeAt.lists_lengths (A:=A) pl.isList pl'.isList hs q5) (congrArg (!·) ev)⟩
    refine⟨?_,R⟩
    by_cases J:a=b
    ·subst J;exact eqC (EqAt.same _) (zd8 I (k+1) _ _ _ h1 h2 s1 s2).symm
    ·exact .of_refs J R.1
   |_=>exact absurd rfl hb
  |_=>exact absurd rfl hb
def EqV(X:Cx)(H:Hp)(x y:V)(b:Bool):Prop:=∀pins s σ v u,Inv X pins σ H s->RelV x v->RelV y u->∀A:Around,A.units+60<cLine->E3 A s v u b
def xE6(X:Cx):R2:=λx y H Q=>∃b,EqV X H x y b/\Q (.bl b) H
def xE4(X:Cx):R2:=λx y H Q=>∃b,EqV X H x y b/\Q (.bl (!b)) H
def zt7{n:Nat}(Y:Room n X.A):OpR X (compareOp .Eq) (xE6 X):=by
 intro pins s σ H x y v u Q I W J h;obtain⟨b,e,q⟩:=h
 exact(e pins s σ v u I W J X.A (by have:=Y.units;lia)).2.1 X.prog X.w X.xe _ ⟨.bl b,H,I,rfl,q⟩
def xj3{n:Nat}(Y:Room n X.A):OpR X (compareOp .NotEq) (xE4 X):=by
 intro pins s σ H x y v u Q I W J h;obtain⟨b,e,q⟩:=h
 exact(e pins s σ v u I W J X.A (by have:=Y.units;lia)).2.2 X.prog X.w X.xe _ ⟨.bl (!b),H,I,rfl,q⟩
def xg3:RD2:=λd1 d2 k=>okE d1 20=true/\okE d2 20=true/\k (.bl (eqD d1 d2))
def zr0(hK:X.K=A.K):jb A (xE6 X) xg3:=by
 rintro os n rho sg H ds vs d1 d2 v1 v2 k Q I ⟨h1,h2,q⟩ hQ;obtain⟨I1,W⟩:=I.pop;obtain⟨I2,Y⟩:=I1.pop;rw[<- hK] at Y W
 exact⟨eqD d1 d2,λpins s σ v u J rx ry B hu=>zy9 J 20 d1 d2 v1 v2 v u B h1 h2 Y W rx ry q5,hQ _ H _ ⟨os,I2.push (Rep.ofS rfl)⟩ q⟩
@[simp] theorem xx0{d1 d2 k}:xg3 d1 d2 k=(okE d1 20=true/\okE d2 20=true/\k (.bl (eqD d1 d2))):=rfl
end
end L2
namespace L2
section
variable {A:AC}{X:Cx}{e a b:Expr}{es:Qq9}{te ta tb:TD}{t1:TAD}{pos p:Pos}
def zz9(i:Nat):TD:=λrho n P=>zt4 rho[i]? λes=>P (.int es.length) n
@[simp] theorem xg8{i rho n P}:zz9 i rho n P=zt4 rho[i]? λes=>P (.int es.length) n:=rfl
def KS{i:Nat}(hm:X.mg "len" = none)(hK:X.K=A.K)(hN:X.N[i]?=some x:=by rfl)(Y:Vis X.env.scope x:=by first |exact Or.inl rfl |exact Or.inr (Or.inl rfl) |exact Or.inr (Or.inr rfl))(hd:(x == ("__debug__" : Str))=false:=by decide)
  (W:(x == ("__classdict__" : Str))=false:=by decide) (hg:Gl X "len" := by rfl)
  (he:starEach [.Name x px] X.env=(false,eval (.Name x px) X.env)::starEach [] X.env:=by rfl) (J:(backTo pos (starEach [] X.env)).any (·.1)=false:=by rfl):PD A X (.Call (.Name "len" p) [.Name x px] [] pos) (zz9 i):=by
 exists 
   (UA wA hg hm kK (jv (jH hN Y hd W) Xx he) q9 q9 he J).imp λsg H Q h => by
    obtain⟨rho,n,P,ds,vs,⟨os,I⟩,⟨es,hi,k⟩,hQ⟩:=h;obtain⟨a,xs,e1,hH,rs,_⟩:=I.own (es':=es) (xs':=[]) hi
    exact⟨.ref a,e1,a,xs,rfl,.inl (SqL.of hH),by rw[rs.length];exact hQ _ H n _ ⟨os,I.push (Rep.ofS (d:=.int es.length) rfl)⟩ k⟩
def xp4(K:Qq5)(mg:QqM)(x:Str)(d:D):Prop:=∃v u,mg x=some u/\RelV v u/\∀G Z H,Rep K G Z H d v
def zW8(h:xp4 X.K X.mg x d)(hK:X.K=A.K)(Y:Gl X x:=by rfl)(hd:(x == ("__debug__" : Str))=false:=by decide):PD A X (.Name x pos) (dC d):=by
 exists (by
   obtain⟨v,u,W,r,J⟩:=h;refine(zW2 Y W r hd).imp λsg H Q q=>?_;obtain⟨rho,n,P,ds,vs,⟨os,I⟩,q,hQ⟩:=q
   exact hQ v H n d ⟨os,I.push (by rw[<- hK];exact J _ _ _)⟩ q)
def zM3{K:Qq5}{mg:QqM}{x:Str}{a:Addr}{o:Obj}{its:Qq8}{n:Nat}{ds:List D}{xs:List V}(Y:mg x=some (.ref a))(hk:K.lookup a=some o)(hc:o.cls=.type "tuple")(hd:o.data=.seq its n)(hz:its.size<=sizeLine)(J:Vals xs its.toList)
  (hs:∀G Z H,Reps K G Z H ds xs):xp4 K mg x (.tup ds):=⟨.ref a,.ref a,Y,rfl,λG Z H=>.tup_mk (.inr (.inr ⟨o,its,n,hk,hc,hd,hz,J⟩)) (hs G Z H)⟩
def FnOk.botK{P:Qq3}{w:Qqa}{K:Qq5}{mg:QqM}{base:Heap}{f:Addr}{fd:Qqb}{ps:Qq2}{k L:Nat}{t:TF}(ht:∀ds n Q,¬ t ds n Q):FnOk P w K mg base CX0 L f fd ps (spD K k t):=by
 refine⟨λvs H Q E h=>?_,λA outer s H args us vs Q E _ _ _ _ h=>?_⟩
 ·obtain⟨G,Z,n,R,ds,Y,rs,J,gz,z0,h,_⟩:=h;exact(ht _ _ _ h).elim
 ·obtain⟨G,Z,n,R,ds,Y,rs,J,gz,z0,h,_⟩:=h;exact(ht _ _ _ h).elim
end
def wK{own:Nat}{g:TGD}{te:TD}{rho:Rho}{n:Nat}{P:D->Nat->Prop}{α:Type}(enc:α->D)(f:α->D)(xs:List α)
  (hz:xs.length<=sizeLine) (he:∀x∈xs,∀Q,Q (f x) n->g (enc x) (replicate own none++rho) λrho'=>rho'.drop own=rho/\te rho' n Q) (J:P (.lst (xs.map f)) n):zB0 own g xo4 te rho P (xs.map enc) n:=
 zN7 (it:=λ_ n R=>R (xs.map enc) n) (rho:=rho) enc f xs (λR h=>h) hz he J
@[simp] theorem xw7{k}:zP2 (.str i) (.str j) k↔k (.bl (decide (i=j))):=by
 have e:decide (ofS (.str i)=ofS (.str j))=decide (i=j):=by simp[ofS]
 unfold zP2;rw[e];exact⟨λh=>h.2.2.2,λh=>⟨rfl,rfl,rfl,h⟩⟩
theorem UG:∀{ds:List D}{k:Nat},Je ds k=true↔∀d∈ds,okE d k=true
 |[],k=>by unfold Je;simp
 |c::ds,k=>by
  unfold Je;rw[zW,UG];simp
def Wq{k:Nat}:okE (.tup ds) (k+1)=true↔∀d∈ds,okE d k=true:=by
 have e:okE (.tup ds) (k+1)=Je ds k:=by rw[okE]
 rw[e,UG]
mutual
theorem UT:∀{d:D}{k:Nat},okE d k=true->eqD d d=true
 |.non,k,_=>by simp[eqD]
 |.bl b,k,_=>by simp[eqD]
 |.int b,k,_=>by simp[eqD]
 |.str b,k,_=>by simp[eqD]
 |.tup ds,0,h=>by simp[okE] at h
 |.tup ds,k+1,h=>by unfold eqD;unfold okE at h;exact WI h
 |.lst ds,0,h=>by simp[okE] at h
 |.lst ds,k+1,h=>by unfold eqD;unfold okE at h;exact WI h
 |.ty _,k,h=>by simp[okE] at h
 |.fz _,k,h=>by simp[okE] at h
 |.st,k,h=>by simp[okE] at h
 |.own _,k,h=>by simp[okE] at h
 |.owT _ _,k,h=>by simp[okE] at h
 |.prT _,k,h=>by simp[okE] at h
theorem WI:∀{ds:List D}{k:Nat},Je ds k=true->Xl ds ds=true
 |[],k,_=>by simp[Xl]
 |d::ds,k,h=>by
  unfold Je at h;rw[zW] at h;unfold Xl;rw[UT h.1,WI h.2];rfl
end
def zR2(es:List D)(k:List D->Prop):Prop:=∃d1 d2 W xs J ys,es=[d1,d2]/\Wd d1=some (W,xs)/\Wd d2=some (J,ys)/\k (Kh xs ys)
@[simp] theorem xy4{rho n P}:xm3 t rho n P↔t rho n λes J=>zR2 es λl=>P l J:=Iff.rfl
def ZD{b1 Y xs ys}(h1:Wd d1=some (b1,xs))(h2:Wd d2=some (Y,ys)):zR2 [d1,d2] k↔k (Kh xs ys):=by
 constructor
 ·rintro⟨_,_,_,_,_,_,e,W,J,h⟩;cases e;rw[h1] at W;rw[h2] at J;cases W;cases J;exact h
 ·intro h;exact⟨_,_,_,_,_,_,rfl,h1,h2,h⟩
@[simp] theorem xq6{xs ys}:zR2 [.tup xs,.tup ys] k↔k (Kh xs ys):=ZD rfl rfl
@[simp] theorem xq7{xs ys}:zR2 [.tup xs,.lst ys] k↔k (Kh xs ys):=ZD rfl rfl
@[simp] theorem xq8{xs ys}:zR2 [.lst xs,.tup ys] k↔k (Kh xs ys):=ZD rfl rfl
@[simp] theorem xq9{xs ys}:zR2 [.lst xs,.lst ys] k↔k (Kh xs ys):=ZD rfl rfl
def zy3{K:Qq5}{mg:QqM}{x:Str}{a:Addr}{Y:QqE}{n:Nat}{i j:Int}{t u:Tok}{J}(hm:mg x=some (.ref a))(hk:K.lookup a=some ⟨.type "tuple",Y,.seq #[.int i t,.int j u] n,J⟩):xp4 K mg x (.tup [.int i,.int j]):=
 zM3 (xs:=[.int i,.int j]) hm hk rfl rfl (by simp[sizeLine]) (.cons ⟨_,rfl⟩ (.cons ⟨_,rfl⟩ .nil)) λG Z H=>by
  exact .cons (.ofS (d:=.int i) rfl) (.cons (.ofS (d:=.int j) rfl) .nil)
theorem WR(f:Nat->Int)(bt:Qq6)(h:∀i j,bt i j=true↔f j<f i):∀k,argBest bt k<=k/\∀i,i<=k->f i<=f (argBest bt k)
 |0=>⟨zj _,λi hi=>by cases Nat.le_zero.mp hi;exact yR _⟩
 | k + 1 => by
  obtain⟨h1,h2⟩:=WR f bt h k;rw[argBest.eq_2]
  by_cases J:bt (k+1) (argBest bt k)=true
  ·rw [if_pos J];have hb':=(h _ _).mp J;refine⟨zj _,λi hi=>?_⟩
   by_cases e:i=k+1
   ·subst e;exact yR _
   ·have:=h2 i q5;lia
  ·rw [if_neg J];have hb':¬ f (argBest bt k)<f (k+1):=λz=>J ((h _ _).mpr z)
   refine⟨q5,λi hi=>?_⟩
   by_cases e:i=k+1
   ·subst e;lia
   ·exact h2 i q5
def Vals.ints_at{ns:Qq4}{us:QqW}(h:Vals (ns.map V.int) us){i:Nat}{v:Value}(e:us[i]?=some v):i<ns.length/\∃t,v=.int (ns[i]?.getD 0) t:=by
 have J:us.length=ns.length:=by have:=h.length;simpa using this.symm
 have hi:i<ns.length:=by rw[<- J];exact(zu.mp e).1
 refine⟨hi,?_⟩
 have W:(ns.map V.int)[i]?=some (.int ns[i]):=by rw[zy,zd hi];rfl
 obtain⟨u,hu,r⟩:=h.get W;rw[e] at hu;cases hu;obtain⟨t,rfl⟩:=r
 exact⟨t,by rw[zd hi];rfl⟩
section
variable {X:Cx}
def WO(hc:X.calm=true):qy X (.builtin "max") (λxs H Q=>∃(p:Addr) (ns:Qq4),xs=[.ref p]/\SqL X.K H p (ns.map V.int)/\0<ns.length/\∀M,M∈ns->(∀a∈ns,a<=M)->Q (.int M) H):=by
 intro pins s σ H xs us Q I r h;obtain⟨p,ns,rfl,hq,hn,q⟩:=h
 cases r with
 | cons r rr =>
  cases rr;cases r;obtain⟨its,rv,pl,_⟩:=I.list hq;have Y:=pl.isList
  have W:p<s.heap.objs.size:=by obtain⟨_,e,_⟩:=Y;exact zw e
  have hsz:its.length=ns.length:=by have:=rv.length;simpa using this.symm
  refine call_max_walk (vd Y ⟨s.heap.objs.size,[s.heap.objs.size,p],[s.heap.objs.size],its.toArray.size,_,_,λi j=>decide (ns[j]?.getD 0<ns[i]?.getD 0),rfl,
   Walks.list (A:=X.A.in1) (I.ok.hd hc) _ p (zJ W) _,⟨⟨_,zr _ rfl,rfl,rfl⟩,Y.push _⟩,λb hb=>?_,?_,λi j vi vj s' Q' E' hi hj hQ=>?_,λv h' tk hP hk=>?_⟩)
  ·simp only [zn, xb, or_false] at hb
   rcases hb with rfl |rfl
   ·simp[Heap.push]
   ·exact yt W (by simp[Heap.push])
  ·rw[zt,hsz];exact hn
  ·have hi' : its[i]? = some vi := by simpa using hi
   have hj':its[j]?=some vj:=by simpa using hj
   obtain⟨_,ti,rfl⟩:=rv.ints_at hi';obtain⟨_,tj,rfl⟩:=rv.ints_at hj';exact(PyProof.Rows.gt_int hQ:wpAny (model X.prog X.w) X.A.in1 (compareOp .Gt _ _) Q' E' s')
  ·have hP' : its[argBest (λi j => decide (ns[j]?.getD 0 < ns[i]?.getD 0)) (its.toArray.size - 1)]? = some v := by simpa using hP
   obtain⟨J,t,rfl⟩:=rv.ints_at hP'
   obtain⟨ac,aa⟩:=WR (λi=>ns[i]?.getD 0) (λi j=>decide (ns[j]?.getD 0<ns[i]?.getD 0)) (λi j=>by simp) (its.toArray.size-1)
   generalize argBest (λi j=>decide (ns[j]?.getD 0<ns[i]?.getD 0)) (its.toArray.size-1)=m at *;refine⟨.int (ns[m]?.getD 0),H,I.kept (zf3 hk),⟨_,rfl⟩,q _ ?_ λa ha=>?_⟩
   ·rw[zd J];exact wZ J
   ·obtain ⟨i, hi, rfl⟩ := List.mem_iff_getElem.mp ha
    have:=aa i (by rw[zt,hsz];lia)
    rw[zd hi] at this;exact this
def JN(hc:X.calm=true):qy X (.builtin "min") (λxs H Q=>∃(p:Addr) (ns:Qq4),xs=[.ref p]/\SqL X.K H p (ns.map V.int)/\0<ns.length/\∀M,M∈ns->(∀a∈ns,M<=a)->Q (.int M) H):=by
 intro pins s σ H xs us Q I r h;obtain⟨p,ns,rfl,hq,hn,q⟩:=h
 cases r with
 | cons r rr =>
  cases rr;cases r;obtain⟨its,rv,pl,_⟩:=I.list hq;have Y:=pl.isList
  have W:p<s.heap.objs.size:=by obtain⟨_,e,_⟩:=Y;exact zw e
  have hsz:its.length=ns.length:=by have:=rv.length;simpa using this.symm
  refine call_min_walk (vd Y ⟨s.heap.objs.size,[s.heap.objs.size,p],[s.heap.objs.size],its.toArray.size,_,_,λi j=>decide (ns[i]?.getD 0<ns[j]?.getD 0),rfl,
   Walks.list (A:=X.A.in1) (I.ok.hd hc) _ p (zJ W) _,⟨⟨_,zr _ rfl,rfl,rfl⟩,Y.push _⟩,λb hb=>?_,?_,λi j vi vj s' Q' E' hi hj hQ=>?_,λv h' tk hP hk=>?_⟩)
  ·simp only [zn, xb, or_false] at hb
   rcases hb with rfl |rfl
   ·simp[Heap.push]
   ·exact yt W (by simp[Heap.push])
  ·rw[zt,hsz];exact hn
  ·have hi' : its[i]? = some vi := by simpa using hi
   have hj':its[j]?=some vj:=by simpa using hj
   obtain⟨_,ti,rfl⟩:=rv.ints_at hi';obtain⟨_,tj,rfl⟩:=rv.ints_at hj';exact(PyProof.Rows.lt_int hQ:wpAny (model X.prog X.w) X.A.in1 (compareOp .Lt _ _) Q' E' s')
  ·have hP' : its[argBest (λi j => decide (ns[i]?.getD 0 < ns[j]?.getD 0)) (its.toArray.size - 1)]? = some v := by simpa using hP
   obtain⟨J,t,rfl⟩:=rv.ints_at hP'
   obtain⟨ac,aa⟩:=WR (λi=>- ns[i]?.getD 0) (λi j=>decide (ns[i]?.getD 0<ns[j]?.getD 0)) (λi j=>by simp) (its.toArray.size-1)
   generalize argBest (λi j=>decide (ns[i]?.getD 0<ns[j]?.getD 0)) (its.toArray.size-1)=m at *;refine⟨.int (ns[m]?.getD 0),H,I.kept (zf3 hk),⟨_,rfl⟩,q _ ?_ λa ha=>?_⟩
   ·rw[zd J];exact wZ J
   ·obtain ⟨i, hi, rfl⟩ := List.mem_iff_getElem.mp ha
    have:=aa i (by rw[zt,hsz];lia)
    rw[zd hi] at this;have e:(some ns[i]).getD 0=ns[i]:=rfl;rw[e] at this;lia
end
section
variable {A:AC}
theorem kJ{K:Qq5}{G:QqE}{Z:QqA}{H:Hp}:∀{bs:Qq4}{ws:List V},Reps K G Z H (bs.map D.int) ws->ws=bs.map V.int
 |[],ws,h=>h.nil_inv
 |b::bs,ws,h=>by
  obtain⟨v,r,rfl,q,t⟩:=h.split;rw[q.int_inv,kJ t];rfl
noncomputable def xl7:List D->(D->Prop)->Prop:=λes k=>∃i j,es=[.int i,.int j]/\k (.int (if j > i then j else i))
noncomputable def xl4:List D->(D->Prop)->Prop:=λes k=>∃i j,es=[.int i,.int j]/\k (.int (if j<i then j else i))
noncomputable def xl8:List D->(D->Prop)->Prop:=λes k=>∃ns:List Int,es=[.lst (ns.map D.int)]/\0<ns.length/\∀M,M∈ns->(∀a∈ns,a<=M)->k (.int M)
noncomputable def xl5:List D->(D->Prop)->Prop:=λes k=>∃ns:List Int,es=[.lst (ns.map D.int)]/\0<ns.length/\∀M,M∈ns->(∀a∈ns,M<=a)->k (.int M)
@[simp] theorem xx9{i j k}:xl7 [.int i,.int j] k↔k (.int (if j > i then j else i)):=⟨fun⟨_,_,e,h⟩=>by cases e;exact h,λh=>⟨_,_,rfl,h⟩⟩
@[simp] theorem xx7{i j k}:xl4 [.int i,.int j] k↔k (.int (if j<i then j else i)):=⟨fun⟨_,_,e,h⟩=>by cases e;exact h,λh=>⟨_,_,rfl,h⟩⟩
def zA8:vV A (λxs H Q=>∃i j,xs=[.int i,.int j]/\Q (.int (if j > i then j else i)) H) xl7:=by
 rintro os n rho sg H ds vs es ws k Q I rs ⟨i,j,rfl,q⟩ J;obtain⟨v,v',rfl,r,r'⟩:=KH rs
 exact⟨i,j,by rw[r.int_inv,r'.int_inv],J _ H _ ⟨os,I.push (Rep.ofS rfl)⟩ q⟩
def zA5:vV A (λxs H Q=>∃i j,xs=[.int i,.int j]/\Q (.int (if j<i then j else i)) H) xl4:=by
 rintro os n rho sg H ds vs es ws k Q I rs ⟨i,j,rfl,q⟩ J;obtain⟨v,v',rfl,r,r'⟩:=KH rs
 exact⟨i,j,by rw[r.int_inv,r'.int_inv],J _ H _ ⟨os,I.push (Rep.ofS rfl)⟩ q⟩
def za6:vV A (λxs H Q=>∃(p:Addr) (ns:Qq4),xs=[.ref p]/\SqL A.K H p (ns.map V.int)/\0<ns.length/\∀M,M∈ns->(∀a∈ns,a<=M)->Q (.int M) H) xl8:=by
 rintro os n rho sg H ds vs es ws k Q I rs ⟨ns,rfl,W,q⟩ Y;obtain⟨v,rfl,r⟩:=qz rs;obtain⟨a,xs,rfl,sq,J⟩:=r.lst_inv;have e:=kJ J;subst e;exact⟨a,ns,rfl,sq.sq,W,λM h1 h2=>Y _ H _ ⟨os,I.push (Rep.ofS rfl)⟩ (q M h1 h2)⟩
def zA6:vV A (λxs H Q=>∃(p:Addr) (ns:Qq4),xs=[.ref p]/\SqL A.K H p (ns.map V.int)/\0<ns.length/\∀M,M∈ns->(∀a∈ns,M<=a)->Q (.int M) H) xl5:=by
 rintro os n rho sg H ds vs es ws k Q I rs ⟨ns,rfl,W,q⟩ Y;obtain⟨v,rfl,r⟩:=qz rs;obtain⟨a,xs,rfl,sq,J⟩:=r.lst_inv;have e:=kJ J;subst e;exact⟨a,ns,rfl,sq.sq,W,λM h1 h2=>Y _ H _ ⟨os,I.push (Rep.ofS rfl)⟩ (q M h1 h2)⟩
def WQ:bootBuiltins "max" = some (.builtin "max"):=w5
def JR:bootBuiltins "min" = some (.builtin "min"):=w5
end
def zY4{k:Nat}:okE (.lst ds) (k+1)=true↔∀d∈ds,okE d k=true:=by
 have e:okE (.lst ds) (k+1)=Je ds k:=by rw[okE]
 rw[e,UG]
def Xc{i:Int}{k:Nat}:okE (.int i) k=true:=by simp[okE]
def zP5(K:Qq5):R2:=λx y H Q=>∃a b xs ys,x=.ref a/\y=.ref b/\SqT K H a xs/\SqT K H b ys/\xs.length+ys.length<=sizeLine /\
 (xs=[]->Q (.ref b) H)/\(xs≠[]->ys=[]->Q (.ref a) H)/\(xs≠[]->ys≠[]->∀p,H p=none->Q (.ref p) (upd H p (.tup (xs++ys))))
section
variable {X:Cx}
def zI5:OpR X (binaryOp .Add) (zP5 X.K):=by
 intro pins s σ H x y v u Q I rx ry h;obtain⟨a,b,xs,ys,rfl,rfl,ha,hb,hz,q0,q1,q2⟩:=h
 by_cases hx:xs=[]
 ·cases rx;cases ry;obtain⟨its,r1,p1,_⟩:=I.tuple ha;obtain⟨J,r2,p2,_⟩:=I.tuple hb;have hi:its=[]:=r1.nil_iff.mpr hx;obtain⟨⟨cls,dd,data,sl⟩,ho,hc,n,hd⟩:=id p1;obtain⟨⟨ae,ac,ad,aa⟩,W,hc2,n2,Y⟩:=id p2;simp only at hc hd hc2 Y;subst hc hd hc2 Y
  exact PySem.concat_meets ⟨_,ho,rfl⟩ ⟨_,W,rfl⟩ PySem.noFill_tuple_add PySem.seq_tuple_add PySem.F.slot_tuple_add PySem.F.entry_tuple_add (PySem.F.args_tuple_add_2 _ _)
   (tuple_addW0 a b its.toArray J.toArray n n2 dd ac sl aa (by simp[hi])) ⟨ho,W,⟨.ref b,H,I,rfl,q0 hx⟩⟩
 ·exact zX2 pins s σ H _ _ v u Q I rx ry ⟨a,b,xs,ys,rfl,rfl,ha,hb,hx,hz,q1 hx,q2 hx⟩
end
section
variable {A:AC}
def zP3:RD2:=λd1 d2 k=>∃es fs,d1=.tup es/\d2=.tup fs/\es.length+fs.length<=sizeLine/\k (.tup (es++fs))
@[simp] theorem xq5{es fs k}:zP3 (.tup es) (.tup fs) k↔(es.length+fs.length<=sizeLine/\k (.tup (es++fs))):=⟨fun⟨_,_,e,e',h⟩=>by cases e;cases e';exact h,λh=>⟨_,_,rfl,rfl,h⟩⟩
def zU7:jb A (zP5 A.K) zP3:=by
 rintro os n rho sg H ds vs d1 d2 v1 v2 k Q I ⟨es,fs,rfl,rfl,hz,q⟩ J;obtain⟨I1,Y⟩:=I.pop;obtain⟨W,r1⟩:=I1.pop;have r1':=r1;have r2':=Y;obtain⟨a,xs,e,sq,rs⟩:=r1.tup_inv;obtain⟨b,ys,e',sq',rs'⟩:=Y.tup_inv;subst e e'
 refine⟨a,b,xs,ys,rfl,rfl,sq.sq,sq'.sq,by rw[rs.length,rs'.length];exact hz,λhx=>?_,λhx hy=>?_,λhx hy p hp=>?_⟩
 ·have he : es = [] := by have := rs.length; rw [hx] at this; exact List.eq_nil_of_length_eq_zero this.symm
  subst he;exact J _ H _ ⟨os,W.push r2'⟩ q
 ·have he : fs = [] := by have := rs'.length; rw [hy] at this; exact List.eq_nil_of_length_eq_zero this.symm
  subst he;rw[wv] at q;exact J _ H _ ⟨os,W.push r1'⟩ q
 ·exact J _ _ _ ⟨os,W.newTup (rs.append rs') hp⟩ q
end
section
variable {A:AC}{X:Cx}{a b c e:Expr}{es:Qq9}{te ta tb tc:TD}{t1:TAD}{pos p:Pos}
def xa3(d:D)(k:Int->Prop):Prop:=∃i,d=.int i/\k i
@[simp] theorem xy3{i:Int}{k}:xa3 (.int i) k↔k i:=⟨fun⟨_,e,h⟩=>by cases e;exact h,λh=>⟨_,rfl,h⟩⟩
end
theorem jK:∀{us:QqW}{ns:Qq4},IntsAre us ns->Vals (ns.map V.int) us
 |_,_,.nil=>.nil
 |_,_,.cons n t h=>.cons ⟨t,rfl⟩ (jK h)
section
variable {X:Cx}{A:AC}
def zb1:qy X (.builtin "sorted") (λxs H Q=>∃(p:Addr) (ns:Qq4),xs=[.ref p]/\SqL X.K H p (ns.map V.int)/\ns.length<64/\∀ms:List Int,ms.Perm ns->ms.Pairwise (·<=·)->∀l,H l=none->Q (.ref l) (upd H l (.lst (ms.map V.int)))):=by
  intro pins s σ H xs us Q I r h;obtain⟨p,ns,rfl,hq,hn,q⟩:=h
  cases r with
  | cons r Y =>
    cases Y;cases r;obtain⟨its,rv,pl,_⟩:=I.list hq;have hl:=pl.isList
    have hsz:its.length=ns.length:=by have:=rv.length;simpa using this.symm
    refine sorted_ints hl (qf rv) q5 λJ ms hi W hs=>?_
    obtain⟨e,he⟩:=sortedAll_at s.heap its J;have aa:ms.length=ns.length:=W.length_eq;have hf:H (s.heap.objs.size+1)=none:=I.hok.fresh (wt _);refine⟨.ref (s.heap.objs.size+1),_,I.laid (t':=s.toks) (o:=.lst (ms.map V.int)) (λb u e=>sortedAll_old e) (wt _) ?_,rfl,q ms W hs _ hf⟩
    exact⟨by rw[zf];exact zG q5 (yk (k:=64) q5),J.toList,e,jK hi,he⟩
noncomputable def zZ8:List D->(D->Prop)->Prop:=λes k=>∃ns:List Int,es=[.lst (ns.map D.int)]/\ns.length<64/\∀ms:List Int,ms.Perm ns->ms.Pairwise (·<=·)->k (.lst (ms.map D.int))
def zA4:vV A (λxs H Q=>∃(p:Addr) (ns:Qq4),xs=[.ref p]/\SqL A.K H p (ns.map V.int)/\ns.length<64/\∀ms:List Int,ms.Perm ns->ms.Pairwise (·<=·)->∀l,H l=none->Q (.ref l) (upd H l (.lst (ms.map V.int)))) zZ8:=by
  rintro os n rho sg H ds vs es ws k Q I rs ⟨ns,rfl,W,q⟩ hQ;obtain⟨v,rfl,r⟩:=qz rs;obtain⟨a,xs,rfl,sq,J⟩:=r.lst_inv;have e:=kJ J;subst e;exact⟨a,ns,rfl,sq.sq,W,λms h1 h2 l Y=>hQ _ _ _ ⟨os,I.newLst jU Y⟩ (q ms h1 h2)⟩
def jg:bootBuiltins "sorted" = some (.builtin "sorted"):=w5
end
def zd2{kt k2 J}(hk:env.blockKind=.function)(hx:env.kindOf x=some .local)(hy:env.kindOf y=some .local)(hl:py.line=px.line)(W:x≠y)
  (aa:qp a=false) (Y:qp b=false) (hf:[a,b].all (foldedForSure 8)=false) (hc:[a,b].all (constantsAlone 8)=false) :
  swappedStores [.Tuple [.Name x px,.Name y py] kt pt] (.Tuple [a,b] k2 J) env=pure (some [x,y]):=by
 have e2:(y == x)=false:=beq_false_of_ne (Ne.symm W);have e:(Expr.Name x px).pos.line=px.line:=rfl;unfold swappedStores;simp[hk,hx,hy,hl,hf,hc,e,List.eraseDups,List.eraseDupsBy,List.eraseDupsBy.loop,e2];intro h
 exfalso
 rcases h with h |h
 ·cases a<;>first |(simp at h;done) |(simp[qp] at aa;done)
 ·cases b<;>first |(simp at h;done) |(simp[qp] at Y;done)
section
variable {A:AC}{X:Cx}{a b:Expr}{pos:Pos}
def Uw{i j:Nat}{kt k2 J}(hc:X.calm=true)(hN:X.N.Nodup)(hi:X.N[i]?=some x)(hj:X.N[j]?=some y)(ac:i≠j)
  (hx:X.env.scope.names.lookup x=some .local) (hy:X.env.scope.names.lookup y=some .local) (ha:PAD A X [a,b] ta)
  (hk:X.env.blockKind=.function:=by rfl) (hl:py.line=px.line:=by rfl) (W:x≠y:=by decide) (aa:qp a=false:=by rfl) (Y:qp b=false:=by rfl) (hf:[a,b].all (foldedForSure 8)=false:=by decide +kernel) (ad:[a,b].all (constantsAlone 8)=false:=by decide +kernel) :
  PSD A X (.Assign [.Tuple [.Name x px,.Name y py] kt pt] (.Tuple [a,b] k2 J) pos) (xu0 i j ta):=by
 exists 
   zV7 hc hN hi hj ac hx hy ha (zd2 hk hx hy hl W aa Y hf ad) rfl
end
def zG6(h:PTD A X e t):PTs X [e] (zj3 A t):=by exists zV3 h
end L2
namespace L2
open PySem PySem.Spec PyProof.Rows HT
section
variable {prog:Qq3}{w:Qqa}{A:Around}{E:QqV}{s:Qq1}
def Yq{t W:Addr}{items:Qq8}{vl vu:Value}{lo hi:Option Int}{Q:QqV}(ht:IsTup s.heap t items)(hs:s.heap.IsSliceOf W vl vu .none)(pl:IsPart vl lo)(pu:IsPart vu hi)
  (h1:sIx items.size 0 lo=0) (h2:sIx items.size items.size hi=items.size) (h:Q (.ref t) s):wpAny (model prog w) A (getItem (.ref t) (.ref W)) Q E s:=by
 obtain⟨os,Y,aa,ad⟩:=id hs;have ac:s.TypeIs (.ref W) "slice" := ⟨os,Y,aa⟩;unfold getItem
 try with_reducible refine xJ ?_
 first |refine zb (ze ?_) |skip
 refine zb (wpAny_sequenceKey ht.typeIs q9 ?_)
 refine zb (xR (name:=Str.ofString "__getitem__") ht.typeIs PyProof.Rows.slot_tuple_getitem
  (wG PyProof.Rows.slot_tuple_getitem ht.typeIs entry_tuple_getitem ?_ (args_tuple_getitem _ _)))
 show wpAny _ _ (Builtin.Tuple.tupleItemsOf (.ref t) >>= _) _ _ s;refine zb (tupleItemsOf_ ht ?_);refine zb (wpAny_typeOf ac ?_)
 rw[if_pos q9]
 refine zb (jG hs pl pu ?_)
 have J:((((sIx items.size 0 lo:Nat):Int) == 0&&(1:Int) == 1&&(sIx items.size items.size hi-sIx items.size 0 lo) == items.size)=true):=by
  rw[h1,h2];simp
 show wpAny _ _ (if (((sIx items.size 0 lo:Nat):Int) == 0&&(1:Int) == 1&&(sIx items.size items.size hi-sIx items.size 0 lo) == items.size)=true then _ else _) _ _ s
 rw[if_pos J];obtain⟨⟨cls,dd,data,sl'⟩,ho,hc,n,hd⟩:=id ht;simp only at hc hd;subst hc hd;unfold Builtin.Tuple.tupleIsExact;obtain⟨hp,g,d,tk,os'⟩:=s
 wp_walk
 exact⟨_,rfl,ze h⟩
end
section
variable {X:Cx}
noncomputable def xu7(K:Qq5):V->Option Int->Option Int->Hp->VK->Prop:=λx lo hi H Q=>∃a xs,x=.ref a/\SqT K H a xs /\
 ((HT.sIx xs.length 0 lo=0/\HT.sIx xs.length xs.length hi=xs.length)->Q (.ref a) H)/\(¬ (HT.sIx xs.length 0 lo=0/\HT.sIx xs.length xs.length hi=xs.length)->∀p,H p=none->Q (.ref p) (upd H p (.tup (zN5 xs lo hi))))
def zU0:SlR X (xu7 X.K):=by
 intro pins s σ H x v vl vu lo hi sl Q I Y hs pl pu h;obtain⟨a,xs,rfl,hx,q1,q2⟩:=h
 by_cases W:HT.sIx xs.length 0 lo=0/\HT.sIx xs.length xs.length hi=xs.length
 ·cases Y;obtain⟨its,r,ht,hz⟩:=I.tuple hx
  have J:its.toArray.size=xs.length:=by rw[zt];exact r.length.symm
  refine⟨"tuple",_,PyProof.Rows.slot_tuple_getitem.lookup,ht.typeIs,?_⟩
  exact Yq ht hs pl pu (by rw[J];exact W.1) (by rw[J];exact W.2) ⟨.ref a,H,I,rfl,q1 W⟩
 ·exact xe8 pins s σ H (.ref a) v vl vu lo hi sl Q I Y hs pl pu ⟨a,xs,rfl,hx,W,q2 W⟩
end
abbrev TOD:=Rho->Nat->(Option Int->Nat->Prop)->Prop
def oOf(A:AC)(t:TOD):TO:=λsg H Q=>∃rho n P ds vs,Am A n rho sg H ds vs/\t rho n P/\∀o H' n',Am A n' rho sg H' ds vs->P o n'->Q o H'
@[irreducible] def POD(A:AC)(X:Cx)(e:Option Expr)(t:TOD):Prop:=PO X e (oOf A t)
def PO.imp(h:PO X e t)(hi:∀sg H Q,t' sg H Q->t sg H Q):PO X e t':=λpins s sg H Q I q=>h pins s sg H Q I (hi _ _ _ q)
section
variable {A:AC}{X:Cx}{a b c e:Expr}{es:Qq9}{te ta tb tc:TD}{t1:TAD}{pos p:Pos}
def xk0:TOD:=λ_ n P=>P none n
def xj9(t:TD):TOD:=λrho n P=>t rho n λd J=>xa3 d λi=>P (some i) J
@[simp] theorem xx5{rho n P}:xk0 rho n P=P none n:=rfl
@[simp] theorem xx4{t rho n P}:xj9 t rho n P=t rho n λd J=>xa3 d λi=>P (some i) J:=rfl
def qR:POD A X none xk0:=by
 exists zV9.imp λsg H Q h=>by
   obtain⟨rho,n,P,ds,vs,I,h,J⟩:=h;exact J none H n I h
def qQ(h:PD A X e te):POD A X (some e) (xj9 te):=by
 exists (zs3 h).imp λsg H Q h=>by
   obtain⟨rho,n,P,ds,vs,I,h,W⟩:=h;refine⟨rho,n,_,ds,vs,I,h,λv H' n' d ⟨os,J⟩ k=>?_⟩;obtain⟨i,rfl,k⟩:=k;obtain⟨Y,r⟩:=J.pop;exact⟨i,r.int_inv,W _ H' n' ⟨os,Y⟩ k⟩
def zo7(d:D)(k:List D->Prop):Prop:=∃fs,d=.tup fs/\k fs
@[simp] theorem zr2{k}:zo7 (.tup fs) k↔k fs:=⟨fun⟨_,e,h⟩=>by cases e;exact h,λh=>⟨_,rfl,h⟩⟩
def xI9(ta:TD)(tl th:TOD):TD:=λrho n P=>ta rho n λd Y=>tl rho Y λlo W=>th rho W λhi J=>zo7 d λfs=>P (.tup (Ki fs lo hi)) J
@[simp] theorem xG4{ta tl th rho n P}:xI9 ta tl th rho n P=ta rho n λd Y=>tl rho Y λlo W=>th rho W λhi J=>zo7 d λfs=>P (.tup (Ki fs lo hi)) J:=rfl
def zA1{fs:List D}{lo hi:Option Int}(h:HT.sIx fs.length 0 lo=0/\HT.sIx fs.length fs.length hi=fs.length):Ki fs lo hi=fs:=by
 unfold Ki;rw[h.1,h.2,vw,Nat.sub_zero,wW]
def zf1(hK:X.K=A.K)(ha:PD A X a ta)(hl:POD A X le tl)(hh:POD A X he th):PD A X (.Subscript a (.Slice le he none p2) pos) (xI9 ta tl th):=by
 exists (ze7 zU0 ha hl hh).imp λsg H Q h=>by
   obtain⟨rho,n,P,ds,vs,I,ht,hQ⟩:=h;refine⟨rho,n,_,ds,vs,I,ht,λv H1 n1 d J1 h1=>⟨rho,n1,_,_,_,J1,h1,λlo H2 n2 J2 h2=>⟨rho,n2,_,_,_,J2,h2,λhi H3 Y ⟨os,J3⟩ h3=>?_⟩⟩⟩;obtain⟨fs,rfl,k⟩:=h3;obtain⟨J4,r⟩:=J3.pop;have r':=r;obtain⟨l,xs,rfl,sq,rs⟩:=r.tup_inv;rw[hK];have J:xs.length=fs.length:=rs.length;refine⟨l,xs,rfl,sq.sq,λW=>?_,λW p hp=>hQ _ _ Y _ ⟨os,J4.newTup (Uo rs lo hi) hp⟩ k⟩;rw[J] at W;rw[zA1 W] at k;exact hQ _ H3 Y _ ⟨os,J4.push r'⟩ k
end
end L2
namespace L2
section
variable {A:AC}{X:Cx}{a b c e:Expr}{es:Qq9}{te ta tb tc:TD}{t1:TAD}{pos p:Pos}
def xo2(I:Inv X pins σ H s):sysModules<s.heap.objs.size:=yt q9 (I.mod.glob.keeps I.bk).lt
def xn3(h:Heap)(J:sysModules<h.objs.size):ObjOk P w H (h.push { cls:=.type "dict",data:=.dict #[] }) h.objs.size (.dK []):=
 ⟨wq _,beq_eq_false_iff_ne.mpr (Ne.symm (zJ J)),[],.nil,Heap.DictOf.new h⟩
end
section
variable {A:AC}{X:Cx}
end
section
variable {A:AC}{X:Cx}{pos p:Pos}
end
section
variable {A:AC}{X:Cx}{a b e:Expr}{ta tb:TD}{pos p:Pos}
end
end L2
namespace L2
open PySem PySem.Spec PyProof.Rows HT
section
variable {prog:Qq3}{w:Qqa}{A:Around}{E:QqV}{s:Qq1}
end
section
variable {X:Cx}{e:Expr}{te:TE}{pos p2:Pos}
end
section
variable {A:AC}{X:Cx}{a:Expr}{ta:TD}{pos p2 p3 p4:Pos}
end
end L2
namespace L2
open PySem PySem.Spec PyProof.Rows PySem.W PySem.Calls PySem.NumText
section
variable {A:AC}{X:Cx}{e:Expr}{te:TD}{pos:Pos}
def zq2(tc:TBD)(tb:TSD):TSD:=λF rho n=>∃J:Nat->Rho->Nat->Prop,(∃m,J m rho n)/\∀m rho n,J m rho n->tc rho n λb W=>if b=true then tb { F with nx:=λrho' n'=>∃m',m'<m/\J m' rho' n',ct:=λrho' n'=>∃m',m'<m/\J m' rho' n',bk:=F.nx } rho W else F.nx rho W
def zr9(hp:PassesOwn (model X.prog X.w) X.A X.env X.xe)(hc:PTD A X c tc)(hb:Ql A X body tb):PSD A X (.While c body [] pos) (zq2 tc tb):=by
 exists (zH4 hp hc hb).imp λE sg H h=>by
   obtain⟨rho,n,F,ds,vs,I,⟨J,⟨m0,j0⟩,turn⟩,ok⟩:=h;refine⟨λm sg H=>∃rho n,Am A n rho sg H ds vs/\J m rho n,⟨m0,rho,n,I,j0⟩,?_⟩;rintro m ac H1 ⟨Y,n1,I1,j1⟩;refine⟨Y,n1,_,ds,vs,I1,turn m Y n1 j1,λb H2 n2 I2 k=>?_⟩
   cases b with
   |true=>
    rw[if_pos rfl] at k ⊢;refine⟨λsg' H'=>∃m',m'<m/\∃rho n,Am A n rho sg' H' ds vs/\J m' rho n,λsg' H' ⟨m',hm,q⟩=>⟨m',hm,q⟩,Y,n2,_,ds,vs,I2,k,?_⟩;exact⟨λW n6 aa H6 I6 ⟨m',hm,k6⟩=>⟨m',hm,W,n6,I6,k6⟩,λd n6 v W aa H6 I6 k6=>ok.rt _ _ _ _ _ _ I6 k6,λW n6 aa H6 I6 k6=>ok.nx _ _ _ _ I6 k6,λW n6 aa H6 I6 ⟨m',hm,k6⟩=>⟨m',hm,W,n6,I6,k6⟩⟩
   |false=>
    rw[if_neg xl] at k ⊢;exact ok.nx _ _ _ _ I2 k
@[simp] theorem xq0{tc tb F rho n}:zq2 tc tb F rho n=∃J:Nat->Rho->Nat->Prop,(∃m,J m rho n)/\∀m rho n,J m rho n->tc rho n λb W=>if b=true then tb { F with nx:=λrho' n'=>∃m',m'<m/\J m' rho' n',ct:=λrho' n'=>∃m',m'<m/\J m' rho' n',bk:=F.nx } rho W else F.nx rho W:=rfl
def xf4(f:Int->Int->Int)(i:Nat)(te:TD):TSD:=λF rho n=>i<rho.length/\∃a:Int,rho[i]?=some (some (.int a))/\te rho n λd J=>∃b:Int,d=.int b/\F.nx (rho.set i (some (.int (f a b)))) J
def zH3{i:Nat}(ho:PIp X op (ipI f))(hN:X.N.Nodup)(hi:X.N[i]?=some x)(hx:Loc X.env.scope x)(he:PD A X e te)(Y:X.fn x=true\/X.env.scope.names.lookup x=some .local:=by first |exact .inl rfl |exact .inr rfl |assumption) :
  PSD A X (.AugAssign (.Name x pos') op e pos) (xf4 f i te):=by
 exists (xh5 hN hi hx he ho Y).imp λE sg H h=>by
   obtain⟨rho,n,F,ds,vs,⟨os,I⟩,⟨W,a,ha,ht⟩,ok⟩:=h;obtain⟨v,e1,e2⟩:=I.slot i _ ha;have e3:=SlotR.rep (d:=.int a) rfl e2;refine⟨v,e1,rho,n,_,ds,vs,⟨os,I⟩,ht,λw H' n' d ⟨os',J⟩ k=>?_⟩;obtain⟨b,rfl,k⟩:=k;obtain⟨J1,r⟩:=J.pop;refine⟨a,b,e3.int_inv,r.int_inv,ok.nx _ _ _ _ ⟨_,AmO.set (d:=.int (f a b)) (J1.push (Rep.ofS rfl)) W⟩ k⟩
@[simp] theorem xw3{f i te F rho n}:xf4 f i te F rho n=(i<rho.length/\∃a:Int,rho[i]?=some (some (.int a))/\te rho n λd J=>∃b:Int,d=.int b/\F.nx (rho.set i (some (.int (f a b)))) J):=rfl
end
section
variable {A:AC}{X:Cx}
end
end L2
namespace L2
end L2
namespace L2
open PySem PySem.Spec PyProof.Rows PySem.W PySem.Calls
section
variable {X:Cx}{pos:Pos}
end
section
variable {A:AC}{X:Cx}{a b c:Expr}{pos:Pos}
end
end L2
namespace L2.Srt
open PySem PyProof.Rows
def lab(ls:Qq7)(i:Nat):Nat:=ls.getD i 0
structure Rule(prog:Qq3)(w:Qqa)(A:Around)(s:Qq1)(n:Nat)(item:Nat->Keyed)(kd:SortKind)(r:Qq6):Prop where
 tot:∀a b,a<n->b<n->a≠b->r a b=!r b a
 tr:∀a b c,a<n->b<n->c<n->r a b=true->r b c=true->r a c=true
 cmp:∀a b,a<n->b<n->a≠b->∀(E:QqV) (Q:Bool->Shared->Prop),Q (r a b) s->wpAny (model prog w) A (keyLt' kd (item a).1 (item b).1) Q E s
structure Now(n:Nat)(item:Nat->Keyed)(kd:SortKind)(ls:Qq7)(t:SortSt):Prop where
 arr:arrOf t=ls.map item
 kd:kindOf t=kd
 ok:failedOf t=none
 pend:pendingOf t=#[]
 perm:ls.Perm (Array.range n)
def Up(r:Qq6)(ls:Qq7)(k:Nat):Prop:=∀i j,i<j->j<k->r (lab ls i) (lab ls j)=true
section
variable {n:Nat}{item:Nat->Keyed}{kd:SortKind}{r:Qq6}{ls:Qq7}{t:SortSt}
def vK{i:Nat}(h:i<ls.size):ls[i]?=some (lab ls i):=by
 unfold lab;rw[yB,xz h];rfl
def qe{k v:Nat}(h:as[k]?=some v):lab as k=v:=by
 unfold lab;rw[yB,h];rfl
def zb3{src d:Nat}(hs:src<ls.size)(hd:d<=src){k:Nat}(hk:k<ls.size):lab (bubble ls src d) k=if k=src-d then lab ls src else if src-d<k/\k<=src then lab ls (k-1) else lab ls k:=by
 refine qe ?_;rw[getElem?_bubble hs d hd k]
 split
 ·exact vK hs
 ·split
  ·exact vK q5
  ·exact vK hk
def xc3{src d:Nat}(hs:src<ls.size)(hd:d<=src):bubble (ls.map item) src d=(bubble ls src d).map item:=by
 refine Array.ext_getElem? λk=>?_
 rw[getElem?_bubble (by simpa using hs) d hd k]
 simp only[vE];rw[getElem?_bubble hs d hd k]
 split
 ·rfl
 ·split<;>rfl
def Zb{i j:Nat}(hj:j<=ls.size){k:Nat}(hk:k<ls.size):lab (mirror ls i j ((j-i)/2)) k=if i<=k/\k<j then lab ls (i+j-1-k) else lab ls k:=by
 refine qe ?_;rw[getElem?_mirror_all hj k]
 split
 ·exact vK q5
 ·exact vK hk
def zY8{i j:Nat}(hj:j<=ls.size):mirror (ls.map item) i j ((j-i)/2)=(mirror ls i j ((j-i)/2)).map item:=by
 refine Array.ext_getElem? λk=>?_
 rw[getElem?_mirror_all (by simpa using hj) k]
 simp only[vE];rw[getElem?_mirror_all hj k]
 split<;>rfl
end
noncomputable def Zg:Bool->Keyed->Array Keyed->Nat->Nat->Nat->StateT SortSt Sem (Option Nat):=sortPriv% PySem.Builtin.gallop
def kL:Nat->StateT SortSt Sem Unit:=sortPriv% PySem.Builtin.setMinGallop
noncomputable def UI:Array Keyed->Array Keyed->StateT SortSt Sem (Array Keyed):=sortPriv% PySem.Builtin.mergeLo
noncomputable def UJ:Array Keyed->Array Keyed->StateT SortSt Sem (Array Keyed):=sortPriv% PySem.Builtin.mergeHi
noncomputable abbrev zd5(st:SortSt)(g:Nat):SortSt:=SortSt.mk' (kindOf st) (arrOf st) (pendingOf st) g (failedOf st)
def kE(g:Nat):kL g=modify λs=>zd5 s g:=rfl
noncomputable def jB(left:Bool)(key:Keyed)(arr:Array Keyed)(base i:Nat):StateT SortSt Sem (Option Bool):=do
 let x <- elem' arr (base+i)
 if left then lt' x key else return (<- lt' key x).map (!·)
def zm3(left:Bool)(key:Keyed)(arr:Array Keyed)(base n hint:Nat):Zg left key arr base n hint=(do
 let mut lastofs:=0
 let mut ofs:=1
 let mut lo:=0
 let mut hi:=0
 let some right <- jB left key arr base hint |return none
 if right then
  let J:=n-hint
  for _ in [0:n] do
   if ofs>=J then break
   let some more <- jB left key arr base (hint+ofs) |return none
   if !more then break
   lastofs:=ofs
   ofs:=2*ofs+1
  lo:=hint+lastofs+1
  hi:=hint+min ofs J
 else
  let J:=hint+1
  for _ in [0:n] do
   if ofs>=J then break
   let some W <- jB left key arr base (hint-ofs) |return none
   if W then break
   lastofs:=ofs
   ofs:=2*ofs+1
  lo:=hint+1-min ofs J
  hi:=hint-lastofs
 for _ in [0:n] do
  if lo>=hi then break
  let m:=lo+(hi-lo)/2
  let some more <- jB left key arr base m |return none
  if more then lo:=m+1 else hi:=m
 return some hi):=rfl
def QX(i:Nat):mergeAt' i=(do
 let s <- get
 let (some (sa,na,W),some (sb,Y,_)):=((pendingOf s)[i]?,(pendingOf s)[i+1]?) |unsupported "internal:list.sort.pending"
 set (setPending s (((pendingOf s).setIfInBounds i (sa,na+Y,W)).eraseIdxIfInBounds (i+1)))
 let some k <- Zg false (<- elem' (arrOf s) sb) (arrOf s) sa na 0 |return false
 let (sa,na):=(sa+k,na-k)
 if na == 0 then return true
 let some Y <- Zg true (<- elem' (arrOf s) (sa+na-1)) (arrOf s) sb Y (Y-1) |return false
 if Y == 0 then return true
 let x:=(arrOf s).extract sa sb
 let y:=(arrOf s).extract sb (sb+Y)
 let J <- if na<=Y then UI x y else UJ x y
 modify λs=>setArr s (J.toList.zipIdx.foldl (λa (p,j)=>a.setIfInBounds (sa+j) p) (arrOf s))
 return (failedOf (<- get)).isNone):=rfl
noncomputable def xp7(left:Bool)(key:Keyed)(arr:Array Keyed)(base n J W:Nat):StateT SortSt Sem (Option Nat):=do
 let mut lo:=J
 let mut hi:=W
 for _ in [0:n] do
  if lo>=hi then break
  let m:=lo+(hi-lo)/2
  let some more <- jB left key arr base m |return none
  if more then lo:=m+1 else hi:=m
 return some hi
noncomputable def Qo(lo W J:Nat):StateT SortSt Sem (Option Nat):=do
 let mut n:=W
 reverseSlice' lo (lo+n)
 for _ in [n:J] do
  let some smaller <- ltAt' (lo+n) (lo+n-1) |return none
  if smaller then break
  n:=n+1
 return some n
noncomputable def UW(lo Y W:Nat):StateT SortSt Sem (Option Nat):=do
 let mut n:=Y
 rule "list.sort.descending-run"
 n:=n+1
 let mut neq:=0
 for _ in [n:W] do
  let some smaller <- ltAt' (lo+n) (lo+n-1) |return none
  if smaller then
   if neq > 0 then reverseSlice' (lo+n-(neq+1)) (lo+n)
   neq:=0
  else
   let some J <- ltAt' (lo+n-1) (lo+n) |return none
   if J then break
   neq:=neq+1
  n:=n+1
 if neq > 0 then reverseSlice' (lo+n-(neq+1)) (lo+n)
 reverseSlice' lo (lo+n)
 for _ in [n:W] do
  let some smaller <- ltAt' (lo+n) (lo+n-1) |return none
  if smaller then break
  n:=n+1
 return some n
section
variable {prog:Qq3}{w:Qqa}{A:Around}{E:QqV}{s:Qq1}{t:SortSt}
section
variable {left:Bool}{key:Keyed}{arr:Array Keyed}{base m hint:Nat}{by':Nat->Bool}
def zp7{lo hi:Nat}(hm:hi<=m)(aa:lo<=hi)
  (ac:∀i,i<m->∀Q:Option Bool->SortSt->Prop,Q (some (by' i)) t->wpS (model prog w) A E s (jB left key arr base i) Q t)
  (W:∀i j,i<=j->j<m->by' j=true->by' i=true) (no:∀i j,i<=j->j<m->by' i=false->by' j=false)
  (h1:∀i,i<lo->by' i=true) (h2:∀i,hi<=i->i<m->by' i=false) {Q:Option Nat->SortSt->Prop}
  (q:∀k,k<=m->(∀i,i<k->by' i=true)->(∀i,k<=i->i<m->by' i=false)->Q (some k) t) :
  wpS (model prog w) A E s (xp7 left key arr base m lo hi) Q t:=by
 unfold xp7
 refine zq (vF (yc (λx c t'=>t'=t/\∃l h,c=(none,l,h)/\l<=h/\h<=m/\h-l<=m-x/\(∀i,i<l->by' i=true)/\∀i,h<=i->i<m->by' i=false)
  (Q:=λc t'=>t'=t/\∃l,c=(none,l,l)/\l<=m/\(∀i,i<l->by' i=true)/\∀i,l<=i->i<m->by' i=false) ?_ ?_ ⟨rfl,lo,hi,rfl,aa,hm,q5,h1,h2⟩) ?_)
 ·rintro x c t' _ hx ⟨rfl, l, h, rfl, g1, J, g3, g4, Y⟩;dsimp only
  split
  ·rename_i hd
   obtain rfl:l=h:=q5
   exact zU ⟨rfl,l,rfl,J,g4,Y⟩
  ·rename_i hd
   refine zq (ac _ q5 _ ?_)
   cases z:by' (l+(h-l)/2)
   ·exact zU ⟨rfl,l,_,rfl,q5,q5,q5,g4,λi i1 i2=>no _ i i1 i2 z⟩
   ·exact zU ⟨rfl,_,h,rfl,q5,q5,q5,λi i1=>W i _ q5 q5 z,Y⟩
 ·rintro c t' ⟨rfl, l, h, rfl, g1, J, g3, g4, Y⟩
  obtain rfl:l=h:=q5
  exact⟨rfl,l,rfl,J,g4,Y⟩
 ·rintro c t' ⟨rfl,l,rfl,g1,J,g3⟩;exact zU (q l g1 J g3)
def gal(h:hint<m)
  (aa:∀i,i<m->∀Q:Option Bool->SortSt->Prop,Q (some (by' i)) t->wpS (model prog w) A E s (jB left key arr base i) Q t)
  (W:∀i j,i<=j->j<m->by' j=true->by' i=true) {Q:Option Nat->SortSt->Prop}
  (q:∀k,k<=m->(∀i,i<k->by' i=true)->(∀i,k<=i->i<m->by' i=false)->Q (some k) t) :
  wpS (model prog w) A E s (Zg left key arr base m hint) Q t:=by
 rw[zm3];refine zq (aa hint h _ ?_)
 have no:∀i j,i<=j->j<m->by' i=false->by' j=false:=λi j h1 h2 h3=>by
  cases z:by' j with
  |false=>rfl
  |true=>rw[W i j h1 h2 z] at h3;cases h3
 cases z:by' hint
 ·simp only [zT, if_false]
  refine zq (vF (yc (λx c t'=>t'=t/\∃J ofs,c=(none,J,ofs)/\J<ofs/\x+1<=ofs/\J<=hint/\by' (hint-J)=false)
   (Q:=λc t'=>t'=t/\∃J ofs,c=(none,J,ofs)/\J<ofs/\J<=hint/\by' (hint-J)=false/\(ofs<=hint->by' (hint-ofs)=true)) ?_ ?_ ⟨rfl,0,1,rfl,q5,q5,q5,z⟩) ?_)
  ·rintro x c t' _ hx ⟨rfl, J, ofs, rfl, g1, g2, g3, Y⟩;dsimp only
   split
   ·exact zU ⟨rfl,J,ofs,rfl,g1,g3,Y,λh=>by lia⟩
   ·rename_i hd
    refine zq (aa _ q5 _ ?_)
    cases z2:by' (hint-ofs)
    ·exact zU ⟨rfl,ofs,_,rfl,q5,q5,q5,z2⟩
    ·exact zU ⟨rfl,J,ofs,rfl,g1,g3,Y,λ_=>z2⟩
  ·rintro c t' ⟨rfl, J, ofs, rfl, g1, g2, g3, Y⟩
   exact⟨rfl,J,ofs,rfl,g1,g3,Y,λh=>by lia⟩
  ·rintro c t' ⟨rfl, J, ofs, rfl, g1, g3, Y, g5⟩;show wpS (model prog w) A E s (xp7 left key arr base m (hint+1-min ofs (hint+1)) (hint-J)) Q t'
   refine zp7 q5 q5 aa W no (λi hi=>?_) (λi i1 i2=>no _ i i1 i2 Y) q
   exact W i (hint-ofs) q5 q5 (g5 q5)
 ·simp only [if_true]
  refine zq (vF (yc (λx c t'=>t'=t/\∃J ofs,c=(none,J,ofs)/\J<ofs/\x+1<=ofs/\hint+J<m/\by' (hint+J)=true)
   (Q:=λc t'=>t'=t/\∃J ofs,c=(none,J,ofs)/\J<ofs/\hint+J<m/\by' (hint+J)=true/\(hint+ofs<m->by' (hint+ofs)=false)) ?_ ?_ ⟨rfl,0,1,rfl,q5,q5,q5,z⟩) ?_)
  ·rintro x c t' _ hx ⟨rfl, J, ofs, rfl, g1, g2, g3, Y⟩;dsimp only
   split
   ·exact zU ⟨rfl,J,ofs,rfl,g1,g3,Y,λh=>by lia⟩
   ·rename_i hd
    refine zq (aa _ q5 _ ?_)
    cases z2:by' (hint+ofs)
    ·exact zU ⟨rfl,J,ofs,rfl,g1,g3,Y,λ_=>z2⟩
    ·exact zU ⟨rfl,ofs,_,rfl,q5,q5,q5,z2⟩
  ·rintro c t' ⟨rfl, J, ofs, rfl, g1, g2, g3, Y⟩
   exact⟨rfl,J,ofs,rfl,g1,g3,Y,λh=>by lia⟩
  ·rintro c t' ⟨rfl, J, ofs, rfl, g1, g3, Y, g5⟩;show wpS (model prog w) A E s (xp7 left key arr base m (hint+J+1) (hint+min ofs (m-hint))) Q t'
   refine zp7 q5 q5 aa W no (λi hi=>W i _ q5 q5 Y) (λi i1 i2=>?_) q
   exact no (hint+ofs) i q5 i2 (g5 q5)
end
end
structure WRule(prog:Qq3)(w:Qqa)(A:Around)(s:Qq1)(n:Nat)(item:Nat->Keyed)(kd:SortKind)(r:Qq6):Prop where
 asy:∀a b,a<n->b<n->r a b=true->r b a=false
 tr:∀a b c,a<n->b<n->c<n->r b a=false->r c b=false->r c a=false
 cmp:∀a b,a<n->b<n->a≠b->∀(E:QqV) (Q:Bool->Shared->Prop),Q (r a b) s->wpAny (model prog w) A (keyLt' kd (item a).1 (item b).1) Q E s
structure MI(le:Nat->Nat->Prop)(all O la lb:List Nat):Prop where
 perm:(O++(la++lb)).Perm all
 up:O.Pairwise le
 a:∀o∈O,∀x∈la,le o x
 b:∀o∈O,∀y∈lb,le o y
 sa:la.Pairwise le
 sb:lb.Pairwise le
variable {le:Nat->Nat->Prop}{all O la lb u:List Nat}
def MI.takeA(h:MI le all O (u++la) lb)(hu:∀x∈u,∀y∈lb,le x y):MI le all (O++u) la lb:=by
 have s1:=yZ.mp h.sa
 refine⟨by simpa [wn] using h.perm,yZ.mpr ⟨h.up,s1.1,λo ho x hx=>h.a o ho x (by simp[hx])⟩,λo ho x hx=>?_,λo ho y J=>?_,s1.2.1,h.sb⟩
 ·rcases xk.mp ho with ho | ho
  ·exact h.a o ho x (by simp[hx])
  ·exact s1.2.2 o ho x hx
 ·rcases xk.mp ho with ho | ho
  ·exact h.b o ho y J
  ·exact hu o ho y J
def MI.swap(h:MI le all O la lb):MI le all O lb la:=⟨((yL).append_left O).trans h.perm,h.up,h.b,h.a,h.sb,h.sa⟩
def MI.takeB(h:MI le all O la (u++lb))(hu:∀x∈u,∀y∈la,le x y):MI le all (O++u) la lb:=(h.swap.takeA hu).swap
def MI.endA(h:MI le all O la lb)(hu:∀x∈la,∀y∈lb,le x y):(O++la++lb).Perm all/\(O++la++lb).Pairwise le:=by
 have h1:MI le all (O++la) [] lb:=MI.takeA (by rw[wv];exact h) hu
 exact⟨by simpa using h1.perm,yZ.mpr ⟨h1.up,h1.sb,h1.b⟩⟩
def MI.endB(h:MI le all O la lb)(hu:∀x∈lb,∀y∈la,le x y):(O++lb++la).Perm all/\(O++lb++la).Pairwise le:=h.swap.endA hu
section
variable {prog:Qq3}{w:Qqa}{A:Around}{E:QqV}{s:Qq1}{t:SortSt}{n:Nat}{item:Nat->Keyed}{kd:SortKind}{r:Qq6}
def Jq(R:WRule prog w A s n item kd r)(hk:kindOf t=kd){a b:Nat}(ha:a<n)(J:b<n)(h:a≠b){Q:Option Bool->SortSt->Prop}(q:Q (some (r a b)) t):wpS (model prog w) A E s (lt' (item a) (item b)) Q t:=by
 rw[lt'_eq];refine zq (wpS_get (zq (wpS_lift (wpAny_attempt ?_))));rw[hk];exact R.cmp a b ha J h _ _ ⟨rfl,zU q⟩
def yV{ks:Qq7}{i:Nat}(h:i<ks.size){Q:Keyed->SortSt->Prop}(q:Q (item (lab ks i)) t):wpS (model prog w) A E s (elem' (ks.map item) i) Q t:=by
 rw[elem'_eq,vE,vK h];exact zU q
def byd(R:WRule prog w A s n item kd r)(hk:kindOf t=kd){ks:Qq7}{left:Bool}{c base i:Nat}(Y:c<n)(hi:base+i<ks.size)(W:lab ks (base+i)<n)(J:c≠lab ks (base+i)){Q:Option Bool->SortSt->Prop}
  (q:Q (some (if left then r (lab ks (base+i)) c else !r c (lab ks (base+i)))) t):wpS (model prog w) A E s (jB left (item c) (ks.map item) base i) Q t:=by
 unfold jB;refine zq (yV hi ?_);cases left
 ·simp only[zT,if_false] at q ⊢;exact zq (Jq R hk Y W J (zU q))
 ·simp only[if_true] at q ⊢;exact Jq R hk W Y (λe=>J e.symm) q
structure Same(t t':SortSt):Prop where
 arr:arrOf t'=arrOf t
 kd:kindOf t'=kindOf t
 pend:pendingOf t'=pendingOf t
 ok:failedOf t'=failedOf t
def Same.rfl':Same t t:=⟨rfl,rfl,rfl,rfl⟩
def Same.gal{t':SortSt}(h:Same t t')(g:Nat):Same t (zd5 t' g):=⟨h.arr,h.kd,h.pend,h.ok⟩
structure Two(n:Nat)(r:Qq6)(la lb:Qq7):Prop where
 an:∀x∈la.toList,x<n
 bn:∀x∈lb.toList,x<n
 un:∀x∈la.toList,∀y∈lb.toList,x≠y
 au:la.toList.Pairwise λx y=>r y x=false
 bu:lb.toList.Pairwise λx y=>r y x=false
structure ML(item:Nat->Keyed)(r:Qq6)(la lb:Qq7)(out:Array Keyed)(ia ib:Nat):Prop where
 o:∃O:Array Nat,out=O.map item/\MI (λx y=>r y x=false) (la.toList++lb.toList) O.toList (la.toList.drop ia) (lb.toList.drop ib)
def Good(item:Nat->Keyed)(r:Qq6)(la lb:Qq7)(J:Array Keyed):Prop:=∃M:Array Nat,J=M.map item/\M.toList.Perm (la.toList++lb.toList)/\M.toList.Pairwise λx y=>r y x=false
def jz{ks:Qq7}{k x:Nat}:x∈ks.toList.drop k↔∃i,k<=i/\i<ks.size/\x=lab ks i:=by
 rw[yp]
 constructor
 ·rintro ⟨i, h⟩;rw[wD,zL] at h
  have hi:k+i<ks.size:=by
   rcases Nat.lt_or_ge (k+i) ks.size with g |g
   ·exact g
   ·rw[wa g] at h;cases h
  rw[vK hi] at h
  exact⟨k+i,q5,hi,(zD h).symm⟩
 ·rintro ⟨i, h1, h2, rfl⟩
  exact⟨i-k,by rw[wD,zL,show k+(i-k)=i by lia,vK h2]⟩
def qu{ks:Qq7}{i:Nat}(h:i<ks.size):lab ks i∈ks.toList:=by
 have:=jz.mpr ⟨i,wq _,h,rfl⟩
 rwa [vw] at this
def Xw{ks:Qq7}(h:ks.toList.Pairwise λx y=>r y x=false){i j:Nat}(J:i<j)(hj:j<ks.size):r (lab ks j) (lab ks i)=false:=by
 have hi':i<ks.toList.length:=by rw[zm];lia
 have hj':j<ks.toList.length:=by rw[zm];exact hj
 have:=xV.mp h i j hi' hj' J
 have Y:=vK (ls:=ks) (i:=i) q5
 have W:=vK (ls:=ks) hj;rw[<- zL,zd hi'] at Y;rw[<- zL,zd hj'] at W;rw[<- zD Y,<- zD W];exact this
def VJ{ks:Qq7}{i k:Nat}(h:i+k<=ks.size):ks.toList.drop i=(ks.extract i (i+k)).toList++ks.toList.drop (i+k):=by
 rw[wE,xX,show i+k-i=k by lia,<- drop_drop,wM]
def zg9{ks:Qq7}{i:Nat}(h:i<ks.size):ks.toList.drop i=[lab ks i]++ks.toList.drop (i+1):=by
 have hi':i<ks.toList.length:=by rw[zm];exact h
 have J:=vK (ls:=ks) h;rw[<- zL,zd hi'] at J;rw[yO hi',zD J];rfl
def zv5{ks:Qq7}{i k x:Nat}(h:i+k<=ks.size)(hx:x∈(ks.extract i (i+k)).toList):∃j,j<k/\x=lab ks (i+j):=by
 rw[wE,xX,show i+k-i=k by lia,yp] at hx
 obtain⟨j,hj⟩:=hx;rw[vC] at hj
 split at hj
 ·rename_i g
  rw[wD,zL,vK q5] at hj
  exact⟨j,g,(zD hj).symm⟩
 ·cases hj
section
variable {la lb:Qq7}{out:Array Keyed}{ia ib:Nat}
def Two.al(T:Two n r la lb){i:Nat}(h:i<la.size):lab la i<n:=T.an _ (qu h)
def Two.bl(T:Two n r la lb){i:Nat}(h:i<lb.size):lab lb i<n:=T.bn _ (qu h)
def Two.ne(T:Two n r la lb){i j:Nat}(h:i<la.size)(g:j<lb.size):lab la i≠lab lb j:=T.un _ (qu h) _ (qu g)
def Two.symm(T:Two n r la lb):Two n r lb la:=⟨T.bn,T.an,λx hx y J e=>T.un y J x hx e.symm,T.bu,T.au⟩
def Two.hd(R:WRule prog w A s n item kd r)(T:Two n r la lb){c:Nat}(J:c<n)(h:ia<la.size)(g:r (lab la ia) c=false):∀x∈la.toList.drop ia,r x c=false:=λx hx=>by
 obtain⟨i,h1,h2,rfl⟩:=jz.mp hx
 by_cases e:i=ia
 ·rw[e];exact g
 ·exact R.tr _ _ _ J (T.al h) (T.al h2) g (Xw T.au q5 h2)
def ML.pushA(M:ML item r la lb out ia ib)(h:ia<la.size)(g:∀y∈lb.toList.drop ib,r y (lab la ia)=false):ML item r la lb (out.push (item (lab la ia))) (ia+1) ib:=by
 obtain⟨O,rfl,m⟩:=M.o;rw[zg9 h] at m
 refine⟨O.push (lab la ia),by rw[Array.map_push],?_⟩
 rw[vJ]
 exact m.takeA λx hx y J=>by rw[zE.mp hx];exact g y J
def ML.pushB(M:ML item r la lb out ia ib)(h:ib<lb.size)(g:∀y∈la.toList.drop ia,r y (lab lb ib)=false):ML item r la lb (out.push (item (lab lb ib))) ia (ib+1):=by
 obtain⟨O,rfl,m⟩:=M.o;rw[zg9 h] at m
 refine⟨O.push (lab lb ib),by rw[Array.map_push],?_⟩
 rw[vJ]
 exact m.takeB λx hx y J=>by rw[zE.mp hx];exact g y J
def ML.addA(M:ML item r la lb out ia ib){k:Nat}(h:ia+k<=la.size)(g:∀j,j<k->∀y∈lb.toList.drop ib,r y (lab la (ia+j))=false):ML item r la lb (out++(la.map item).extract ia (ia+k)) (ia+k) ib:=by
 obtain⟨O,rfl,m⟩:=M.o;rw[VJ h] at m
 refine⟨O++la.extract ia (ia+k),by rw[wh,xG],?_⟩
 rw[xp]
 exact m.takeA λx hx y J=>by obtain⟨j,hj,rfl⟩:=zv5 h hx;exact g j hj y J
def ML.addB(M:ML item r la lb out ia ib){k:Nat}(h:ib+k<=lb.size)(g:∀j,j<k->∀y∈la.toList.drop ia,r y (lab lb (ib+j))=false):ML item r la lb (out++(lb.map item).extract ib (ib+k)) ia (ib+k):=by
 obtain⟨O,rfl,m⟩:=M.o;rw[VJ h] at m
 refine⟨O++lb.extract ib (ib+k),by rw[wh,xG],?_⟩
 rw[xp]
 exact m.takeB λx hx y J=>by obtain⟨j,hj,rfl⟩:=zv5 h hx;exact g j hj y J
def Zi{ks:Qq7}{i:Nat}:(ks.extract i ks.size).toList=ks.toList.drop i:=by
 rw[wE,xX]
 exact xZ (by rw[wY,zm];exact zj _)
def ML.done(M:ML item r la lb out ia ib)(g:∀x∈la.toList.drop ia,∀y∈lb.toList.drop ib,r y x=false):Good item r la lb (out++(la.map item).extract ia la.size++(lb.map item).extract ib lb.size):=by
 obtain⟨O,rfl,m⟩:=M.o;obtain⟨p1,p2⟩:=m.endA g
 refine⟨O++la.extract ia la.size++lb.extract ib lb.size,by rw[wh,wh,xG,xG],?_,?_⟩
 ·rw[xp,xp,Zi,Zi];exact p1
 ·rw[xp,xp,Zi,Zi];exact p2
def ML.last(M:ML item r la lb out ia ib)(g:∀x∈lb.toList.drop ib,∀y∈la.toList.drop ia,r y x=false):Good item r la lb (out++(lb.map item).extract ib lb.size++(la.map item).extract ia la.size):=by
 obtain⟨O,rfl,m⟩:=M.o;obtain⟨p1,p2⟩:=m.endB g
 refine⟨O++lb.extract ib lb.size++la.extract ia la.size,by rw[wh,wh,xG,xG],?_,?_⟩
 ·rw[xp,xp,Zi,Zi];exact p1
 ·rw[xp,xp,Zi,Zi];exact p2
def ML.doneB(M:ML item r la lb out ia ib)(h:lb.size<=ib):Good item r la lb (out++(la.map item).extract ia la.size++(lb.map item).extract ib lb.size):=
 M.done λx _ y J=>by obtain⟨i,h1,h2,_⟩:=jz.mp J;lia
def ML.doneA(M:ML item r la lb out ia ib)(h:la.size<=ia):Good item r la lb (out++(la.map item).extract ia la.size++(lb.map item).extract ib lb.size):=
 M.done λx hx y _=>by obtain⟨i,h1,h2,_⟩:=jz.mp hx;lia
def ML.lastA(R:WRule prog w A s n item kd r)(T:Two n r la lb)(h2:∀y∈lb.toList,r y (lab la (la.size-1))=true)(M:ML item r la lb out ia ib)(h:ia+1=la.size):Good item r la lb (out++(lb.map item).extract ib lb.size++(la.map item).extract ia la.size):=
 M.last λx hx y J=>by
  obtain⟨i,i1,i2,rfl⟩:=jz.mp hx;obtain⟨j,j1,j2,rfl⟩:=jz.mp J
  obtain rfl:j=la.size-1:=q5
  exact R.asy _ _ (T.bl i2) (T.al j2) (h2 _ (qu i2))
end
end
end L2.Srt
set_option maxHeartbeats 1000000
namespace L2.Srt
open PySem PyProof.Rows
abbrev Sn(γ:Type):=Option (Array Keyed) × γ
abbrev SM:=StateT SortSt Sem
abbrev Fn(γ:Type):=ForInStep (Sn γ)
abbrev Tn:=Array Keyed × Nat × Nat × Nat × Nat
abbrev Un:=Array Keyed × Nat × Nat × Nat × Nat × Nat
abbrev Vn:=Array Keyed × Nat × Nat × Nat
noncomputable def XI{γ:Type}(o:Array Keyed)(x:γ):SM (Fn γ):=(pure (ForInStep.done (some o,x)):SM _)
noncomputable def xc4{γ:Type}(x:γ):SM (Fn γ):=(pure (ForInStep.done (none,x)):SM _)
def zJ8{γ:Type}(x:γ):SM (Fn γ):=(pure (ForInStep.yield (none,x)):SM _)
section
variable (a b:Array Keyed)
def eA(o:Array Keyed)(i j:Nat):Array Keyed:=o++a.extract i++b.extract j
def eB(o:Array Keyed)(i j:Nat):Array Keyed:=o++b.extract j++a.extract i
noncomputable def l1a(g c d:Nat)(o:Array Keyed)(i j:Nat):SM (Fn Tn):=if (i+1 == a.size)=true then XI (eB a b o i j) (o,i,j,c,d) else if c>=g then xc4 (o,i,j,c,d) else zJ8 (o,i,j,c,d)
noncomputable def l1b(g c d:Nat)(o:Array Keyed)(i j:Nat):SM (Fn Tn):=if (j == b.size)=true then XI (eA a b o i j) (o,i,j,c,d) else if d>=g then xc4 (o,i,j,c,d) else zJ8 (o,i,j,c,d)
noncomputable def l1(g c d:Nat)(o:Array Keyed)(i j:Nat):SM (Fn Tn):=elem' b j >>= λy=>elem' a i >>= λx=>lt' y x >>= λw=>match w with
 |some w=>if w=true then elem' b j >>= λz=>l1b a b g 0 (d+1) (o.push z) i (j+1) else elem' a i >>= λz=>l1a a b g (c+1) 0 (o.push z) (i+1) j
 |_=>XI (eA a b o i j) (o,i,j,c,d)
noncomputable def l4(g c d:Nat)(o:Array Keyed)(i j:Nat):SM (Fn Un):=elem' a i >>= λx=>if (i+1+1 == a.size)=true then XI (eB a b (o.push x) (i+1) j) (o.push x,i+1,j,g,c,d)
 else if (decide (c<7)&&decide (d<7))=true then xc4 (o.push x,i+1,j,g,c,d) else zJ8 (o.push x,i+1,j,g,c,d)
noncomputable def l3b(g c d k:Nat)(o:Array Keyed)(i j:Nat):SM (Fn Un):=if k > 0 then
  if (j+k == b.size)=true then XI (eA a b (o++b.extract j (j+k)) i (j+k)) (o++b.extract j (j+k),i,j+k,g,c,k) else l4 a b g c k (o++b.extract j (j+k)) i (j+k)
 else l4 a b g c k o i j
noncomputable def l3(g c d:Nat)(o:Array Keyed)(i j:Nat):SM (Fn Un):=elem' b j >>= λy=>if (j+1 == b.size)=true then XI (eA a b (o.push y) i (j+1)) (o.push y,i,j+1,g,c,d)
 else elem' a i >>= λx=>Zg true x b (j+1) (b.size-(j+1)) 0 >>= λk=>match k with
  |some k=>l3b a b g c d k (o.push y) i (j+1)
  |_=>XI (eA a b (o.push y) i (j+1)) (o.push y,i,j+1,g,c,d)
noncomputable def l2b(g d k:Nat)(o:Array Keyed)(i j:Nat):SM (Fn Un):=if k > 0 then
  if (i+k+1 == a.size)=true then XI (eB a b (o++a.extract i (i+k)) (i+k) j) (o++a.extract i (i+k),i+k,j,g,k,d)
  else if (i+k == a.size)=true then XI (eA a b (o++a.extract i (i+k)) (i+k) j) (o++a.extract i (i+k),i+k,j,g,k,d)
  else l3 a b g k d (o++a.extract i (i+k)) (i+k) j
 else l3 a b g k d o i j
noncomputable def l2(c d:Nat)(o:Array Keyed)(i j g:Nat):SM (Fn Un):=kL g >>= λ_=>elem' b j >>= λy=>Zg false y a i (a.size-i) 0 >>= λk=>match k with
 |some k=>l2b a b g d k o i j
 |_=>XI (eA a b o i j) (o,i,j,g,c,d)
noncomputable def l2u(u:Un):SM (Fn Un):=if u.2.2.2.1 > 1 then l2 a b u.2.2.2.2.1 u.2.2.2.2.2 u.1 u.2.1 u.2.2.1 (u.2.2.2.1-1) else l2 a b u.2.2.2.2.1 u.2.2.2.2.2 u.1 u.2.1 u.2.2.1 u.2.2.2.1
noncomputable def l5(s:Sn Un):SM (Fn Vn):=match s.1 with
 |some r=>XI r (s.2.1,s.2.2.1,s.2.2.2.1,s.2.2.2.2.1)
 |none=>kL (s.2.2.2.2.1+1) >>= λ_=>zJ8 (s.2.1,s.2.2.1,s.2.2.2.1,s.2.2.2.2.1+1)
noncomputable def l6(g:Nat)(s:Sn Tn):SM (Fn Vn):=match s.1 with
 |some r=>XI r (s.2.1,s.2.2.1,s.2.2.2.1,g)
 |none=>(rule "list.sort.gallop" : SM Unit) >>= λ_=>forIn [0:a.size+b.size] ((none,s.2.1,s.2.2.1,s.2.2.2.1,g+1,s.2.2.2.2.1,s.2.2.2.2.2):Sn Un) (λ_ u=>l2u a b u.2) >>= λu=>l5 u
def l1t(g:Nat)(s:Tn):SM (Fn Tn):=l1 a b g s.2.2.2.1 s.2.2.2.2 s.1 s.2.1 s.2.2.1
noncomputable def l7(v:Vn):SM (Fn Vn):=forIn [0:a.size+b.size] ((none,v.1,v.2.1,v.2.2.1,0,0):Sn Tn) (λ_ s=>l1t a b v.2.2.2 s.2) >>= λs=>l6 a b v.2.2.2 s
noncomputable def xd5{γ:Type}(v:Sn γ):SM (Array Keyed):=match v.1 with
 |some r=>pure r
 |none=>unsupported "internal:list.sort.merge-bound"
noncomputable def l8:SM (Array Keyed):=(rule "list.sort.merge-lo" : SM Unit) >>= λ_=>elem' b 0 >>= λy=>if (1 == b.size)=true then pure (eA a b #[y] 0 1)
 else if (0+1 == a.size)=true then pure (eB a b #[y] 0 1)
 else get >>= λst=>forIn [0:a.size+b.size] ((none,#[y],0,1,gallopOf st):Sn Vn) (λ_ v=>l7 a b v.2) >>= λv=>xd5 v
theorem Jm:UI a b=l8 a b:=by
 show bind _ _=bind _ _
 congr 1;funext x;dsimp only
 congr 1;funext y
 by_cases e:(1 == b.size)=true
 ·rw[if_pos e,if_pos e];rfl
 rw[if_neg e,if_neg e]
 by_cases J:(0+1 == a.size)=true
 ·rw[if_pos J,if_pos J];rfl
 rw[if_neg J,if_neg J]
 congr 1;funext st
 congr 1
 ·congr 1
  funext x v
  unfold l7
  congr 1
  funext s
  unfold l6;cases s.1
  ·dsimp only
   congr 1;funext x
   congr 1
   funext u
   unfold l5
   cases u.1<;>rfl
  ·rfl
 ·funext v
  unfold xd5
  cases v.1<;>rfl
end
section
variable {prog:Qq3}{w:Qqa}{A:Around}{E:QqV}{s:Qq1}{t u:SortSt}{n:Nat}{item:Nat->Keyed}{kd:SortKind}{r:Qq6}{la lb:Qq7}{N c d g i j k:Nat}{o:Array Keyed}
def yi{α:Type}{c:Prop}[Decidable c]{W J:StateT SortSt Sem α}{Q:α->SortSt->Prop}(h1:c->wpS (model prog w) A E s W Q t)(h2:¬c->wpS (model prog w) A E s J Q t):wpS (model prog w) A E s (if c then W else J) Q t:=by
 by_cases h:c
 ·rw[if_pos h];exact h1 h
 ·rw[if_neg h];exact h2 h
def kh{a b:Nat}(h:(a == b)=true):a=b:=by simpa using h
def kG{a b:Nat}(h:¬(a == b)=true):a≠b:=by simpa using h
def Same.tr{v:SortSt}(h:Same t u)(g:Same u v):Same t v:=⟨g.arr.trans h.arr,g.kd.trans h.kd,g.pend.trans h.pend,g.ok.trans h.ok⟩
section
variable {γ:Type}{P:Nat->γ->Prop}{G:Array Keyed->Prop}{b:Prop}
structure Lq(P:Nat->γ->Prop)(G:Array Keyed->Prop)(b:Prop)(Q:ForInStep (Sn γ)->SortSt->Prop)(N:Nat)(t:SortSt):Prop where
 ok:∀o x u,Same t u->G o->Q (.done (some o,x)) u
 dn:b->∀x u N',Same t u->P N' x->N'<N->Q (.done (none,x)) u
 nx:∀x u N',Same t u->P N' x->N'<N->Q (.yield (none,x)) u
def Le(P:Nat->γ->Prop)(G:Array Keyed->Prop)(b:Prop)(N:Nat)(v:Sn γ):Prop:=(∃o,v.1=some o/\G o)\/b/\v.1=none/\∃N'<N,P N' v.2
def kX{Q:ForInStep (Sn γ)->SortSt->Prop}{x:γ}(q:Lq P G b Q N t)(S:Same t u)(h:G o):wpS (model prog w) A E s (XI o x) Q u:=zU (q.ok _ _ _ S h)
def zj0{Q:ForInStep (Sn γ)->SortSt->Prop}{x:γ}{N':Nat}{c:Prop}[Decidable c](q:Lq P G True Q N t)(S:Same t u)(h:P N' x)(hN:N'<N):wpS (model prog w) A E s (if c then xc4 x else zJ8 x) Q u:=
 yi (λ_=>zU (q.dn trivial _ _ _ S h hN)) λ_=>zU (q.nx _ _ _ S h hN)
def Xf(b:Prop){m:Nat}{f:γ->SM (Fn γ)}{v:γ}{Q:Sn γ->SortSt->Prop}(hP:∀N x,P N x->1<=N)(hm:N<m)(Y:P N v)
  (hf:∀v u Q N',Same t u->P N' v->N'<=N->Lq P G b Q N' u->wpS (model prog w) A E s (f v) Q u) (ne:∀v u,Same t u->Le P G b N v->Q v u) :
  wpS (model prog w) A E s (forIn [0:m] ((none,v):Sn γ) λ_ v=>f v.2) Q t:=by
 refine vF (yc (λx v u=>Same t u/\v.1=none/\∃N',N'+x<=N/\P N' v.2) (Q:=λv u=>Same t u/\Le P G b N v) ?_ ?_ ⟨.rfl',rfl,N,zj _,Y⟩) λv u h=>ne v u h.1 h.2
 ·rintro x v u _ hx ⟨S, _, N', hN', h⟩
  have W:N'<=N:=q5
  have e3:∀y,y<N'->y+(x+1)<=N:=λy h=>by lia
  exact hf v.2 u _ N' S h W ⟨λo x u' h G=>⟨S.tr h,.inl ⟨o,rfl,G⟩⟩,λhb x u' N2 h p J=>⟨S.tr h,.inr ⟨hb,rfl,N2,xi J W,p⟩⟩,λx u' N2 h p J=>⟨S.tr h,rfl,N2,e3 _ J,p⟩⟩
 ·rintro v u ⟨S, _, N', hN', h⟩;have:=hP _ _ h
  exfalso;lia
end
structure Lo(prog:Qq3)(w:Qqa)(A:Around)(s:Qq1)(n:Nat)(item:Nat->Keyed)(kd:SortKind)(r:Qq6)(la lb:Qq7):Prop where
 R:WRule prog w A s n item kd r
 T:Two n r la lb
 h1:r (lab lb 0) (lab la 0)=true
 h2:∀y∈lb.toList,r y (lab la (la.size-1))=true
structure PL(item:Nat->Keyed)(r:Qq6)(la lb:Qq7)(N:Nat)(o:Array Keyed)(i j:Nat):Prop where
 M:ML item r la lb o i j
 hi:i+1<la.size
 hj:j<lb.size
 hN:la.size-i+(lb.size-j)<=N
abbrev PLx{β:Type}(item:Nat->Keyed)(r:Qq6)(la lb:Qq7)(N:Nat)(x:Array Keyed × Nat × Nat × β):Prop:=PL item r la lb N x.1 x.2.1 x.2.2.1
abbrev QL{β:Type}(item:Nat->Keyed)(r:Qq6)(la lb:Qq7)(b:Prop)(Q:ForInStep (Sn (Array Keyed × Nat × Nat × β))->SortSt->Prop)(N:Nat)(t:SortSt):Prop:=Lq (PLx item r la lb) (Good item r la lb) b Q N t
def PL.pos{β:Type}(N:Nat)(x:Array Keyed × Nat × Nat × β)(h:PLx item r la lb N x):1<=N:=by have:=h.hN;have:=h.hi;lia
def PL.i0(p:PL item r la lb N o i j):i<la.size:=vH p.hi
def ML.eA(M:ML item r la lb o i j)(h:lb.size<=j\/la.size<=i):Good item r la lb (eA (la.map item) (lb.map item) o i j):=by
 unfold Srt.eA;rw[zQ,zQ];exact h.elim M.doneB M.doneA
variable (L:Lo prog w A s n item kd r la lb)
include L
theorem Lo.fa(hi:i<la.size)(hj:j<lb.size)(g:r (lab lb j) (lab la i)=false):∀y∈lb.toList.drop j,r y (lab la i)=false:=L.T.symm.hd L.R (L.T.al hi) hj g
theorem Lo.fb(hi:i<la.size)(hj:j<lb.size)(g:r (lab lb j) (lab la i)=true):∀y∈la.toList.drop i,r y (lab lb j)=false:=L.T.hd L.R (L.T.bl hj) hi (L.R.asy _ _ (L.T.bl hj) (L.T.al hi) g)
theorem Lo.eB(M:ML item r la lb o i j)(h:i+1=la.size):Good item r la lb (eB (la.map item) (lb.map item) o i j):=by
 unfold Srt.eB;rw[zQ,zQ];exact M.lastA L.R L.T L.h2 h
section
variable {Q:ForInStep (Sn Tn)->SortSt->Prop}
theorem Lo.l1(hk:kindOf t=kd)(q:QL item r la lb True Q N t)(p:PL item r la lb N o i j):wpS (model prog w) A E s (l1 (la.map item) (lb.map item) g c d o i j) Q t:=by
 obtain⟨M,hi,hj,hN⟩:=p;have J:=vH hi;refine zq (yV hj (zq (yV J (zq (Jq L.R hk (L.T.bl hj) (L.T.al J) (λe=>L.T.ne J hj e.symm) ?_)))));cases z:r (lab lb j) (lab la i)
 ·refine zq (yV J (yi (λe => kX q .rfl' (L.eB (M.pushA J (L.fa J hj z)) ?_)) λe => zj0 q .rfl' (N' := la.size - (i + 1) + (lb.size - j)) ⟨M.pushA J (L.fa J hj z), ?_, hj, zj _⟩ ?_))
  ·rw[zQ] at e;exact kh e
  ·rw[zQ] at e;have:=kG e;exact wT hi this
  ·lia
 ·refine zq (yV hj (yi (λe => kX q .rfl' ((M.pushB hj (L.fb J hj z)).eA (.inl ?_))) λe => zj0 q .rfl' (N' := la.size - i + (lb.size - (j + 1))) ⟨M.pushB hj (L.fb J hj z), hi, ?_, zj _⟩ ?_))
  ·rw[zQ] at e;exact Nat.le_of_eq (kh e).symm
  ·rw[zQ] at e;exact wT hj (kG e)
  ·lia
end
section
variable {Q:ForInStep (Sn Un)->SortSt->Prop} (q:QL item r la lb True Q N t) (S:Same t u)
include q S
theorem Lo.l4(p:PL item r la lb N o i j)(z:r (lab lb j) (lab la i)=false):wpS (model prog w) A E s (l4 (la.map item) (lb.map item) g c d o i j) Q u:=by
 obtain⟨M,hi,hj,hN⟩:=p;have J:=vH hi;refine zq (yV J ?_);have M1:=M.pushA J (L.fa J hj z);rw[zQ]
 exact yi (λe=>kX q S (L.eB M1 (kh e))) λe=>zj0 q S (N':=la.size-(i+1)+(lb.size-j)) ⟨M1,wT hi (kG e),hj,zj _⟩ q5
theorem Lo.l3b(p:PL item r la lb N o i j)(hk:k<=lb.size-j)(W:∀i',i'<k->r (lab lb (j+i')) (lab la i)=true)(J:∀i',k<=i'->i'<lb.size-j->r (lab lb (j+i')) (lab la i)=false) :
  wpS (model prog w) A E s (l3b (la.map item) (lb.map item) g c d k o i j) Q u:=by
 obtain⟨M,hi,hj,hN⟩:=p
 refine yi (λ_=>?_) λ_=>L.l4 q S ⟨M,hi,hj,hN⟩ (J 0 q5 q5)
 have hk':j+k<=lb.size:=q5
 have M1:=M.addB hk' λi' h=>L.fb (vH hi) (j:=j+i') q5 (W i' h)
 rw[zQ];refine yi (λe=>kX q S (M1.eA (.inl (Nat.le_of_eq (kh e).symm)))) λe=>?_;have hj':j+k<lb.size:=wT hk' (kG e)
 exact L.l4 q S ⟨M1,hi,hj',q5⟩ (J k (zj _) q5)
theorem Lo.l3(hk:kindOf t=kd)(p:PL item r la lb N o i j)(z:r (lab lb j) (lab la i)=true):wpS (model prog w) A E s (l3 (la.map item) (lb.map item) g c d o i j) Q u:=by
 obtain⟨M,hi,hj,hN⟩:=p;have J:=vH hi;refine zq (yV hj ?_);have M1:=M.pushB hj (L.fb J hj z);rw[zQ];refine yi (λe=>kX q S (M1.eA (.inl (Nat.le_of_eq (kh e).symm)))) λe=>?_;have hj':j+1<lb.size:=wT hj (kG e)
 refine zq (yV J (zq (gal (m:=lb.size-(j+1)) (by':=λi'=>r (lab lb (j+1+i')) (lab la i)) (Nat.sub_pos_of_lt hj') (λi' h Q Y=>?_) (λi' j' h1 h2 W=>?_) λk h g5 g6=>L.l3b q S ⟨M1,hi,hj',q5⟩ h g5 g6)))
 ·exact byd L.R (S.kd.trans hk) (L.T.al J) q5 (L.T.bl q5) (L.T.ne J q5) (by simpa using Y)
 ·by_cases e : i' = j'
  ·rw[e];exact W
  ·cases z : r (lab lb (j + 1 + i')) (lab la i) with
   |true=>rfl
   |false=>exact absurd W (by rw[L.R.tr _ _ _ (L.T.al J) (L.T.bl (i:=j+1+i') q5) (L.T.bl (i:=j+1+j') q5) z (Xw L.T.bu q5 q5)];exact xl)
theorem Lo.l2b(hk:kindOf t=kd)(p:PL item r la lb N o i j)(hk':k<=la.size-i)(Y:∀i',i'<k->r (lab lb j) (lab la (i+i'))=false)(W:∀i',k<=i'->i'<la.size-i->r (lab lb j) (lab la (i+i'))=true) :
  wpS (model prog w) A E s (l2b (la.map item) (lb.map item) g d k o i j) Q u:=by
 obtain⟨M,hi,hj,hN⟩:=p
 refine yi (λ_=>?_) λ_=>L.l3 q S hk ⟨M,hi,hj,hN⟩ (W 0 q5 q5)
 have J:i+k<=la.size:=q5
 have M1:=M.addA J λi' h=>L.fa (i:=i+i') q5 hj (Y i' h)
 rw[zQ];refine yi (λe=>kX q S (L.eB M1 (kh e))) λe=>yi (λe=>kX q S (M1.eA (.inr (Nat.le_of_eq (kh e).symm)))) λe2=>?_
 have h3:i+k+1<la.size:=by have:=kG e;have:=kG e2;lia
 exact L.l3 q S hk ⟨M1,h3,hj,q5⟩ (W k (zj _) q5)
theorem Lo.l2(hk:kindOf t=kd)(p:PL item r la lb N o i j):wpS (model prog w) A E s (l2 (la.map item) (lb.map item) c d o i j g) Q u:=by
 have hi:=p.i0;have hj:=p.hj;unfold Srt.l2;rw[kE,zQ];refine zq (vA ?_);have J:=S.gal g;generalize zd5 u g=u at J ⊢
 refine zq (yV hj (zq (gal (m:=la.size-i) (by':=λi'=>!r (lab lb j) (lab la (i+i'))) (Nat.sub_pos_of_lt hi) (λi' h Q Y=>?_) (λi' j' h1 h2 W=>?_) λk h g5 g6=>L.l2b q J hk p h (λi' h=>by simpa using g5 i' h) λi' h h'=>by simpa using g6 i' h h')))
 ·exact byd L.R (J.kd.trans hk) (L.T.bl hj) q5 (L.T.al q5) (λe=>L.T.ne q5 hj e.symm) (by simpa using Y)
 ·by_cases e : i' = j'
  ·rw[e];exact W
  ·show (!r (lab lb j) (lab la (i + i'))) = true
   rw[L.R.tr _ _ _ (L.T.al (i:=i+i') q5) (L.T.al (i:=i+j') q5) (L.T.bl hj) (Xw L.T.au q5 q5) (by simpa using W)];rfl
end
theorem Lo.l7{b:Prop}{Q:ForInStep (Sn Vn)->SortSt->Prop}{v:Vn}(hk:kindOf t=kd)(q:QL item r la lb b Q N t)(p:PLx item r la lb N v)(hN:N<la.size+lb.size):wpS (model prog w) A E s (l7 (la.map item) (lb.map item) v) Q t:=by
 unfold Srt.l7;rw[zQ,zQ];refine zq (Xf (P:=PLx item r la lb) (G:=Good item r la lb) True PL.pos hN p (λv u Q N' S h _ q'=>L.l1 (S.kd.trans hk) q' h) λv u S h=>?_);unfold l6
 rcases h with ⟨o,e,G⟩ |⟨_,e,N',h,h'⟩
 ·rw[e];exact kX q S G
 rw[e,zQ,zQ];refine zq (wpS_lift (ym ⟨rfl,zq (Xf (P:=PLx item r la lb) (G:=Good item r la lb) True PL.pos (yt h hN) h' (λv u' Q N' S' h' _ q'=>?_) λv u' S' h2=>?_)⟩))
 ·have hk':=(S.tr S').kd.trans hk;exact yi (λ_=>L.l2 q' .rfl' hk' h') λ_=>L.l2 q' .rfl' hk' h'
 ·unfold l5
  rcases h2 with ⟨o,e,G⟩ |⟨_,e,N2,h2,h3⟩
  ·rw[e];exact kX q (S.tr S') G
  ·rw[e,kE];exact zq (vA (zU (q.nx _ _ _ ((S.tr S').gal _) h3 (yt h2 h))))
theorem mlo(hk:kindOf t=kd)(ha:1<=la.size)(W:1<=lb.size){Q:Array Keyed->SortSt->Prop}(q:∀J t',Same t t'->Good item r la lb J->Q J t'):wpS (model prog w) A E s (UI (la.map item) (lb.map item)) Q t:=by
 rw[Jm];unfold l8;refine zq (wpS_lift (ym ⟨rfl,zq (yV W ?_)⟩));rw[zQ,zQ]
 have M0:ML item r la lb #[] 0 0:=⟨#[],by simp,by
  simp only[vw]
  exact⟨List.Perm.refl _,.nil,by simp,by simp,L.T.au,L.T.bu⟩⟩
 have M1:=M0.pushB W (L.fb ha W L.h1);change ML item r la lb #[item (lab lb 0)] 0 1 at M1;generalize #[item (lab lb 0)]=o at M1 ⊢;refine yi (λe=>zU (q _ _ .rfl' (M1.eA (.inl (Nat.le_of_eq (kh e).symm))))) λe=>?_;refine yi (λe=>zU (q _ _ .rfl' (L.eB M1 (kh e)))) λY=>?_;have i2:1<lb.size:=wT W (kG e)
 have hN:la.size-0+(lb.size-1)<la.size+lb.size:=q5
 refine zq (wpS_get (zq (Xf (P:=PLx item r la lb) (G:=Good item r la lb) False PL.pos hN ⟨M1,wT ha (kG Y),i2,zj _⟩ (λv u Q N' S h h' q'=>L.l7 (S.kd.trans hk) q' h (vB h' hN)) λv u S h=>?_)))
 rcases h with ⟨o,e,G⟩ |⟨f,_⟩
 ·unfold xd5;rw[e];exact zU (q _ _ S G)
 ·exact f.elim
end
section
variable (a b:Array Keyed)
abbrev Th:=Nat × Nat × Array Keyed × Nat × Nat
abbrev Uh:=Nat × Nat × Array Keyed × Nat × Nat × Nat
abbrev Vh:=Nat × Nat × Array Keyed × Nat
noncomputable def hA(o:Array Keyed)(i j:Nat):Array Keyed:=a.extract 0 i++b.extract 0 j++o.reverse
noncomputable def hB(o:Array Keyed)(i j:Nat):Array Keyed:=b.extract 0 j++a.extract 0 i++o.reverse
noncomputable def h1(g c d:Nat)(o:Array Keyed)(i j:Nat):SM (Fn Th):=elem' b (j-1) >>= λy=>elem' a (i-1) >>= λx=>lt' y x >>= λw=>match w with
 |some w=>if w=true then elem' a (i-1) >>= λz=>if (i-1 == 0)=true then XI (hA a b (o.push z) (i-1) j) (i-1,j,o.push z,c+1,0) else if c+1>=g then xc4 (i-1,j,o.push z,c+1,0) else zJ8 (i-1,j,o.push z,c+1,0)
  else elem' b (j-1) >>= λz=>if (j-1 == 1)=true then XI (hB a b (o.push z) i (j-1)) (i,j-1,o.push z,0,d+1) else if d+1>=g then xc4 (i,j-1,o.push z,0,d+1) else zJ8 (i,j-1,o.push z,0,d+1)
 |_=>XI (hA a b o i j) (i,j,o,c,d)
noncomputable def h4(g c d:Nat)(o:Array Keyed)(i j:Nat):SM (Fn Uh):=elem' a (i-1) >>= λx=>if (i-1 == 0)=true then XI (hA a b (o.push x) (i-1) j) (i-1,j,o.push x,g,c,d)
 else if (decide (c<7)&&decide (d<7))=true then xc4 (i-1,j,o.push x,g,c,d) else zJ8 (i-1,j,o.push x,g,c,d)
noncomputable def h3b(g c k:Nat)(o:Array Keyed)(i j:Nat):SM (Fn Uh):=if j-k > 0 then
  if (k == 1)=true then XI (hB a b (o++(b.extract k j).reverse) i k) (i,k,o++(b.extract k j).reverse,g,c,j-k)
  else if (k == 0)=true then XI (hA a b (o++(b.extract k j).reverse) i k) (i,k,o++(b.extract k j).reverse,g,c,j-k) else h4 a b g c (j-k) (o++(b.extract k j).reverse) i k
 else h4 a b g c (j-k) o i j
noncomputable def h3(g c d:Nat)(o:Array Keyed)(i j:Nat):SM (Fn Uh):=elem' b (j-1) >>= λy=>if (j-1 == 1)=true then XI (hB a b (o.push y) i (j-1)) (i,j-1,o.push y,g,c,d)
 else elem' a (i-1) >>= λx=>Zg true x b 0 (j-1) (j-1-1) >>= λk=>match k with
  |some k=>h3b a b g c k (o.push y) i (j-1)
  |_=>XI (hA a b (o.push y) i (j-1)) (i,j-1,o.push y,g,c,d)
noncomputable def h2b(g d k:Nat)(o:Array Keyed)(i j:Nat):SM (Fn Uh):=if i-k > 0 then
  if (k == 0)=true then XI (hA a b (o++(a.extract k i).reverse) k j) (k,j,o++(a.extract k i).reverse,g,i-k,d) else h3 a b g (i-k) d (o++(a.extract k i).reverse) k j
 else h3 a b g (i-k) d o i j
noncomputable def h2(c d:Nat)(o:Array Keyed)(i j g:Nat):SM (Fn Uh):=kL g >>= λ_=>elem' b (j-1) >>= λy=>Zg false y a 0 i (i-1) >>= λk=>match k with
 |some k=>h2b a b g d k o i j
 |_=>XI (hA a b o i j) (i,j,o,g,c,d)
noncomputable def h2u(u:Uh):SM (Fn Uh):=if u.2.2.2.1 > 1 then h2 a b u.2.2.2.2.1 u.2.2.2.2.2 u.2.2.1 u.1 u.2.1 (u.2.2.2.1-1) else h2 a b u.2.2.2.2.1 u.2.2.2.2.2 u.2.2.1 u.1 u.2.1 u.2.2.2.1
noncomputable def h5(s:Sn Uh):SM (Fn Vh):=match s.1 with
 |some r=>XI r (s.2.1,s.2.2.1,s.2.2.2.1,s.2.2.2.2.1)
 |none=>kL (s.2.2.2.2.1+1) >>= λ_=>zJ8 (s.2.1,s.2.2.1,s.2.2.2.1,s.2.2.2.2.1+1)
noncomputable def h6(g:Nat)(s:Sn Th):SM (Fn Vh):=match s.1 with
 |some r=>XI r (s.2.1,s.2.2.1,s.2.2.2.1,g)
 |none=>(rule "list.sort.gallop" : SM Unit) >>= λ_=>forIn [0:a.size+b.size] ((none,s.2.1,s.2.2.1,s.2.2.2.1,g+1,s.2.2.2.2.1,s.2.2.2.2.2):Sn Uh) (λ_ u=>h2u a b u.2) >>= λu=>h5 u
def h1t(g:Nat)(s:Th):SM (Fn Th):=h1 a b g s.2.2.2.1 s.2.2.2.2 s.2.2.1 s.1 s.2.1
noncomputable def h7(v:Vh):SM (Fn Vh):=forIn [0:a.size+b.size] ((none,v.1,v.2.1,v.2.2.1,0,0):Sn Th) (λ_ s=>h1t a b v.2.2.2 s.2) >>= λs=>h6 a b v.2.2.2 s
noncomputable def h8:SM (Array Keyed):=(rule "list.sort.merge-hi" : SM Unit) >>= λ_=>elem' a (a.size-1) >>= λy=>if (a.size-1 == 0)=true then pure (hA a b #[y] (a.size-1) b.size)
 else if (b.size == 1)=true then pure (hB a b #[y] (a.size-1) b.size)
 else get >>= λst=>forIn [0:a.size+b.size] ((none,a.size-1,b.size,#[y],gallopOf st):Sn Vh) (λ_ v=>h7 a b v.2) >>= λv=>xd5 v
theorem Jn:UJ a b=h8 a b:=by
 show bind _ _=bind _ _
 congr 1;funext x;dsimp only
 congr 1;funext y
 by_cases e:(a.size-1 == 0)=true
 ·rw[if_pos e,if_pos e];rfl
 rw[if_neg e,if_neg e]
 by_cases J:(b.size == 1)=true
 ·rw[if_pos J,if_pos J];rfl
 rw[if_neg J,if_neg J]
 congr 1;funext st
 congr 1
 ·congr 1
  funext x v
  unfold h7
  congr 1
  funext s
  unfold h6;cases s.1
  ·dsimp only
   congr 1;funext x
   congr 1
   funext u
   unfold h5
   cases u.1<;>rfl
  ·rfl
 ·funext v
  unfold xd5
  cases v.1<;>rfl
end
section
variable {prog:Qq3}{w:Qqa}{A:Around}{E:QqV}{s:Qq1}{t:SortSt}{n:Nat}{u:SortSt}{item:Nat->Keyed}{kd:SortKind}{r:Qq6}
structure MH(item:Nat->Keyed)(r:Qq6)(la lb:Qq7)(out:Array Keyed)(na nb:Nat):Prop where
 o:∃O:Array Nat,out=O.map item/\MI (λx y=>r x y=false) (la.toList++lb.toList) O.toList (la.toList.take na).reverse (lb.toList.take nb).reverse
def qU{ks:Qq7}{k x:Nat}(hk:k<=ks.size):x∈ks.toList.take k↔∃i,i<k/\x=lab ks i:=by
 rw[yp]
 constructor
 ·rintro ⟨i, h⟩;rw[vC] at h
  split at h
  ·rename_i g
   rw[zL,vK q5] at h
   exact⟨i,g,(zD h).symm⟩
  ·cases h
 ·rintro ⟨i, h1, rfl⟩
  exact⟨i,by rw[vC,if_pos h1,zL,vK q5]⟩
def zc9{ks:Qq7}{k:Nat}(h1:1<=k)(hk:k<=ks.size):(ks.toList.take k).reverse=[lab ks (k-1)]++(ks.toList.take (k-1)).reverse:=by
 obtain⟨m,rfl⟩:∃m,k=m+1:=⟨k-1,q5⟩
 rw[Nat.add_sub_cancel,xE,zL,vK q5,yD]
 rfl
def zd0{ks:Qq7}{j k:Nat}(h:j<=k):(ks.toList.take k).reverse=(ks.extract j k).reverse.toList++(ks.toList.take j).reverse:=by
 rw[Array.toList_reverse,wE,xX,<- yD]
 have e:(ks.toList.take k).take j=ks.toList.take j:=by rw[List.take_take,Nat.min_eq_left h]
 rw[<- List.drop_take,<- e,wM]
def zv6{ks:Qq7}{j k x:Nat}(hk:k<=ks.size)(hx:x∈(ks.extract j k).reverse.toList):∃i,j<=i/\i<k/\x=lab ks i:=by
 rw[Array.toList_reverse,wX,wE,xX,<- List.drop_take,yp] at hx;obtain⟨i,hi⟩:=hx;rw[wD,vC] at hi
 split at hi
 ·rename_i g
  rw[zL,vK q5] at hi
  exact⟨j+i,q5,g,(zD hi).symm⟩
 ·cases hi
section
variable {la lb:Qq7}{out:Array Keyed}{na nb:Nat}
def Two.hh(R:WRule prog w A s n item kd r)(T:Two n r la lb){c m:Nat}(J:c<n)(h:m<la.size)(g:r c (lab la m)=false):∀i,i<=m->r c (lab la i)=false:=λi hi=>by
 by_cases e:i=m
 ·rw[e];exact g
 ·exact R.tr _ _ _ (T.al q5) (T.al h) J (Xw T.au q5 h) g
def MH.pushA(M:MH item r la lb out na nb)(h:1<=na)(ha:na<=la.size)(W:nb<=lb.size)(g:∀j,j<nb->r (lab la (na-1)) (lab lb j)=false):MH item r la lb (out.push (item (lab la (na-1)))) (na-1) nb:=by
 obtain⟨O,rfl,m⟩:=M.o;rw[zc9 h ha] at m
 refine⟨O.push (lab la (na-1)),by rw[Array.map_push],?_⟩
 rw[vJ]
 exact m.takeA λx hx y J=>by
  obtain⟨j,hj,rfl⟩:=(qU W).mp (wX.mp J);rw[zE.mp hx];exact g j hj
def MH.pushB(M:MH item r la lb out na nb)(h:1<=nb)(ha:na<=la.size)(W:nb<=lb.size)(g:∀j,j<na->r (lab lb (nb-1)) (lab la j)=false):MH item r la lb (out.push (item (lab lb (nb-1)))) na (nb-1):=by
 obtain⟨O,rfl,m⟩:=M.o;rw[zc9 h W] at m
 refine⟨O.push (lab lb (nb-1)),by rw[Array.map_push],?_⟩
 rw[vJ]
 exact m.takeB λx hx y J=>by
  obtain⟨j,hj,rfl⟩:=(qU ha).mp (wX.mp J);rw[zE.mp hx];exact g j hj
def MH.addA(M:MH item r la lb out na nb){k:Nat}(h:k<=na)(ha:na<=la.size)(W:nb<=lb.size)(g:∀i,k<=i->i<na->∀j,j<nb->r (lab la i) (lab lb j)=false):MH item r la lb (out++((la.map item).extract k na).reverse) k nb:=by
 obtain⟨O,rfl,m⟩:=M.o;rw[zd0 h] at m
 refine⟨O++(la.extract k na).reverse,by rw[wh,Array.map_reverse,xG],?_⟩
 rw[xp]
 exact m.takeA λx hx y J=>by
  obtain⟨j,hj,rfl⟩:=(qU W).mp (wX.mp J);obtain⟨i,i1,i2,rfl⟩:=zv6 ha hx;exact g i i1 i2 j hj
def MH.addB(M:MH item r la lb out na nb){k:Nat}(h:k<=nb)(ha:na<=la.size)(W:nb<=lb.size)(g:∀i,k<=i->i<nb->∀j,j<na->r (lab lb i) (lab la j)=false):MH item r la lb (out++((lb.map item).extract k nb).reverse) na k:=by
 obtain⟨O,rfl,m⟩:=M.o;rw[zd0 h] at m
 refine⟨O++(lb.extract k nb).reverse,by rw[wh,Array.map_reverse,xG],?_⟩
 rw[xp]
 exact m.takeB λx hx y J=>by
  obtain⟨j,hj,rfl⟩:=(qU ha).mp (wX.mp J);obtain⟨i,i1,i2,rfl⟩:=zv6 W hx;exact g i i1 i2 j hj
def US{ks:Qq7}{i:Nat}:(ks.extract 0 i).toList=ks.toList.take i:=by
 rw[wE,xX,vw,Nat.sub_zero]
def MH.done(M:MH item r la lb out na nb)(ha:na<=la.size)(W:nb<=lb.size)(g:∀i,i<nb->∀j,j<na->r (lab lb i) (lab la j)=false):Good item r la lb ((la.map item).extract 0 na++(lb.map item).extract 0 nb++out.reverse):=by
 obtain⟨O,rfl,m⟩:=M.o
 obtain⟨p1,p2⟩:=m.endB λx hx y J=>by
  obtain⟨i,hi,rfl⟩:=(qU W).mp (wX.mp hx);obtain⟨j,hj,rfl⟩:=(qU ha).mp (wX.mp J);exact g i hi j hj
 have e:(la.extract 0 na++lb.extract 0 nb++O.reverse).toList=(O.toList++(lb.toList.take nb).reverse++(la.toList.take na).reverse).reverse:=by
  rw[xp,xp,US,US,Array.toList_reverse,yD,yD,reverse_reverse,reverse_reverse,wn]
 refine⟨la.extract 0 na++lb.extract 0 nb++O.reverse,by rw[wh,wh,xG,xG,Array.map_reverse],?_,?_⟩
 ·rw[e];exact(reverse_perm _).trans p1
 ·rw[e,List.pairwise_reverse];exact p2
def MH.first(M:MH item r la lb out na nb)(ha:na<=la.size)(W:nb<=lb.size)(g:∀j,j<na->∀i,i<nb->r (lab la j) (lab lb i)=false):Good item r la lb ((lb.map item).extract 0 nb++(la.map item).extract 0 na++out.reverse):=by
 obtain⟨O,rfl,m⟩:=M.o
 obtain⟨p1,p2⟩:=m.endA λx hx y J=>by
  obtain⟨i,hi,rfl⟩:=(qU ha).mp (wX.mp hx);obtain⟨j,hj,rfl⟩:=(qU W).mp (wX.mp J);exact g i hi j hj
 have e:(lb.extract 0 nb++la.extract 0 na++O.reverse).toList=(O.toList++(la.toList.take na).reverse++(lb.toList.take nb).reverse).reverse:=by
  rw[xp,xp,US,US,Array.toList_reverse,yD,yD,reverse_reverse,reverse_reverse,wn]
 refine⟨lb.extract 0 nb++la.extract 0 na++O.reverse,by rw[wh,wh,xG,xG,Array.map_reverse],?_,?_⟩
 ·rw[e];exact(reverse_perm _).trans p1
 ·rw[e,List.pairwise_reverse];exact p2
end
section
variable {N c d g i j k:Nat}{o:Array Keyed}{la lb:Qq7}
structure PH(item:Nat->Keyed)(r:Qq6)(la lb:Qq7)(N:Nat)(o:Array Keyed)(i j:Nat):Prop where
 M:MH item r la lb o i j
 i1:1<=i
 i2:i<=la.size
 j1:2<=j
 j2:j<=lb.size
 hN:i+j<=N
abbrev PHx{β:Type}(item:Nat->Keyed)(r:Qq6)(la lb:Qq7)(N:Nat)(x:Nat × Nat × Array Keyed × β):Prop:=PH item r la lb N x.2.2.1 x.1 x.2.1
abbrev QH{β:Type}(item:Nat->Keyed)(r:Qq6)(la lb:Qq7)(b:Prop)(Q:Fn (Nat × Nat × Array Keyed × β)->SortSt->Prop)(N:Nat)(t:SortSt):Prop:=Lq (PHx item r la lb) (Good item r la lb) b Q N t
def PH.pos{β:Type}(N:Nat)(x:Nat × Nat × Array Keyed × β)(h:PHx item r la lb N x):1<=N:=zG h.i1 (zG (Nat.le_add_right _ _) h.hN)
def sub1{i m:Nat}(h:1<=i)(h':i<=m):i-1<m:=q5
def zF0{j:Nat}(h:2<=j):1<=j:=q5
def xt8{i:Nat}(h:1<=i)(e:¬(i-1 == 0)=true):1<=i-1:=by have:=kG e;lia
def xD5{j:Nat}(h:2<=j)(e:¬(j-1 == 1)=true):2<=j-1:=by have:=kG e;lia
def lt3{m i:Nat}(h:1<=i)(J:m<i):m<i-1+1:=q5
variable (L:Lo prog w A s n item kd r la lb)
include L
theorem Lo.hA(hi:i<la.size)(hj:j<lb.size)(g:r (lab lb j) (lab la i)=true):∀m,m<j+1->r (lab la i) (lab lb m)=false:=λm J=>L.T.symm.hh L.R (L.T.al hi) hj (L.R.asy _ _ (L.T.bl hj) (L.T.al hi) g) m (Nat.le_of_lt_succ J)
theorem Lo.hB(hi:i<la.size)(hj:j<lb.size)(g:r (lab lb j) (lab la i)=false):∀m,m<i+1->r (lab lb j) (lab la m)=false:=λm J=>L.T.hh L.R (L.T.bl hj) hi g m (Nat.le_of_lt_succ J)
theorem Lo.fst(M:MH item r la lb o i j)(hi:i<=la.size)(J:1<=lb.size)(hj:j=1):Good item r la lb (Srt.hB (la.map item) (lb.map item) o i j):=M.first hi q5 λj' hj' i' hi'=>by
 obtain rfl:i'=0:=q5
 have z:r (lab la 0) (lab lb 0)=false:=L.R.asy _ _ (L.T.bl J) (L.T.al q5) L.h1
 by_cases e:j'=0
 ·rw[e];exact z
 ·exact L.R.tr _ _ _ (L.T.bl J) (L.T.al (i:=0) q5) (L.T.al q5) z (Xw L.T.au q5 q5)
omit L in
theorem MH.don(M:MH item r la lb o i j)(hi:i<=la.size)(hj:j<=lb.size)(h:i=0\/j=0):Good item r la lb (Srt.hA (la.map item) (lb.map item) o i j):=M.done hi hj λi' hi' j' hj'=>by lia
theorem Lo.pA(p:PH item r la lb N o i j)(z:r (lab lb (j-1)) (lab la (i-1))=true):MH item r la lb (o.push (item (lab la (i-1)))) (i-1) j:=p.M.pushA p.i1 p.i2 p.j2 λm J=>L.hA (sub1 p.i1 p.i2) (sub1 (zF0 p.j1) p.j2) z m (lt3 (zF0 p.j1) J)
theorem Lo.pB(p:PH item r la lb N o i j)(z:∀m,m<i->r (lab lb (j-1)) (lab la m)=false):MH item r la lb (o.push (item (lab lb (j-1)))) i (j-1):=p.M.pushB (zF0 p.j1) p.i2 p.j2 z
theorem Lo.h1'{Q:Fn Th->SortSt->Prop}(hk:kindOf t=kd)(q:QH item r la lb True Q N t)(p:PH item r la lb N o i j):wpS (model prog w) A E s (Srt.h1 (la.map item) (lb.map item) g c d o i j) Q t:=by
 have hi:=sub1 p.i1 p.i2;have hj:=sub1 (zF0 p.j1) p.j2;have hN:=p.hN;have i1:=p.i1;have j1:=p.j1;refine zq (yV hj (zq (yV hi (zq (Jq L.R hk (L.T.bl hj) (L.T.al hi) (λe=>L.T.ne hi hj e.symm) ?_)))));cases z:r (lab lb (j-1)) (lab la (i-1))
 ·have M := L.pB p λm J => L.hB hi hj z m (lt3 i1 J)
  exact zq (yV hj (yi (λe=>kX q .rfl' (L.fst M p.i2 (zG (zF0 j1) p.j2) (kh e))) λe=>zj0 q .rfl' (N':=i+(j-1)) ⟨M,i1,p.i2,xD5 j1 e,wb hj,zj _⟩ q5))
 ·have M := L.pA p z
  exact zq (yV hi (yi (λe=>kX q .rfl' (M.don (wb hi) p.j2 (.inl (kh e)))) λe=>zj0 q .rfl' (N':=i-1+j) ⟨M,xt8 i1 e,wb hi,j1,p.j2,zj _⟩ q5))
section
variable {Q:Fn Uh->SortSt->Prop} (q:QH item r la lb True Q N t) (S:Same t u)
include q S
theorem Lo.h4(M:MH item r la lb o i j)(i1:1<=i)(i2:i<=la.size)(j1:2<=j)(j2:j<=lb.size)(hN:i+j<=N)(z:∀m,m<j->r (lab la (i-1)) (lab lb m)=false):wpS (model prog w) A E s (h4 (la.map item) (lb.map item) g c d o i j) Q u:=by
 have hi:=sub1 i1 i2;have M1:=M.pushA i1 i2 j2 z
 exact zq (yV hi (yi (λe=>kX q S (M1.don (wb hi) j2 (.inl (kh e)))) λe=>zj0 q S (N':=i-1+j) ⟨M1,xt8 i1 e,wb hi,j1,j2,zj _⟩ q5))
theorem Lo.h3b(p:PH item r la lb N o i j)(hk:k<=j)(g5:∀m,m<k->r (lab lb m) (lab la (i-1))=true)(g6:∀m,k<=m->m<j->r (lab lb m) (lab la (i-1))=false) :
  wpS (model prog w) A E s (h3b (la.map item) (lb.map item) g c k o i j) Q u:=by
 obtain⟨M,i1,i2,j1,j2,hN⟩:=p;have hi:=sub1 i1 i2
 have z:∀m,m<k->r (lab la (i-1)) (lab lb m)=false:=λm hm=>L.R.asy _ _ (L.T.bl q5) (L.T.al hi) (g5 m hm)
 refine yi (λ_=>?_) λe=>?_
 ·have M1 := M.addB hk i2 j2 λm Y W x hx => L.hB hi q5 (g6 m Y W) x (lt3 i1 hx)
  have J:k<=lb.size:=zG hk j2
  exact yi (λe=>kX q S (L.fst M1 i2 q5 (kh e))) λe=>yi (λe=>kX q S (M1.don i2 J (.inr (kh e)))) λe'=>L.h4 q S M1 i1 i2 (by have:=kG e;have:=kG e';lia) J q5 z
 ·obtain rfl : k = j := by lia
  exact L.h4 q S M i1 i2 j1 j2 hN z
theorem Lo.h3(hk:kindOf t=kd)(p:PH item r la lb N o i j)(z:∀m,m<i->r (lab lb (j-1)) (lab la m)=false):wpS (model prog w) A E s (h3 (la.map item) (lb.map item) g c d o i j) Q u:=by
 have hi:=sub1 p.i1 p.i2;have hj:=sub1 (zF0 p.j1) p.j2;have M1:=L.pB p z;obtain⟨M,i1,i2,j1,j2,hN⟩:=p
 refine zq (yV hj (yi (λe=>kX q S (L.fst M1 i2 q5 (kh e))) λe=>?_))
 have j1':=xD5 j1 e
 refine zq (yV hi (zq (gal (m:=j-1) (by':=λm=>r (lab lb (0+m)) (lab la (i-1))) q5 (λm h Q W=>?_) (λm x h1 h2 J=>?_) λk h g5 Y=>L.h3b q S ⟨M1,i1,i2,j1',wb hj,q5⟩ h (λm h=>by have:=g5 m h;rwa [Nat.zero_add] at this) λm h h'=>by have:=Y m h h';rwa [Nat.zero_add] at this)))
 ·exact byd L.R (S.kd.trans hk) (L.T.al hi) q5 (L.T.bl q5) (L.T.ne hi q5) (by simpa using W)
 ·by_cases e : m = x
  ·rw[e];exact J
  ·cases z : r (lab lb (0 + m)) (lab la (i - 1)) with
   |true=>rfl
   |false=>exact absurd J (by rw[L.R.tr _ _ _ (L.T.al hi) (L.T.bl (i:=0+m) q5) (L.T.bl (i:=0+x) q5) z (Xw L.T.bu q5 q5)];exact xl)
theorem Lo.h2b(hk:kindOf t=kd)(p:PH item r la lb N o i j)(hk':k<=i)(W:∀m,m<k->r (lab lb (j-1)) (lab la m)=false)(g2:∀m,k<=m->m<i->r (lab lb (j-1)) (lab la m)=true):wpS (model prog w) A E s (h2b (la.map item) (lb.map item) g d k o i j) Q u:=by
 refine yi (λ_=>?_) λe=>?_
 ·obtain ⟨M, i1, i2, j1, j2, hN⟩ := p;have hj:=sub1 (zF0 j1) j2
  have M1:=M.addA hk' i2 j2 λm m1 Y x hx=>L.hA q5 hj (g2 m m1 Y) x (lt3 (zF0 j1) hx)
  have J:=zG hk' i2
  exact yi (λe=>kX q S (M1.don J j2 (.inl (kh e)))) λe=>L.h3 q S hk ⟨M1,Nat.pos_of_ne_zero (kG e),J,j1,j2,q5⟩ W
 ·obtain rfl : k = i := by lia
  exact L.h3 q S hk p W
theorem Lo.h2'(hk:kindOf t=kd)(p:PH item r la lb N o i j):wpS (model prog w) A E s (Srt.h2 (la.map item) (lb.map item) c d o i j g) Q u:=by
 have hj:=sub1 (zF0 p.j1) p.j2;have i1:=p.i1;have i2:=p.i2;unfold Srt.h2;rw[kE];refine zq (vA ?_);have J:=S.gal g;generalize zd5 u g=u at J ⊢
 refine zq (yV hj (zq (gal (m:=i) (by':=λm=>!r (lab lb (j-1)) (lab la (0+m))) q5 (λm h Q Y=>?_) (λm x h1 h2 W=>?_) λk h g5 g6=>L.h2b q J hk p h (λm h=>by have:=g5 m h;rw[Nat.zero_add] at this;simpa using this) λm h h'=>by have:=g6 m h h';rw[Nat.zero_add] at this;simpa using this)))
 ·exact byd L.R (J.kd.trans hk) (L.T.bl hj) q5 (L.T.al q5) (λe=>L.T.ne q5 hj e.symm) (by simpa using Y)
 ·by_cases e : m = x
  ·rw[e];exact W
  ·show (!r (lab lb (j - 1)) (lab la (0 + m))) = true
   rw[L.R.tr _ _ _ (L.T.al (i:=0+m) q5) (L.T.al (i:=0+x) q5) (L.T.bl hj) (Xw L.T.au q5 q5) (by simpa using W)];rfl
end
theorem Lo.h7{b:Prop}{Q:Fn Vh->SortSt->Prop}{v:Vh}(hk:kindOf t=kd)(q:QH item r la lb b Q N t)(p:PHx item r la lb N v)(hN:N<la.size+lb.size):wpS (model prog w) A E s (h7 (la.map item) (lb.map item) v) Q t:=by
 unfold Srt.h7;rw[zQ,zQ];refine zq (Xf (P:=PHx item r la lb) (G:=Good item r la lb) True PH.pos hN p (λv u Q N' S h _ q'=>L.h1' (S.kd.trans hk) q' h) λv u S h=>?_);unfold h6
 rcases h with ⟨o,e,G⟩ |⟨_,e,N',h,h'⟩
 ·rw[e];exact kX q S G
 rw[e,zQ,zQ];refine zq (wpS_lift (ym ⟨rfl,zq (Xf (P:=PHx item r la lb) (G:=Good item r la lb) True PH.pos (yt h hN) h' (λv u' Q N' S' h' _ q'=>?_) λv u' S' h2=>?_)⟩))
 ·have hk':=(S.tr S').kd.trans hk;exact yi (λ_=>L.h2' q' .rfl' hk' h') λ_=>L.h2' q' .rfl' hk' h'
 ·unfold h5
  rcases h2 with ⟨o,e,G⟩ |⟨_,e,N2,h2,h3⟩
  ·rw[e];exact kX q (S.tr S') G
  ·rw[e,kE];exact zq (vA (zU (q.nx _ _ _ ((S.tr S').gal _) h3 (yt h2 h))))
theorem mhi(hk:kindOf t=kd)(ha:1<=la.size)(hb:1<=lb.size){Q:Array Keyed->SortSt->Prop}(q:∀W t',Same t t'->Good item r la lb W->Q W t'):wpS (model prog w) A E s (UJ (la.map item) (lb.map item)) Q t:=by
 rw[Jn];unfold h8;rw[zQ,zQ];have J:la.size-1<la.size:=sub1 ha (zj _);refine zq (wpS_lift (ym ⟨rfl,zq (yV J ?_)⟩))
 have M0:MH item r la lb #[] la.size lb.size:=⟨#[],by simp,by
  have Y:la.toList.take la.size=la.toList:=xZ (by rw[zm];exact zj _)
  have e2:lb.toList.take lb.size=lb.toList:=xZ (by rw[zm];exact zj _)
  rw[Y,e2]
  exact⟨by simpa using (reverse_perm _).append (reverse_perm _),.nil,by simp,by simp,List.pairwise_reverse.mpr L.T.au,List.pairwise_reverse.mpr L.T.bu⟩⟩
 have M1:=M0.pushA ha (zj _) (zj _) λj hj=>L.R.asy _ _ (L.T.bl hj) (L.T.al J) (L.h2 _ (qu hj));change MH item r la lb #[item (lab la (la.size-1))] (la.size-1) lb.size at M1;generalize #[item (lab la (la.size-1))]=o at M1 ⊢;refine yi (λe=>zU (q _ _ .rfl' (M1.don (wb J) (zj _) (.inl (kh e))))) λe=>yi (λe=>zU (q _ _ .rfl' (L.fst M1 (wb J) hb (kh e)))) λY=>?_;have hN:la.size-1+lb.size<la.size+lb.size:=Nat.add_lt_add_right J _;refine zq (wpS_get (zq (Xf (P:=PHx item r la lb) (G:=Good item r la lb) False PH.pos hN ⟨M1,xt8 ha e,wb J,wT hb (λz=>kG Y z.symm),zj _,zj _⟩ (λv u Q N' S h h' q'=>L.h7 (S.kd.trans hk) q' h (vB h' hN)) λv u S h=>?_)))
 rcases h with ⟨o,e,G⟩ |⟨f,_⟩
 ·unfold xd5;rw[e];exact zU (q _ _ S G)
 ·exact f.elim
end
end
theorem ze1{α:Type}:∀(l:List α) (arr:Array α) (sa k:Nat),sa+k+l.length<=arr.size->((l.zipIdx k).foldl (λa (p:α × Nat)=>a.setIfInBounds (sa+p.2) p.1) arr).toList=arr.toList.take (sa+k)++l++arr.toList.drop (sa+k+l.length)
 |[],arr,sa,k,h=>by simp
 | x :: l, arr, sa, k, h => by
  rw[zP] at h
  have hi:sa+k<arr.toList.length:=by rw[zm];lia
  rw[vt,List.foldl_cons,ze1 l _ sa (k+1) (by rw[Array.size_setIfInBounds];lia),Array.toList_setIfInBounds]
  have W:(arr.toList.set (sa+k) x).take (sa+(k+1))=arr.toList.take (sa+k)++[x]:=by
   rw[<- Nat.add_assoc,xE,List.take_set_of_le (zj _),xg hi];rfl
  have J:(arr.toList.set (sa+k) x).drop (sa+(k+1)+l.length)=arr.toList.drop (sa+k+(l.length+1)):=by
   rw[List.drop_set_of_lt q5]
   congr 1;lia
  rw[W,J,zP];simp
def zT2{M:Model}{A:Around}{E:QqV}{s:Qq1}{σ:Type}{st':σ}{Q:PUnit->σ->Prop}{st:σ}(h:Q ⟨⟩ st'):wpS M A E s (set st':StateT σ Sem PUnit) Q st:=by
 unfold wpS;rw[StateT.run_set];exact ze ⟨rfl,h⟩
structure Nw(n:Nat)(item:Nat->Keyed)(kd:SortKind)(ls:Qq7)(t:SortSt):Prop where
 arr:arrOf t=ls.map item
 kd:kindOf t=kd
 ok:failedOf t=none
 perm:ls.Perm (Array.range n)
def Seg(r:Qq6)(ls:Qq7)(s m:Nat):Prop:=∀i j,s<=i->i<j->j<s+m->r (lab ls j) (lab ls i)=false
section
variable {n:Nat}{item:Nat->Keyed}{kd:SortKind}{r:Qq6}{ls:Qq7}{t:SortSt}
def Zu(h:ls.Perm (Array.range n)):ls.toList.Nodup:=(wg.mp h).nodup_iff.mpr (by rw[vD];exact List.nodup_range)
def Nw.size(N:Nw n item kd ls t):ls.size=n:=by rw[N.perm.size_eq,yb]
def YZ(h:ls.Perm (Array.range n)){x:Nat}(hx:x∈ls.toList):x<n:=by
 have:=((wg.mp h).mem_iff).mp hx
 rwa [vD,vv] at this
def Nw.lt(N:Nw n item kd ls t){i:Nat}(h:i<n):lab ls i<n:=YZ N.perm (qu (by rw[N.size];exact h))
def zK1(h:ls.toList.Nodup){i j:Nat}(J:i<j)(hj:j<ls.size):lab ls i≠lab ls j:=by
 have hi':i<ls.toList.length:=by rw[zm];lia
 have hj':j<ls.toList.length:=by rw[zm];exact hj
 have:=xV.mp h i j hi' hj' J
 have Y:=vK (ls:=ls) (i:=i) q5
 have W:=vK (ls:=ls) hj;rw[<- zL,zd hi'] at Y;rw[<- zL,zd hj'] at W;rw[<- zD Y,<- zD W];exact this
def Nw.ne(N:Nw n item kd ls t){i j:Nat}(hi:i<n)(hj:j<n)(h:i≠j):lab ls i≠lab ls j:=by
 have:=N.size
 rcases Nat.lt_or_gt_of_ne h with g |g
 ·exact zK1 (Zu N.perm) g q5
 ·exact(zK1 (Zu N.perm) g q5).symm
def WA{a b i:Nat}(h:b<=ls.size)(hi:a+i<b):lab (ls.extract a b) i=lab ls (a+i):=by
 refine qe ?_
 rw[Array.getElem?_extract,if_pos q5,vK q5]
def jy{a b x:Nat}(h:b<=ls.size)(hx:x∈(ls.extract a b).toList):∃i,a<=i/\i<b/\x=lab ls i:=by
 have hx':x∈(ls.extract a b).toList.drop 0:=by rwa [vw]
 obtain⟨i,_,h2,rfl⟩:=jz.mp hx';rw[yw] at h2
 exact⟨a+i,q5,q5,WA h q5⟩
def zO7{a b:Nat}(h:b<=ls.size)(S:Seg r ls a (b-a)):(ls.extract a b).toList.Pairwise λx y=>r y x=false:=by
 refine xV.mpr λi j hi hj W=>?_;rw[zm,yw] at hi hj
 have e:∀k (hk:k<(ls.extract a b).toList.length),(ls.extract a b).toList[k]=lab ls (a+k):=λk hk=>by
  rw[zm] at hk;have J:=vK (ls:=ls.extract a b) hk
  rw[<- zL,zd (by rw[zm];exact hk)] at J
  rw[zD J,WA h (by rw[yw] at hk;lia)]
 rw[e,e]
 exact S _ _ q5 q5 q5
end
section
variable {prog:Qq3}{w:Qqa}{A:Around}{E:QqV}{s:Qq1}{t:SortSt}{n:Nat}{item:Nat->Keyed}{kd:SortKind}{r:Qq6}{ls:Qq7}
def back{a b c:Nat}{M:Qq7}(N:Nw n item kd ls t)(aa:a<=b)(Y:b<=c)(hc:c<=n)(p:M.toList.Perm ((ls.extract a b).toList++(ls.extract b c).toList)) :
  ∃ls':Array Nat,(((M.map item).toList.zipIdx.foldl (λx (y:Keyed × Nat)=>x.setIfInBounds (a+y.2) y.1) (ls.map item))=ls'.map item)/\ls'.Perm (Array.range n)/\(∀k,k<a\/c<=k->lab ls' k=lab ls k)/\∀i,a<=i->i<c->lab ls' i=lab M (i-a):=by
 have hs:=N.size
 have hM:M.size=c-a:=by
  have:=p.length_eq;rw[zm,zF,zm,zm,yw,yw] at this;lia
 have el:((ls.toList.take a++M.toList++ls.toList.drop c).toArray).size=ls.size:=by
  rw[zt,zF,zF,xr,wY,zm,zm];lia
 refine⟨(ls.toList.take a++M.toList++ls.toList.drop c).toArray,?_,?_,?_,?_⟩
 ·apply Array.ext'
  rw[ze1 _ _ a 0 (by rw[zm,zQ,zQ];lia)]
  simp only[Nat.add_zero,zm,zQ,Array.toList_map,hM,zS,vG,map_drop,List.map_toArray]
  congr 2
  rw[zf,zm];lia
 ·refine wg.mpr ?_;refine List.Perm.trans ?_ (wg.mp N.perm)
  have e:ls.toList=ls.toList.take a++((ls.extract a b).toList++(ls.extract b c).toList)++ls.toList.drop c:=by
   rw[wE,wE,xX,xX]
   have W:(ls.toList.drop a).take (b-a)++(ls.toList.drop b).take (c-b)=(ls.toList.drop a).take (c-a):=by
    rw[show c-a=(b-a)+(c-b) by lia,List.take_add,drop_drop,show a+(b-a)=b by lia]
   rw[W,wn]
   conv=>lhs;rw[<- wM a ls.toList]
   congr 1
   conv=>lhs;rw[<- wM (c-a) (ls.toList.drop a)]
   rw[drop_drop,show a+(c-a)=c by lia]
  conv=>rhs;rw[e]
  exact(p.append_left _).append_right _
 ·intro k hk
  rcases Nat.lt_or_ge k ls.size with J |J
  ·refine qe ?_;rw[<- vK J,List.getElem?_toArray]
   rcases hk with hk |hk
   ·rw[wn,xW (by rw[xr,zm];lia),vC,if_pos hk,zL]
   ·rw [xC (by rw [zF, xr, zm, zm]; lia), wD, zL]
    congr 1
    rw[zF,xr,zm,zm];lia
  ·have W : lab ls k = 0 := by unfold lab; rw [yB, wa J]; rfl
   rw[W];unfold lab;rw[yB,wa (by rw[el];exact J)];rfl
 ·intro i h1 h2;refine qe ?_
  rw[<- vK q5,List.getElem?_toArray,xW (by rw[zF,xr,zm,zm];lia),xC (by rw[xr,zm];lia),zL]
  congr 1
  rw[xr,zm];lia
def mat(R:WRule prog w A s n item kd r)(N:Nw n item kd ls t){i sa W p sb J p2:Nat}(hp:(pendingOf t)[i]?=some (sa,W,p))(hq:(pendingOf t)[i+1]?=some (sb,J,p2))(ah:sb=sa+W)(h1:1<=W)(h2:1<=J)(hn:sb+J<=n)(SA:Seg r ls sa W)(SB:Seg r ls sb J)
  {Q:Bool->SortSt->Prop} (q:∀ls' t',Nw n item kd ls' t'->pendingOf t'=((pendingOf t).setIfInBounds i (sa,W+J,p)).eraseIdxIfInBounds (i+1)->(∀k,k<sa\/sb+J<=k->lab ls' k=lab ls k)->Seg r ls' sa (W+J)->Q true t'):wpS (model prog w) A E s (mergeAt' i) Q t:=by
 have hs:=N.size;rw[QX];refine zq (wpS_get ?_);rw[hp,hq];dsimp only;refine zq (zT2 ?_);have Y:Nw n item kd ls (setPending t (((pendingOf t).setIfInBounds i (sa,W+J,p)).eraseIdxIfInBounds (i+1))):=⟨N.arr,N.kd,N.ok,N.perm⟩;have P1:pendingOf (setPending t (((pendingOf t).setIfInBounds i (sa,W+J,p)).eraseIdxIfInBounds (i+1)))=((pendingOf t).setIfInBounds i (sa,W+J,p)).eraseIdxIfInBounds (i+1):=rfl;rw[N.arr];generalize ((pendingOf t).setIfInBounds i (sa,W+J,p)).eraseIdxIfInBounds (i+1)=pend at P1 Y q ⊢;generalize setPending t pend=t1 at P1 Y ⊢;have ac:∀{x y z:Nat},x<n->y<n->z<n->r (lab ls y) (lab ls x)=false->r (lab ls z) (lab ls y)=false->r (lab ls z) (lab ls x)=false:=λhx hy hz=>R.tr _ _ _ (N.lt hx) (N.lt hy) (N.lt hz)
 refine zq (yV q5 ?_)
 refine zq (gal (m:=W) (by':=λi=>!r (lab ls sb) (lab ls (sa+i))) q5 (λi hi Q qq=>byd R Y.kd (N.lt q5) q5 (N.lt q5) (N.ne q5 q5 q5) (by simpa using qq)) ?_ λk hk g1 g2=>?_)
 ·intro i j ag hj hb
  by_cases e:i=j
  ·rw[e];exact hb
  ·have hb' : r (lab ls sb) (lab ls (sa + j)) = false := by simpa using hb
   have:=ac q5 q5 q5 (SA (sa+i) (sa+j) q5 q5 q5) hb'
   show(!r (lab ls sb) (lab ls (sa+i)))=true;rw[this];rfl
 have F1:∀i j,sa<=i->i<sa+k->sb<=j->j<sb+J->r (lab ls j) (lab ls i)=false:=λi j a1 a2 b1 b2=>by
  have z:r (lab ls sb) (lab ls i)=false:=by
   have:=g1 (i-sa) q5
   rw[show sa+(i-sa)=i by lia] at this
   simpa using this
  by_cases e:j=sb
  ·rw[e];exact z
  ·exact ac q5 q5 q5 z (SB sb j q5 q5 b2)
 dsimp only;refine yi (λe=>zU (q ls t1 Y P1 (λ_ _=>rfl) λi j a1 a2 a3=>?_)) (λe=>?_)
 ·have ek : k = W := by simp at e; lia
  by_cases c1:j<sb
  ·exact SA i j a1 a2 q5
  ·by_cases c2 : i < sb
   ·exact F1 i j a1 q5 q5 q5
   ·exact SB i j q5 a2 q5
 have hk':k<W:=by simp at e;lia
 have g2':r (lab ls sb) (lab ls (sa+k))=true:=by simpa using g2 k (zj _) hk'
 have el:sa+k+(W-k)-1=sb-1:=q5
 rw[el]
 refine zq (yV q5 ?_)
 refine zq (gal (m:=J) (by':=λi=>r (lab ls (sb+i)) (lab ls (sb-1))) q5 (λi hi Q qq=>byd R Y.kd (N.lt q5) q5 (N.lt q5) (N.ne q5 q5 q5) (by simpa using qq)) ?_ λm hm g3 g4=>?_)
 ·intro i j ag hj hb
  by_cases e:i=j
  ·rw[e];exact hb
  ·cases z : r (lab ls (sb + i)) (lab ls (sb - 1)) with
   |true=>rfl
   |false=>
    have:=ac q5 q5 q5 z (SB (sb+i) (sb+j) q5 q5 q5)
    rw[this] at hb;cases hb
 have F3:∀i j,sa<=i->i<sb->sb+m<=j->j<sb+J->r (lab ls j) (lab ls i)=false:=λi j a1 a2 b1 b2=>by
  have z:r (lab ls j) (lab ls (sb-1))=false:=by
   have:=g4 (j-sb) q5 q5
   rwa [show sb+(j-sb)=j by lia] at this
  by_cases e:i=sb-1
  ·rw[e];exact z
  ·exact ac q5 q5 q5 (SA i (sb-1) a1 q5 q5) z
 dsimp only;refine yi (λe=>zU (q ls t1 Y P1 (λ_ _=>rfl) λi j a1 a2 a3=>?_)) (λe=>?_)
 ·have ek : m = 0 := by simpa using e
  by_cases c1:j<sb
  ·exact SA i j a1 a2 q5
  ·by_cases c2 : i < sb
   ·exact F3 i j a1 q5 q5 q5
   ·exact SB i j q5 a2 q5
 have hm':1<=m:=by simp at e;lia
 have eX:(ls.map item).extract (sa+k) sb=(ls.extract (sa+k) sb).map item:=by rw[xG]
 have eY:(ls.map item).extract sb (sb+m)=(ls.extract sb (sb+m)).map item:=by rw[xG]
 rw[eX,eY]
 have zX:(ls.extract (sa+k) sb).size=sb-(sa+k):=by rw[yw];lia
 have zY:(ls.extract sb (sb+m)).size=m:=by rw[yw];lia
 have T:Two n r (ls.extract (sa+k) sb) (ls.extract sb (sb+m)):=by
  refine⟨λx hx=>?_,λx hx=>?_,λx hx y hy=>?_,zO7 q5 λi j a b c=>SA i j q5 b q5,zO7 q5 λi j a b c=>SB i j q5 b q5⟩
  ·obtain⟨i,_,h2,rfl⟩:=jy q5 hx;exact N.lt q5
  ·obtain⟨i,_,h2,rfl⟩:=jy q5 hx;exact N.lt q5
  ·obtain ⟨i, _, h2, rfl⟩ := jy q5 hx
   obtain⟨j,h3,h4,rfl⟩:=jy q5 hy
   exact N.ne q5 q5 q5
 have c1:r (lab (ls.extract sb (sb+m)) 0) (lab (ls.extract (sa+k) sb) 0)=true:=by
  rw[WA q5 q5,WA q5 q5]
  exact g2'
 have c2:∀y∈(ls.extract sb (sb+m)).toList,r y (lab (ls.extract (sa+k) sb) ((ls.extract (sa+k) sb).size-1))=true:=λy hy=>by
  obtain⟨j,h3,h4,rfl⟩:=jy q5 hy
  rw[zX,WA q5 q5,show sa+k+(sb-(sa+k)-1)=sb-1 by lia]
  have:=g3 (j-sb) q5
  rwa [show sb+(j-sb)=j by lia] at this
 have fin:∀aa t2,Same t1 t2->Good item r (ls.extract (sa+k) sb) (ls.extract sb (sb+m)) aa->wpS (model prog w) A E s (do
   modify λs=>setArr s (aa.toList.zipIdx.foldl (λa (p,j)=>a.setIfInBounds (sa+k+j) p) (arrOf s))
   return (failedOf (<- get)).isNone) Q t2:=λaa t2 S ⟨M,eM,pM,uM⟩=>by
  refine zq (vA (zq (wpS_get ?_)))
  have ef:(failedOf (setArr t2 (aa.toList.zipIdx.foldl (λa (p,j)=>a.setIfInBounds (sa+k+j) p) (arrOf t2)))).isNone=true:=by
   show(failedOf t2).isNone=true;rw[S.ok,Y.ok];rfl
  rw[ef]
  obtain⟨ls',b1,b2,b3,b4⟩:=back (a:=sa+k) (b:=sb) (c:=sb+m) N q5 q5 q5 pM
  refine zU (q ls' _ ⟨?_,S.kd.trans Y.kd,S.ok.trans Y.ok,b2⟩ (S.pend.trans P1) (λk' hk'=>b3 k' q5) λi j a1 a2 a3=>?_)
  ·show aa.toList.zipIdx.foldl (λa (p,j)=>a.setIfInBounds (sa+k+j) p) (arrOf t2)=_;rw[S.arr,Y.arr,eM];exact b1
  ·have zM : M.size = sb + m - (sa + k) := by
    have:=pM.length_eq;rw[zm,zF,zm,zm,zX,zY] at this;lia
   have ae:∀i,sa+k<=i->i<sb+m->∃i',sa+k<=i'/\i'<sb+m/\lab ls' i=lab ls i':=λi x1 x2=>by
    rw[b4 i x1 x2]
    have:lab M (i-(sa+k))∈(ls.extract (sa+k) sb).toList++(ls.extract sb (sb+m)).toList:=pM.mem_iff.mp (qu q5)
    rcases xk.mp this with h |h
    ·obtain⟨i',y1,y2,e⟩:=jy q5 h;exact⟨i',y1,q5,e⟩
    ·obtain⟨i',y1,y2,e⟩:=jy q5 h;exact⟨i',q5,y2,e⟩
   by_cases ci:i<sa+k
   ·rw [b3 i (.inl ci)]
    by_cases cj:j<sa+k
    ·rw [b3 j (.inl cj)]
     exact SA i j a1 a2 q5
    ·by_cases ad : j < sb + m
     ·obtain ⟨j', y1, y2, e⟩ := ae j q5 ad
      rw[e]
      by_cases c3:j'<sb
      ·exact SA i j' a1 q5 q5
      ·exact F1 i j' a1 ci q5 q5
     ·rw [b3 j (.inr q5)]
      exact F1 i j a1 ci q5 q5
   ·by_cases af : i < sb + m
    ·by_cases ad : j < sb + m
     ·rw [b4 i q5 af, b4 j q5 ad]
      exact Xw uM q5 q5
     ·rw [b3 j (.inr q5)]
      obtain⟨i',y1,y2,e⟩:=ae i q5 af
      rw[e]
      by_cases c3:i'<sb
      ·exact F3 i' j q5 c3 q5 q5
      ·exact SB i' j q5 q5 q5
    ·rw [b3 i (.inr q5), b3 j (.inr q5)]
     exact SB i j q5 a2 q5
 refine yi (λe=>?_) (λe=>?_)
 ·exact zq (mlo ⟨R,T,c1,c2⟩ Y.kd q5 q5 fin)
 ·exact zq (mhi ⟨R,T,c1,c2⟩ Y.kd q5 q5 fin)
end
section
variable {n:Nat}{item:Nat->Keyed}{kd:SortKind}{r:Qq6}{ls:Qq7}{t:SortSt}
def Nw.mir(N:Nw n item kd ls t){i j:Nat}(hj:j<=n):Nw n item kd (mirror ls i j ((j-i)/2)) (setArr t (mirror (arrOf t) i j ((j-i)/2))):=
 ⟨by show mirror (arrOf t) i j _=_;rw[N.arr];exact zY8 (by rw[N.size];exact hj),N.kd,N.ok,(mirror_perm _ _ _ _).trans N.perm⟩
def Nw.bub(N:Nw n item kd ls t){src d:Nat}(hs:src<n)(hd:d<=src):Nw n item kd (bubble ls src d) (setArr t (bubble (arrOf t) src d)):=
 ⟨by show bubble (arrOf t) src d=_;rw[N.arr];exact xc3 (by rw[N.size];exact hs) hd,N.kd,N.ok,(bubble_perm _ _ _).trans N.perm⟩
structure Kp(lo:Nat)(ls:Qq7)(t:SortSt)(ls':Qq7)(t':SortSt):Prop where
 p:pendingOf t'=pendingOf t
 l:∀k,k<lo->lab ls' k=lab ls k
def Dn(r:Qq6)(ls:Qq7)(s m:Nat):Prop:=∀i j,s<=i->i<j->j<s+m->r (lab ls i) (lab ls j)=false
def Eqb(r:Qq6)(ls:Qq7)(a b:Nat):Prop:=∀i j,a<=i->i<b->a<=j->j<b->r (lab ls i) (lab ls j)=false
def Vz{a b k:Nat}(J:b<=ls.size)(hk:k<ls.size):∃k',lab (mirror ls a b ((b-a)/2)) k=lab ls k'/\(a<=k/\k<b->a<=k'/\k'<b)/\(¬(a<=k/\k<b)->k'=k):=by
 by_cases h:a<=k/\k<b
 ·exact⟨a+b-1-k,by rw[Zb J hk,if_pos h],λ_=>by lia,λg=>absurd h g⟩
 ·exact⟨k,by rw[Zb J hk,if_neg h],λg=>absurd g h,λ_=>rfl⟩
def zS2{lo x e:Nat}(hx:lo+x<=ls.size)(D:Dn r ls lo x)(he:e+1<=x)(Q:Eqb r ls (lo+x-(e+1)) (lo+x)):Dn r (mirror ls (lo+x-(e+1)) (lo+x) ((lo+x-(lo+x-(e+1)))/2)) lo x:=λi j h1 h2 h3=>by
 obtain⟨i',e1,f1,f2⟩:=Vz (ls:=ls) (a:=lo+x-(e+1)) (b:=lo+x) (k:=i) hx q5
 obtain⟨j',e2,J,g2⟩:=Vz (ls:=ls) (a:=lo+x-(e+1)) (b:=lo+x) (k:=j) hx q5
 rw[e1,e2]
 by_cases Y:lo+x-(e+1)<=i/\i<lo+x
 ·have := f1 Y
  have:=J q5
  exact Q _ _ q5 q5 q5 q5
 ·have c3 := f2 Y
  by_cases W:lo+x-(e+1)<=j/\j<lo+x
  ·have := J W
   exact D _ _ q5 q5 q5
  ·have := g2 W
   exact D _ _ q5 q5 q5
end
section
variable {prog:Qq3}{w:Qqa}{A:Around}{E:QqV}{s:Qq1}{n:Nat}{item:Nat->Keyed}{kd:SortKind}{r:Qq6}{ls:Qq7}{t:SortSt}
def xo5(R:WRule prog w A s n item kd r)(N:Nw n item kd ls t){i j:Nat}(hi:i<n)(hj:j<n)(J:i≠j){Q:Option Bool->SortSt->Prop}(q:Q (some (r (lab ls i) (lab ls j))) t):wpS (model prog w) A E s (ltAt' i j) Q t:=by
 have hs:=N.size;rw[ltAt'_eq];refine zq (wpS_get ?_);dsimp only;rw[N.arr]
 exact zq (yV q5 (zq (yV q5 (Jq R N.kd (N.lt hi) (N.lt hj) (N.ne hi hj J) q))))
def WRule.irr(R:WRule prog w A s n item kd r){a:Nat}(h:a<n):r a a=false:=by
 cases z:r a a with
 |false=>rfl
 |true=>have:=R.asy a a h h z;rw[z] at this;exact this
def zF7{i j:Nat}{Q:Unit->SortSt->Prop}(q:Q () (setArr t (mirror (arrOf t) i j ((j-i)/2)))):wpS (model prog w) A E s (reverseSlice' i j) Q t:=by
 rw[reverseSlice'_eq];exact vA q
def xo7(R:WRule prog w A s n item kd r)(N:Nw n item kd ls t){lo a J:Nat}(h1:1<=a)(ha:a<=J)(hn:lo+J<=n)(U:Seg r ls lo a){x:Nat}(hx:x<J)(aa:a<=x)(V:Seg r ls lo x){Q:Option Bool->SortSt->Prop}
  (Y:r (lab ls (lo+x)) (lab ls (lo+x-1))=true->Q (some true) t) (W:Seg r ls lo (x+1)->Q (some false) t):wpS (model prog w) A E s (ltAt' (lo+x) (lo+x-1)) Q t:=by
 refine xo5 R N q5 q5 q5 ?_
 cases z:r (lab ls (lo+x)) (lab ls (lo+x-1)) with
 |true=>exact Y z
 | false =>
  refine W λi j i1 i2 i3=>?_
  by_cases hj:j<lo+x
  ·exact V i j i1 i2 hj
  ·obtain rfl : j = lo + x := by lia
   by_cases hi:i=lo+x-1
   ·rw[hi];exact z
   ·exact R.tr _ _ _ (N.lt q5) (N.lt (i:=lo+x-1) q5) (N.lt q5) (V i (lo+x-1) i1 q5 q5) z
def xd9(R:WRule prog w A s n item kd r)(N:Nw n item kd ls t){lo a J:Nat}(h1:1<=a)(ha:a<=J)(hn:lo+J<=n)(D:Dn r ls lo a){Q:Option Nat->SortSt->Prop}
  (q:∀m ls' t',1<=m->m<=J->Nw n item kd ls' t'->Kp lo ls t ls' t'->Seg r ls' lo m->Q (some m) t'):wpS (model prog w) A E s (Qo lo a J) Q t:=by
 have hs:=N.size;unfold Qo;refine zq (zF7 ?_)
 have N':=N.mir (i:=lo) (j:=lo+a) q5
 have K':Kp lo ls t (mirror ls lo (lo+a) ((lo+a-lo)/2)) (setArr t (mirror (arrOf t) lo (lo+a) ((lo+a-lo)/2))):=⟨rfl,λk hk=>by rw[Zb q5 q5,if_neg q5]⟩
 have U:Seg r (mirror ls lo (lo+a) ((lo+a-lo)/2)) lo a:=λi j i1 i2 i3=>by
  rw[Zb q5 q5,Zb q5 q5,if_pos q5,if_pos q5]
  exact D _ _ q5 q5 q5
 generalize mirror ls lo (lo+a) ((lo+a-lo)/2)=ls' at N' K' U;generalize setArr t (mirror (arrOf t) lo (lo+a) ((lo+a-lo)/2))=t' at N' K' ⊢;refine zq (vF (yc (λx c t2=>t2=t'/\c=(none,x)/\Seg r ls' lo x) (Q:=λc t2=>t2=t'/\∃m,c=(none,m)/\a<=m/\m<=J/\Seg r ls' lo m) ?_ ?_ ⟨rfl,rfl,U⟩) ?_)
 ·rintro x c t2 hx W ⟨rfl, rfl, V⟩;dsimp only
  exact zq (xo7 R N' h1 ha hn U W hx V (λ_=>zU ⟨rfl,x,rfl,hx,q5,V⟩) (λV'=>zU ⟨rfl,rfl,V'⟩))
 ·rintro c t2 ⟨rfl, rfl, V⟩
  rw[show max a J=J by lia] at V ⊢
  exact⟨rfl,J,rfl,ha,zj _,V⟩
 ·rintro c t2 ⟨rfl, m, rfl, m1, Y, V⟩
  exact zU (q m ls' t2 q5 Y N' K' V)
def xn4(R:WRule prog w A s n item kd r)(N:Nw n item kd ls t){lo a W:Nat}(h1:1<=a)(ha:a<W)(hn:lo+W<=n)(D:Dn r ls lo (a+1)){Q:Option Nat->SortSt->Prop}
  (q:∀m ls' t',1<=m->m<=W->Nw n item kd ls' t'->Kp lo ls t ls' t'->Seg r ls' lo m->Q (some m) t'):wpS (model prog w) A E s (UW lo a W) Q t:=by
 have hs:=N.size;unfold UW;refine zq (wpS_lift (ym ⟨rfl,?_⟩))
 refine zq (vF (yc (λx c t2=>∃(J:Qq7) (e:Nat),c=(none,x,e)/\Nw n item kd J t2/\Kp lo ls t J t2/\Dn r J lo x/\e+1<=x/\Eqb r J (lo+x-(e+1)) (lo+x))
  (Q:=λc t2=>∃(J:Qq7) (x e:Nat),c=(none,x,e)/\1<=x/\x<=W/\Nw n item kd J t2/\Kp lo ls t J t2/\Dn r J lo x/\e+1<=x/\Eqb r J (lo+x-(e+1)) (lo+x)) ?_ ?_ ⟨ls,0,rfl,N,⟨rfl,λ_ _=>rfl⟩,D,q5,?_⟩) ?_)
 ·rintro x c t2 hx ad ⟨J, e, rfl, N2, K2, Y, he, Q2⟩;have ac:=N2.size;dsimp only
  have one:∀(l3:Qq7) (t3:SortSt),Nw n item kd l3 t3->Eqb r l3 (lo+(x+1)-(0+1)) (lo+(x+1)):=λl3 t3 N3 i j i1 i2 j1 j2=>by
   obtain⟨rfl,rfl⟩:i=lo+x/\j=lo+x:=q5
   exact R.irr (N3.lt q5)
  refine zq (xo5 R N2 q5 q5 q5 ?_)
  cases z:r (lab J (lo+x)) (lab J (lo+x-1)) with
  | true =>
   simp only[if_true]
   have below:∀p,lo<=p->p<lo+x->r (lab J p) (lab J (lo+x))=false:=λp p1 p2=>by
    have z':=R.asy _ _ (N2.lt q5) (N2.lt q5) z
    by_cases ep:p=lo+x-1
    ·rw[ep];exact z'
    ·exact R.tr _ _ _ (N2.lt q5) (N2.lt (i:=lo+x-1) q5) (N2.lt q5) z' (Y p (lo+x-1) p1 q5 q5)
   refine yi (λh0=>?_) (λh0=>?_)
   ·refine zq (zF7 (zU ?_))
    have N3:=N2.mir (i:=lo+x-(e+1)) (j:=lo+x) q5
    refine⟨_,0,rfl,N3,⟨K2.p,λk hk=>?_⟩,λi j i1 i2 i3=>?_,q5,one _ _ N3⟩
    ·rw[Zb q5 q5,if_neg q5];exact K2.l k hk
    ·by_cases hj : j < lo + x
     ·exact zS2 q5 Y he Q2 i j i1 i2 hj
     ·obtain rfl : j = lo + x := by lia
      obtain⟨i',e1,f1,f2⟩:=Vz (ls:=J) (a:=lo+x-(e+1)) (b:=lo+x) (k:=i) q5 q5
      obtain⟨j',e2,g1,g2⟩:=Vz (ls:=J) (a:=lo+x-(e+1)) (b:=lo+x) (k:=lo+x) q5 q5
      rw[e1,e2,g2 q5]
      by_cases c1:lo+x-(e+1)<=i/\i<lo+x
      ·have := f1 c1
       exact below i' q5 q5
      ·rw[f2 c1];exact below i i1 q5
   ·refine zU ⟨J, 0, rfl, N2, K2, λi j i1 i2 i3 => ?_, by lia, one _ _ N2⟩
    by_cases hj:j<lo+x
    ·exact Y i j i1 i2 hj
    ·obtain rfl : j = lo + x := by lia
     exact below i i1 q5
  | false =>
   simp only[zT,if_false]
   refine zq (xo5 R N2 q5 q5 q5 ?_)
   cases z2:r (lab J (lo+x-1)) (lab J (lo+x)) with
   |true=>exact zU ⟨J,x,e,rfl,q5,q5,N2,K2,Y,he,Q2⟩
   | false =>
    have up:∀p,lo+x-(e+1)<=p->p<lo+x->r (lab J p) (lab J (lo+x))=false/\r (lab J (lo+x)) (lab J p)=false:=λp p1 p2=>by
     have y1:=Q2 p (lo+x-1) p1 p2 q5 q5
     have y2:=Q2 (lo+x-1) p q5 q5 p1 p2
     exact⟨R.tr _ _ _ (N2.lt q5) (N2.lt (i:=lo+x-1) q5) (N2.lt q5) z2 y1,R.tr _ _ _ (N2.lt q5) (N2.lt (i:=lo+x-1) q5) (N2.lt q5) y2 z⟩
    refine zU ⟨J,e+1,rfl,N2,K2,λi j i1 i2 i3=>?_,q5,λi j i1 i2 j1 j2=>?_⟩
    ·by_cases hj : j < lo + x
     ·exact Y i j i1 i2 hj
     ·obtain rfl : j = lo + x := by lia
      by_cases hi:i=lo+x-1
      ·rw[hi];exact z2
      ·exact R.tr _ _ _ (N2.lt q5) (N2.lt (i:=lo+x-1) q5) (N2.lt q5) z2 (Y i (lo+x-1) i1 q5 q5)
    ·by_cases c1 : i = lo + x
     ·by_cases c2 : j = lo + x
      ·rw[c1,c2];exact R.irr (N2.lt q5)
      ·rw[c1];exact(up j q5 q5).2
     ·by_cases c2 : j = lo + x
      ·rw[c2];exact(up i q5 q5).1
      ·exact Q2 i j q5 q5 q5 q5
 ·rintro c t2 ⟨J, e, rfl, N2, K2, Y, he, Q2⟩
  rw[show max (a+1) W=W by lia] at Y he Q2 ⊢
  exact⟨J,W,e,rfl,q5,zj _,N2,K2,Y,he,Q2⟩
 ·intro i j i1 i2 j1 j2
  obtain⟨rfl,rfl⟩:i=lo+a/\j=lo+a:=q5
  exact R.irr (N.lt q5)
 ·rintro c t2 ⟨J, x, e, rfl, x1, x2, N2, K2, Y, he, Q2⟩;have ac:=N2.size;dsimp only
  have aa:∀(l3:Qq7) (t3:SortSt),Nw n item kd l3 t3->Kp lo ls t l3 t3->Dn r l3 lo x->wpS (model prog w) A E s (Qo lo x W) Q t3:=λl3 t3 N3 K3 D3=>
   xd9 R N3 x1 x2 hn D3 λm ls' t' m1 m2 N' K' S'=>q m ls' t' m1 m2 N' ⟨K'.p.trans K3.p,λk hk=>(K'.l k hk).trans (K3.l k hk)⟩ S'
  refine yi (λh0=>?_) (λh0=>aa J t2 N2 K2 Y);refine zq (zF7 ?_)
  refine aa _ _ (N2.mir q5) ⟨K2.p,λk hk=>?_⟩ (zS2 q5 Y he Q2)
  rw[Zb q5 q5,if_neg q5];exact K2.l k hk
def xu3(R:WRule prog w A s n item kd r)(N:Nw n item kd ls t){lo J:Nat}(h1:1<=J)(hn:lo+J<=n){Q:Option Nat->SortSt->Prop}
  (q:∀m ls' t',1<=m->m<=J->Nw n item kd ls' t'->Kp lo ls t ls' t'->Seg r ls' lo m->Q (some m) t'):wpS (model prog w) A E s (countRun' lo J) Q t:=by
 have hs:=N.size;rw[countRun'_eq]
 have U:Seg r ls lo 1:=λi j a b c=>by lia
 refine zq (vF (yc (λx c t2=>t2=t/\c=(none,x)/\Seg r ls lo x) (Q:=λc t2=>t2=t/\∃m,c=(none,m)/\1<=m/\m<=J/\Seg r ls lo m/\(m<J->r (lab ls (lo+m)) (lab ls (lo+m-1))=true)) ?_ ?_ ⟨rfl,rfl,U⟩) ?_)
 ·rintro x c t2 hx aa ⟨rfl, rfl, V⟩;dsimp only
  exact zq (xo7 R N (zj _) h1 hn U aa hx V (λz=>zU ⟨rfl,x,rfl,hx,q5,V,λ_=>z⟩) (λV'=>zU ⟨rfl,rfl,V'⟩))
 ·rintro c t2 ⟨rfl, rfl, V⟩
  rw[show max 1 J=J by lia] at V ⊢
  exact⟨rfl,J,rfl,h1,zj _,V,λh=>by lia⟩
 ·rintro c t2 ⟨rfl, m, rfl, W, m2, V, z⟩;dsimp only;have K0:Kp lo ls t2 ls t2:=⟨rfl,λ_ _=>rfl⟩;refine yi (λe=>zU (q m ls t2 W m2 N K0 V)) (λe=>?_)
  have hm:m<J:=by simp at e;lia
  have z:=z hm
  have z':=R.asy _ _ (N.lt q5) (N.lt q5) z
  have Y:∀(l3:Qq7) (t3:SortSt),Nw n item kd l3 t3->Kp lo ls t2 l3 t3->Dn r l3 lo (m+1)->wpS (model prog w) A E s (UW lo m J) Q t3:=λl3 t3 N3 K3 D3=>
   xn4 R N3 W hm hn D3 λm ls' t' W m2 N' K' S'=>q m ls' t' W m2 N' ⟨K'.p.trans K3.p,λk hk=>(K'.l k hk).trans (K3.l k hk)⟩ S'
  refine yi (λg=>?_) (λg=>?_)
  ·refine zq (xo5 R N q5 q5 q5 ?_)
   cases z2:r (lab ls lo) (lab ls (lo+m-1)) with
   |true=>exact zU (q m ls t2 W m2 N K0 V)
   | false =>
    simp only[zT,if_false];refine zq (zF7 ?_)
    have ge:∀p,lo<=p->p<lo+m->r (lab ls lo) (lab ls p)=false:=λp p1 p2=>by
     by_cases ep:p=lo+m-1
     ·rw[ep];exact z2
     ·exact R.tr _ _ _ (N.lt q5) (N.lt (i:=lo+m-1) q5) (N.lt q5) (V p (lo+m-1) p1 q5 q5) z2
    have Q2:Eqb r ls lo (lo+m):=λi j i1 i2 j1 j2=>by
     rcases Nat.lt_trichotomy i j with c |c |c
     ·by_cases ei : i = lo
      ·rw[ei];exact ge j j1 j2
      ·exact R.tr _ _ _ (N.lt q5) (N.lt (i:=lo) q5) (N.lt q5) (ge j j1 j2) (V lo i q5 q5 i2)
     ·rw[c];exact R.irr (N.lt q5)
     ·exact V j i j1 c i2
    have below:∀p,lo<=p->p<lo+m->r (lab ls p) (lab ls (lo+m))=false:=λp p1 p2=>
     R.tr _ _ _ (N.lt q5) (N.lt (i:=lo+m-1) q5) (N.lt q5) z' (Q2 p (lo+m-1) p1 p2 q5 q5)
    refine Y _ _ (N.mir q5) ⟨rfl,λk hk=>?_⟩ λi j i1 i2 i3=>?_
    ·rw[Zb q5 q5,if_neg q5]
    ·obtain ⟨i', e1, f1, f2⟩ := Vz (ls := ls) (a := lo) (b := lo + m) (k := i) q5 q5
     obtain⟨j',e2,g1,g2⟩:=Vz (ls:=ls) (a:=lo) (b:=lo+m) (k:=j) q5 q5
     rw[e1,e2]
     have fi:=f1 q5
     by_cases c2:j<lo+m
     ·have gj := g1 q5
      exact Q2 _ _ q5 q5 q5 q5
     ·rw [g2 q5, show j = lo + m by lia]
      exact below i' q5 q5
  ·obtain rfl : m = 1 := by lia
   refine Y ls t2 N K0 λi j i1 i2 i3=>?_
   obtain⟨rfl,rfl⟩:i=lo/\j=lo+1:=q5
   exact z'
def xA3(R:WRule prog w A s n item kd r)(N:Nw n item kd ls t){lo m f:Nat}(hm:m<=f)(hf:lo+f<=n)(U:Seg r ls lo m){Q:Bool->SortSt->Prop}(q:∀ls' t',Nw n item kd ls' t'->Kp lo ls t ls' t'->Seg r ls' lo f->Q true t'):wpS (model prog w) A E s (binarySort' lo f m) Q t:=by
 rw[binarySort'_eq];refine zq (vF (yc (λk c t'=>c=(none,())/\∃ls',Nw n item kd ls' t'/\Kp lo ls t ls' t'/\Seg r ls' lo (min k f)) (Q:=λc t'=>c=(none,())/\∃ls',Nw n item kd ls' t'/\Kp lo ls t ls' t'/\Seg r ls' lo f) ?_ ?_ ⟨rfl,ls,N,⟨rfl,λ_ _=>rfl⟩,λi j i1 i2 i3=>?_⟩) ?_)
 ·rintro k c t' hk aa ⟨rfl, ls', N', K', U'⟩
  rw[show min k f=k by lia] at U'
  have hsz:=N'.size
  refine zq (vF (yc (λx c t2=>t2=t'/\∃l h,c=(none,l,h)/\l<=h/\h<=k/\h-l<=k-x/\(∀i,i<l->r (lab ls' (lo+k)) (lab ls' (lo+i))=false)/\∀i,h<=i->i<k->r (lab ls' (lo+i)) (lab ls' (lo+k))=false)
   (Q:=λc t2=>t2=t'/\∃l h,c=(none,l,h)/\l<=k/\(∀i,i<l->r (lab ls' (lo+k)) (lab ls' (lo+i))=false)/\∀i,l<=i->i<k->r (lab ls' (lo+i)) (lab ls' (lo+k))=false) ?_ ?_ ⟨rfl,0,k,rfl,q5,q5,q5,λi hi=>by lia,λi h1 h2=>by lia⟩) ?_)
  ·rintro x c t2 _ hx ⟨rfl, l, h, rfl, g1, g2, Y, W, J⟩;dsimp only
   refine yi (λhd=>zU ⟨rfl,l,h,rfl,q5,W,λi i1 i2=>J i q5 i2⟩) (λhd=>?_)
   refine zq (xo5 R N' q5 q5 q5 ?_)
   cases z:r (lab ls' (lo+k)) (lab ls' (lo+(l+h)/2))
   ·refine zU ⟨rfl, (l + h) / 2 + 1, h, rfl, by lia, by lia, by lia, λi hi => ?_, J⟩
    by_cases e:i=(l+h)/2
    ·rw[e];exact z
    ·exact R.tr _ _ _ (N'.lt q5) (N'.lt (i:=lo+(l+h)/2) q5) (N'.lt q5) (U' (lo+i) (lo+(l+h)/2) q5 q5 q5) z
   ·have z' := R.asy _ _ (N'.lt q5) (N'.lt q5) z
    refine zU ⟨rfl,l,(l+h)/2,rfl,q5,q5,q5,W,λi i1 i2=>?_⟩
    by_cases e:i=(l+h)/2
    ·rw[e];exact z'
    ·exact R.tr _ _ _ (N'.lt q5) (N'.lt (i:=lo+(l+h)/2) q5) (N'.lt q5) z' (U' (lo+(l+h)/2) (lo+i) q5 q5 q5)
  ·rintro c t2 ⟨rfl, l, h, rfl, g1, g2, Y, W, J⟩
   exact⟨rfl,l,h,rfl,q5,W,λi i1 i2=>J i q5 i2⟩
  ·rintro c t2 ⟨rfl, l, h, rfl, g1, g2, Y⟩;show wpS (model prog w) A E s (moveDown' (lo+k) (lo+l) >>= λ_=>pure (ForInStep.yield (none,()))) _ t2;rw[moveDown'_eq]
   refine zq (vA (zU ⟨rfl,_,N'.bub (src:=lo+k) (d:=lo+k-(lo+l)) q5 q5,⟨K'.p,λp hp=>?_⟩,?_⟩))
   ·rw [zb3 q5 q5 q5, if_neg q5, if_neg q5]
    exact K'.l p hp
   ·rw [show min (k + 1) f = k + 1 by lia]
    intro i j i1 ac hj
    have el:lo+k-(lo+k-(lo+l))=lo+l:=q5
    have F2:∀i,lo<=i->i<lo+l->r (lab ls' (lo+k)) (lab ls' i)=false:=λi i1 i2=>by
     have:=g2 (i-lo) q5
     rwa [show lo+(i-lo)=i by lia] at this
    have F3:∀i,lo+l<=i->i<lo+k->r (lab ls' i) (lab ls' (lo+k))=false:=λi i1 i2=>by
     have:=Y (i-lo) q5 q5
     rwa [show lo+(i-lo)=i by lia] at this
    rw[zb3 q5 q5 q5,zb3 q5 q5 q5,el]
    by_cases c1:i=lo+l
    ·rw [if_neg (show ¬ j = lo + l by lia), if_pos (show lo + l < j /\ j <= lo + k by lia), if_pos c1]
     exact F3 _ q5 q5
    ·rw [if_neg c1]
     by_cases c2:j=lo+l
     ·rw [if_pos c2, if_neg (show ¬ (lo + l < i /\ i <= lo + k) by lia)]
      exact F2 _ i1 q5
     ·rw [if_neg c2]
      by_cases c3:lo+l<i/\i<=lo+k
      ·rw [if_pos c3, if_pos (show lo + l < j /\ j <= lo + k by lia)]
       exact U' _ _ q5 q5 q5
      ·rw [if_neg c3]
       by_cases c4:lo+l<j/\j<=lo+k
       ·rw[if_pos c4];exact U' _ _ q5 q5 q5
       ·rw[if_neg c4];exact U' _ _ q5 q5 q5
 ·rintro c t' ⟨rfl, ls', N', K', U'⟩
  rw[show min (max (max m 1) f) f=f by lia] at U'
  exact⟨rfl,ls',N',K',U'⟩
 ·exact U i j i1 i2 q5
 ·rintro c t' ⟨rfl,ls',N',K',U'⟩;exact zU (q ls' t' N' K' U')
end
noncomputable def Ch(r:Qq6)(ls:Qq7):Nat->List (Nat × Nat)->Nat->Prop
 |a,[],b=>a=b
 |a,(s,m)::rest,b=>s=a/\1<=m/\Seg r ls s m/\Ch r ls (a+m) rest b
def prs(p:Array (Nat × Nat × Nat)):List (Nat × Nat):=p.toList.map λx=>(x.1,x.2.1)
section
variable {r:Qq6}{ls ls':Qq7}
theorem Ch.len:∀{l:List (Nat × Nat)}{a b:Nat},Ch r ls a l b->a+l.length<=b
 |[],a,b,h=>by rw[show a=b from h];exact zj _
 |(s,m)::l,a,b,h=>by have:=h.2.2.2.len;have:=h.2.1;rw[zP];lia
theorem Ch.split:∀{l1 l2:List (Nat × Nat)}{a b:Nat},Ch r ls a (l1++l2) b->∃c,Ch r ls a l1 c/\Ch r ls c l2 b
 |[],l2,a,b,h=>⟨a,rfl,h⟩
 |(s,m)::l1,l2,a,b,h=>by
  obtain⟨c,h1,h2⟩:=h.2.2.2.split;exact⟨c,⟨h.1,h.2.1,h.2.2.1,h1⟩,h2⟩
theorem Ch.join:∀{l1 l2:List (Nat × Nat)}{a b c:Nat},Ch r ls a l1 c->Ch r ls c l2 b->Ch r ls a (l1++l2) b
 |[],l2,a,b,c,h,g=>by rw[show a=c from h];exact g
 |(s,m)::l1,l2,a,b,c,h,g=>⟨h.1,h.2.1,h.2.2.1,h.2.2.2.join g⟩
def Seg.same{s m:Nat}(h:Seg r ls s m)(e:∀k,s<=k->k<s+m->lab ls' k=lab ls k):Seg r ls' s m:=λi j i1 i2 J=>by
 rw[e i i1 q5,e j q5 J];exact h i j i1 i2 J
theorem Ch.same:∀{l:List (Nat × Nat)}{a b:Nat},Ch r ls a l b->(∀k,a<=k->k<b->lab ls' k=lab ls k)->Ch r ls' a l b
 |[],a,b,h,_=>h
 |(s,m)::l,a,b,h,e=>by
  have z:=h.2.2.2.len;have Y:=h.1
  exact⟨h.1,h.2.1,h.2.2.1.same λk W J=>e k q5 q5,h.2.2.2.same λk W J=>e k q5 J⟩
end
section
variable {prog:Qq3}{w:Qqa}{A:Around}{E:QqV}{s:Qq1}{n:Nat}{item:Nat->Keyed}{kd:SortKind}{r:Qq6}{ls:Qq7}{t:SortSt}
def zQ6(R:WRule prog w A s n item kd r)(N:Nw n item kd ls t){lo i:Nat}(ad:lo<=n)(C:Ch r ls 0 (prs (pendingOf t)) lo)(hi:i+1<(pendingOf t).size){Q:Bool->SortSt->Prop}
  (q:∀ls' t',Nw n item kd ls' t'->Ch r ls' 0 (prs (pendingOf t')) lo->(pendingOf t').size+1=(pendingOf t).size->(∀k,lo<=k->lab ls' k=lab ls k)->Q true t'):wpS (model prog w) A E s (mergeAt' i) Q t:=by
 have hl:(pendingOf t).toList.length=(pendingOf t).size:=zm
 have e1:(pendingOf t).toList=(pendingOf t).toList.take i++(pendingOf t)[i]::(pendingOf t)[i+1]::(pendingOf t).toList.drop (i+2):=by
  conv=>lhs;rw[<- wM i (pendingOf t).toList]
  congr 1
  rw[yO q5,yO q5]
  simp
 rcases ha:(pendingOf t)[i] with ⟨sa,na,p⟩;rcases hb:(pendingOf t)[i+1] with ⟨sb,nb,p2⟩;rw[ha,hb] at e1;have C':=C;unfold prs at C';rw[e1,zS] at C';obtain⟨c,c1,c2⟩:=C'.split;obtain⟨rfl,J,aa,c3⟩:=c2;obtain⟨rfl,ac,Y,c4⟩:=c3;dsimp only at J ac aa Y c4;have z4:=c4.len
 refine mat R N (by rw[xz q5,ha]) (by rw[xz q5,hb]) rfl J ac q5 aa Y λls' t' N' P' S' G'=>?_
 have e2:(pendingOf t').toList=(pendingOf t).toList.take i++(sa,na+nb,p)::(pendingOf t).toList.drop (i+2):=by
  rw[P',Array.toList_eraseIdxIfInBounds,Array.toList_setIfInBounds]
  have W:((pendingOf t).toList.take i).length=i:=by rw[xr];lia
  generalize (pendingOf t).toList.take i=l1 at e1 W ⊢;generalize (pendingOf t).toList.drop (i+2)=l2 at e1 ⊢
  rw[e1,List.set_append_right _ _ q5,W,Nat.sub_self,List.set_cons_zero,List.eraseIdx_append_of_length_le q5,W,Nat.add_sub_cancel_left]
  rfl
 have hsz:(pendingOf t').size+1=(pendingOf t).size:=by
  rw[<- zm,e2,zF,zP,xr,wY];lia
 refine q ls' t' N' ?_ hsz λk hk=>S' k (.inr (zG q5 hk))
 unfold prs;rw[e2,zS];refine Ch.join (c1.same λk k1 k2=>S' k (.inl k2)) ⟨rfl,zG J (Nat.le_add_right ..),G',?_⟩;rw[<- Nat.add_assoc];exact c4.same λk k1 k2=>S' k (.inr k1)
def xa2{c:Prop}[Decidable c]{x:Nat}:(if c then x-1 else x)<=x:=by split<;>lia
def zV8{p:Array (Nat × Nat × Nat)}{i g:Nat}:prs (p.modify i λx=>(x.1,x.2.1,g))=prs p:=by
 unfold prs;rw[Array.toList_modify];refine ext_getElem? λk=>?_;rw[zy,zy,List.getElem?_modify]
 cases p.toList[k]? with
 |none=>rfl
 |some x=>by_cases h:i=k<;>simp[h]
def xo8(R:WRule prog w A s n item kd r)(N:Nw n item kd ls t)(hp:pendingOf t=#[])(h2:2<=n){Q:Unit->SortSt->Prop}(q:∀ls' t',arrOf t'=ls'.map item->failedOf t'=none->ls'.Perm (Array.range n)->Seg r ls' 0 n->Q () t'):wpS (model prog w) A E s sortRuns' Q t:=by
 rw[sortRuns'_eq];refine zq (wpS_get ?_)
 have af:(arrOf t).size=n:=by rw[N.arr,zQ,N.size]
 dsimp only;simp only[af];generalize minRun' n n 0=mr
 refine zq (vF (yc (λx c t'=>∃(ls':Qq7) (lo:Nat),c=(none,lo)/\Nw n item kd ls' t'/\Ch r ls' 0 (prs (pendingOf t')) lo/\lo<=n/\x<=lo) (Q:=λc t'=>∃ls':Array Nat,c=(none,n)/\Nw n item kd ls' t'/\Ch r ls' 0 (prs (pendingOf t')) n) ?_ ?_ ⟨ls,0,rfl,N,?_,q5,q5⟩) ?_)
 ·rintro x c t' _ hx ⟨aa, lo, rfl, N1, C1, l1, l2⟩;dsimp only;refine yi (λe=>?_) (λe=>?_)
  ·obtain rfl : lo = n := by lia
   exact zU ⟨aa,rfl,N1,C1⟩
  ·refine zq (xu3 R N1 q5 q5 λm ad t2 m1 m2 N2 K2 S2 => ?_)
   dsimp only
   have Y:Ch r ad 0 (prs (pendingOf t2)) lo:=by rw[K2.p];exact C1.same λk _ hk=>K2.l k hk
   have ac:∀(m:Nat) (l3:Qq7) (J:SortSt),1<=m->m<=n-lo->Nw n item kd l3 J->Ch r l3 0 (prs (pendingOf J)) lo->Seg r l3 lo m ->
     ∃(l':Qq7) (lo':Nat),((none,lo+m):Option Unit × Nat)=(none,lo')/\Nw n item kd l' (setPending J ((pendingOf J).push (lo,m,0)))/\Ch r l' 0 (prs (pendingOf (setPending J ((pendingOf J).push (lo,m,0))))) lo'/\lo'<=n/\x+1<=lo':=λm l3 J m1 m2 N3 C3 S3=>by
    refine⟨l3,lo+m,rfl,⟨N3.arr,N3.kd,N3.ok,N3.perm⟩,?_,q5,q5⟩
    show Ch r l3 0 (prs ((pendingOf J).push (lo,m,0))) (lo+m);unfold prs at C3 ⊢;rw[vJ,zS];exact C3.join ⟨rfl,m1,S3,rfl⟩
   have step:∀(pw:Nat) (m:Nat) (l3:Qq7) (J:SortSt),Nw n item kd l3 J->Ch r l3 0 (prs (pendingOf J)) lo->Seg r l3 lo m->lo+m<=n->∀(i:Nat) (Q:Bool->SortSt->Prop),i+1<(pendingOf J).size->(∀l4 W,Nw n item kd l4 W->Ch r l4 0 (prs (pendingOf W)) lo->Seg r l4 lo m->Q true W)->wpS (model prog w) A E s (mergeAt' i) Q J:=λpw m l3 J N3 C3 S3 hm i Q hi hQ=>
    zQ6 R N3 l1 C3 hi λl4 W N4 C4 _ K4=>hQ l4 W N4 C4 (S3.same λk k1 _=>K4 k k1)
   refine yi (λg=>zq (wpS_lift (ym ⟨rfl,zq (xA3 R N2 q5 q5 S2 λl3 J N3 K3 S3=>?_)⟩))) (λg=>?_)
   case' refine_1=>
    simp only[Bool.not_true,zT,if_false]
    have C3:Ch r l3 0 (prs (pendingOf J)) lo:=by rw[K3.p];exact Y.same λk _ hk=>K3.l k hk
    have m3:1<=min (n-lo) mr:=q5
    have m4:min (n-lo) mr<=n-lo:=Nat.min_le_left ..;generalize min (n-lo) mr=f at m3 m4 S3 ⊢;clear N2 K2 S2 Y K3
   case' refine_2=>
    have N3:=N2;have C3:=Y;have S3:=S2;have m3:=m1;have m4:=m2;clear N2 K2 S2 Y;generalize ad=l3 at *;generalize t2=J at *;generalize m=f at *
   all_goals
    refine zq (wpS_get ?_)
    cases ag:(pendingOf J).back? with
    |none=>exact zq (vA (zU (ac f l3 J m3 m4 N3 C3 S3)))
    | some y =>
     obtain⟨s1,n1,p1⟩:=y;dsimp only;generalize power' n (2*s1+n1) (2*s1+n1+n1+f) n=pw;refine zq (vF (yc (λx c W=>c=(none,())/\∃l4,Nw n item kd l4 W/\Ch r l4 0 (prs (pendingOf W)) lo/\Seg r l4 lo f) (Q:=λc W=>c=(none,())/\∃l4,Nw n item kd l4 W/\Ch r l4 0 (prs (pendingOf W)) lo/\Seg r l4 lo f) ?_ (λ_ _ h=>h) ⟨rfl,l3,N3,C3,S3⟩) ?_)
     ·rintro x c W _ _ ⟨rfl, l4, N4, C4, S4⟩;refine zq (wpS_get ?_)
      by_cases hsz:(pendingOf W).size > 1
      ·rw [if_pos hsz, xz q5]
       rcases(pendingOf W)[(pendingOf W).size-2] with ⟨a,b,ae⟩;dsimp only;refine yi (λ_=>zU ⟨rfl,l4,N4,C4,S4⟩) (λ_=>?_)
       refine zq (step pw f l4 W N4 C4 S4 q5 _ _ q5 λl5 t5 N5 C5 S5=>?_)
       exact zU ⟨rfl,l5,N5,C5,S5⟩
      ·rw[if_neg hsz];exact zU ⟨rfl,l4,N4,C4,S4⟩
     ·rintro c W ⟨rfl,l4,N4,C4,S4⟩;dsimp only;refine zq (vA (zq (vA (zU (ac f l4 _ m3 m4 ⟨N4.arr,N4.kd,N4.ok,N4.perm⟩ ?_ S4)))));show Ch r l4 0 (prs ((pendingOf W).modify ((pendingOf W).size-1) λx=>(x.1,x.2.1,pw))) lo;rw[zV8];exact C4
 ·rintro c t' ⟨aa, lo, rfl, N1, C1, l1, l2⟩
  obtain rfl:lo=n:=q5
  exact⟨aa,rfl,N1,C1⟩
 ·rw[hp];rfl
 ·rintro c t' ⟨aa, rfl, N1, C1⟩;dsimp only;have z0:=C1.len
  have zp:∀t2:SortSt,(prs (pendingOf t2)).length=(pendingOf t2).size:=λt2=>by unfold prs;rw[zf,zm]
  rw[zp] at z0
  refine zq (vF (yc (λx c t2=>c=(none,())/\∃l2,Nw n item kd l2 t2/\Ch r l2 0 (prs (pendingOf t2)) n/\(pendingOf t2).size+x<=n) (Q:=λc t2=>c=(none,())/\∃l2,Nw n item kd l2 t2/\Ch r l2 0 (prs (pendingOf t2)) n/\(pendingOf t2).size<=1) ?_ ?_ ⟨rfl,aa,N1,C1,q5⟩) ?_)
  ·rintro x c t2 _ hx ⟨rfl, l2, N2, Y, zx⟩;refine zq (wpS_get ?_);refine yi (λh=>zU ⟨rfl,l2,N2,Y,h⟩) (λh=>?_)
   refine zq (zQ6 R N2 (zj _) Y ?_ λl3 J N3 C3 z3 _=>zU ⟨rfl,l3,N3,C3,q5⟩)
   exact vB (Nat.add_le_add_right xa2 1) q5
  ·rintro c t2 ⟨rfl, l2, N2, Y, zx⟩
   exact⟨rfl,l2,N2,Y,q5⟩
  ·rintro c t2 ⟨rfl, l2, N2, Y, zx⟩;rw[<- zp] at zx;refine zU (q l2 t2 N2.arr N2.ok N2.perm ?_)
   revert Y zx
   generalize prs (pendingOf t2)=l;intro Y zx
   match l,zx with
   |[],_=>exact absurd (show 0=n from Y) q5
   |[(s1,m1)],_=>
    obtain⟨rfl,_,S,e⟩:=Y;have e:0+m1=n:=e;rw[Nat.zero_add] at e;rw[<- e];exact S
def Rule.weak(R:Rule prog w A s n item kd r):WRule prog w A s n item kd λa b=>!decide (a=b)&&r a b where
 asy:=λa b ha J h=>by
  by_cases e:a=b
  ·simp[e] at h
  ·have e':¬ b=a:=λz=>e z.symm;simp[e] at h;have:=R.tot b a J ha e';rw[h] at this;simp[this]
 tr:=λa b c ha J W h1 h2=>by
  by_cases e1:b=a
  ·rw[e1] at h2;exact h2
  ·by_cases e2 : c = b
   ·rw[e2];exact h1
   ·by_cases Y : c = a
    ·simp[Y]
    ·simp [e1] at h1;simp[e2] at h2;simp[Y];have g1:=R.tot b a J ha e1;have g2:=R.tot c b W J e2;have g3:=R.tot c a W ha Y;rw[h1] at g1;rw[h2] at g2
     have g4:=R.tr a b c ha J W (by simpa using g1.symm) (by simpa using g2.symm)
     rw[g3,g4];rfl
 cmp:=λa b ha J h E Q q=>R.cmp a b ha J h E Q (by simpa [h] using q)
def xp0(R:Rule prog w A s n item kd r)(N:Now n item kd ls t)(h2:2<=n){Q:Unit->SortSt->Prop}(q:∀ls' t',arrOf t'=ls'.map item->failedOf t'=none->ls'.Perm (Array.range n)->Up r ls' n->Q () t'):wpS (model prog w) A E s sortRuns' Q t:=by
 refine xo8 R.weak ⟨N.arr,N.kd,N.ok,N.perm⟩ N.pend h2 λls' t' h1 h3 h4 h5=>q ls' t' h1 h3 h4 λi j W hj=>?_
 have hs:ls'.size=n:=by rw[h4.size_eq,yb]
 have J:lab ls' i≠lab ls' j:=zK1 (Zu h4) W q5
 have z:=h5 i j q5 W q5
 have hne':¬ lab ls' j=lab ls' i:=λe=>J e.symm;simp[hne'] at z
 rw[R.tot _ _ (YZ h4 (qu q5)) (YZ h4 (qu q5)) J,z];rfl
end
abbrev YB(vs:QqW):Nat->Keyed:=λi=>(vs.getD i .none,vs.getD i .none)
def Wj(vs:QqW):vs.toArray.zip vs.toArray=(Array.range vs.length).map (YB vs):=by
 refine Array.ext_getElem? λk=>?_;rw[vE]
 by_cases h:k<vs.length
 ·have W : (Array.range vs.length)[k]? = some k := by rw [Array.getElem?_range, if_pos h]
  rw[W]
  have J:(vs.toArray.zip vs.toArray)[k]?=some (vs[k],vs[k]):=by
   rw[xz (by simpa using h)]
   simp
  rw[J];simp[YB,zR,h]
 ·rw [wa (by simp; lia), wa (by simp; lia)]
  rfl
section
variable {prog:Qq3}{w:Qqa}{A:Around}{E:QqV}{s:Qq1}{r:Qq6}{kd:SortKind}
noncomputable abbrev WJ(h:Heap)(a:Addr)(vs:QqW):Heap:=((h.update a (Obj.mapSeq λ_=>#[])).push (seqObj "tuple" vs.toArray 0)).push (seqObj "list" #[] 0)
def xa4{a:Addr}{vs:QqW}{k:Nat}(J:s.heap.get? a=some (seqObj "list" vs.toArray k))(ac:vs.length<2000)
  (hk:2<=vs.length->∀(E:QqV) (Q:SortKind->Shared->Prop),Q kd { s with heap:=WJ s.heap a vs }->wpAny (model prog w) A (keyKind' vs.toArray) Q E { s with heap:=WJ s.heap a vs })
  (hR:2<=vs.length->WRule prog w A { s with heap:=WJ s.heap a vs } vs.length (YB vs) kd r) {Q:Fin->Shared->Prop}
  (q:∀ls:Array Nat,ls.Perm (Array.range vs.length)->Seg r ls 0 vs.length->Q (.done (.ret .none)) { s with heap:=sortedHeap s.heap a vs (ls.map λi=>vs.getD i .none) }) :
  wpAny (model prog w) A (Builtin.«list.sort» ⟨[.ref a],[]⟩) Q E s:=by
 have la:=zw J;obtain⟨Y,at1⟩:∃Y,(s.heap.update a (Obj.mapSeq λ_=>#[])).get? a=some (seqObj "list" #[] Y):=⟨_,get?_update_seq J _⟩
 have W:(WJ s.heap a vs).get? a=some (seqObj "list" #[] Y):=by
  have n1:a≠((s.heap.update a (Obj.mapSeq λ_=>#[])).push (seqObj "tuple" vs.toArray 0)).objs.size:=by rw[size_push',Heap.size_update];exact zJ (yg la)
  have n2:a≠(s.heap.update a (Obj.mapSeq λ_=>#[])).objs.size:=by rw[Heap.size_update];exact zJ la
  exact(Heap.get?_push_ne _ _ _ n1).trans ((Heap.get?_push_ne _ _ _ n2).trans at1)
 rw[list_sort_plain];refine zb (listItems_at J rfl ?_);refine zb (listUpdate_at J rfl (zb (seqEpoch_at at1 rfl ?_)));refine zb (wpAny_newTuple (zb (wpAny_newList (xJ ?_))));show wpAny (model prog w) A _ Q E { s with heap:=WJ s.heap a vs };dsimp only
 have fin:∀(t:SortSt) (ls:Qq7),arrOf t=ls.map (YB vs)->failedOf t=none->ls.Perm (Array.range vs.length)->Seg r ls 0 vs.length ->
   wpAny (model prog w) A (do
    let touched:=(<- seqEpoch a) != Y
    Builtin.List.listUpdate (.ref a) λ_=>(arrOf t).map (·.2)
    if let some e:=failedOf t then rule "list.sort.comparison-raised";throw e
    if touched then rule "list.sort.modified";raiseError "ValueError" "list modified during sort"
    ret .none) Q E { s with heap:=WJ s.heap a vs }:=λt ls h1 h2 h3 h4=>by
  have ea:(arrOf t).map (·.2)=ls.map λi=>vs.getD i .none:=by rw[h1,Array.map_map];rfl
  have es:((arrOf t).map (·.2)).size<=2000:=by rw[ea,zQ,h3.size_eq,yb];lia
  refine zb (seqEpoch_at W rfl ?_)
  refine zb (listUpdate_at W rfl ?_ (hsz2:=by rw[sizeLine_eq];exact zG es q9))
  rw[h2,ea];simp only[bne_self_eq_false,zT,if_false];exact ze (q ls h3 h4)
 by_cases c:vs.toArray.size<2
 ·rw [if_pos c, if_pos c];refine zb (ze ?_);rw[StateT.run_pure];refine zb (ze (fin _ (Array.range vs.length) (Wj vs) rfl (Array.Perm.refl _) λi j i1 aa hj=>?_))
  have:vs.length<2:=by simpa using c
  lia
 ·rw [if_neg c, if_neg c]
  have h2:2<=vs.length:=by simpa using c
  refine zb (hk h2 _ _ ?_);have N0:Nw vs.length (YB vs) kd (Array.range vs.length) (SortSt.mk' kd (vs.toArray.zip vs.toArray) #[] 7 none):=⟨Wj vs,rfl,rfl,Array.Perm.refl _⟩;refine zb (wV (xo8 (hR h2) N0 rfl h2 (Q:=λ_ t=>∃ls:Array Nat,arrOf t=ls.map (YB vs)/\failedOf t=none/\ls.Perm (Array.range vs.length)/\Seg r ls 0 vs.length) λls t a1 a2 a3 a4=>⟨ls,a1,a2,a3,a4⟩) ?_ λ_ _ e=>e);rintro⟨_,t⟩ s' ⟨rfl,ls,a1,a2,a3,a4⟩;exact fin t ls a1 a2 a3 a4
def Col(prog:Qq3)(w:Qqa)(s:Qq1)(l:Addr)(vs:QqW):Prop:=∀(B:Around) (E:QqV) (Q:List Value->Shared->Prop),vs.length<=sizeLine->Q vs { s with heap:=(s.heap.push (seqObj "list" #[] 0)).update s.heap.objs.size (Obj.mapSeq (·++vs.toArray)) }->wpAny (model prog w) B (collect (.ref l)) Q E s
def Vq{l:Addr}{vs:QqW}(hc:Col prog w s l vs)(aa:vs.length<2000)
    (hk:2<=vs.length->∀(h':Heap),(∀b o,s.heap.get? b=some o->h'.get? b=some o)->∀(B:Around),B.units<=A.units+3->∀(E:QqV) (Q:SortKind->Shared->Prop),Q kd { s with heap:=h' }->wpAny (model prog w) B (keyKind' vs.toArray) Q E { s with heap:=h' })
    (hR:2<=vs.length->∀(h':Heap),(∀b o,s.heap.get? b=some o->h'.get? b=some o)->∀(B:Around),B.units<=A.units+3->WRule prog w B { s with heap:=h' } vs.length (YB vs) kd r) {Q:QqV}
    (q:∀ls:Array Nat,ls.Perm (Array.range vs.length)->Seg r ls 0 vs.length->Q (.ref (s.heap.objs.size+1)) { s with heap:=sortedAll s.heap vs (ls.map λi=>vs.getD i .none) }) :
    wpAny (model prog w) A (call (.builtin "sorted") [.ref l]) Q E s:=by
  refine Calls.call_function_entry kind_sorted plain_sorted entry_sorted (args_sorted1 _) ?_;unfold Builtin.«sorted»
  refine zb (m:=checkCount "sorted" 1 1 _) (ze (zb (hc _ _ _ (zG (wb aa) (by rw[sizeLine_eq];decide)) (zb (wpAny_newList ?_)))))
  have z1:((s.heap.push (seqObj "list" #[] 0)).update s.heap.objs.size (Obj.mapSeq (·++vs.toArray))).objs.size=s.heap.objs.size+1:=by rw[Heap.size_update,size_push']
  let h1:Heap:=((s.heap.push (seqObj "list" #[] 0)).update s.heap.objs.size (Obj.mapSeq (·++vs.toArray))).push (seqObj "list" vs.toArray 0)
  have at1:h1.get? (s.heap.objs.size+1)=some (seqObj "list" vs.toArray 0):=by rw[<- z1];exact zr _ rfl
  have Y:∀b o,s.heap.get? b=some o->h1.get? b=some o:=λb o e=>by
    have lb:=zw e;refine zg _ ?_;rw[Heap.get?_update_ne _ _ _ _ (zJ lb)];exact zg _ e
  have J:∀b o,s.heap.get? b=some o->(WJ h1 (s.heap.objs.size+1) vs).get? b=some o:=λb o e=>by
    have lb:=zw e;refine zg _ (zg _ ?_);rw[Heap.get?_update_ne _ _ _ _ (zJ (yg lb))];exact Y b o e
  have eH:∀W:Array Value,sortedHeap h1 (s.heap.objs.size+1) vs W=sortedAll s.heap vs W:=λ_=>rfl
  have body:∀B:Around,B.units<=A.units+3->∀(E:QqV) (P:Fin->Shared->Prop),(∀ls:Array Nat,ls.Perm (Array.range vs.length)->Seg r ls 0 vs.length->P (.done (.ret .none)) { s with heap:=sortedAll s.heap vs (ls.map λi=>vs.getD i .none) }) ->
      wpAny (model prog w) B (Builtin.«list.sort» ⟨[.ref (s.heap.objs.size+1)],[]⟩) P E { s with heap:=h1 }:=λB hB E P p=>
    xa4 (s:={ s with heap:=h1 }) at1 aa (λh2 E Q q=>hk h2 _ J B hB E Q q) (λh2=>hR h2 _ J B hB) λls a1 a2=>by
      show P _ { s with heap:=sortedHeap h1 (s.heap.objs.size+1) vs _ };rw[eH];exact p ls a1 a2
  show wpAny _ _ _ _ _ { s with heap:=h1 };rw[z1]
  clear_value h1
  refine zb (xJ (wG slot_list_sort ⟨_,at1,rfl⟩ entry_list_sort (body _ ?_ _ _ λls a1 a2=>⟨_,rfl,ze ⟨_,rfl,q ls a1 a2⟩⟩) (args_list_sort _)));show A.units+1+1<=A.units+3;lia
def zj6{l:Addr}{vs:QqW}(W:s.heap.IsList l vs.toArray)(J:vs.length<2000)
  (hk:2<=vs.length->∀(h':Heap),(∀b o,s.heap.get? b=some o->h'.get? b=some o)->∀(B:Around),B.units<=A.units+3->∀(E:QqV) (Q:SortKind->Shared->Prop),Q kd { s with heap:=h' }->wpAny (model prog w) B (keyKind' vs.toArray) Q E { s with heap:=h' })
  (Y:2<=vs.length->∀(h':Heap),(∀b o,s.heap.get? b=some o->h'.get? b=some o)->∀(B:Around),B.units<=A.units+3->WRule prog w B { s with heap:=h' } vs.length (YB vs) kd r) {Q:QqV}
  (q:∀ls:Array Nat,ls.Perm (Array.range vs.length)->Seg r ls 0 vs.length->Q (.ref (s.heap.objs.size+1)) { s with heap:=sortedAll s.heap vs (ls.map λi=>vs.getD i .none) }) :
  wpAny (model prog w) A (call (.builtin "sorted") [.ref l]) Q E s:=Vq (λ_ _ _ hz h=>collect_list W h hz) J hk Y q
def zp8{l:Addr}{vs:QqW}(hl:s.heap.IsList l vs.toArray)(Y:vs.length<2000)
  (hk:2<=vs.length->∀(h':Heap),(∀b o,s.heap.get? b=some o->h'.get? b=some o)->∀(B:Around),B.units<=A.units+3->∀(E:QqV) (Q:SortKind->Shared->Prop),Q kd { s with heap:=h' }->wpAny (model prog w) B (keyKind' vs.toArray) Q E { s with heap:=h' })
  (hR:2<=vs.length->∀(h':Heap),(∀b o,s.heap.get? b=some o->h'.get? b=some o)->∀(B:Around),B.units<=A.units+3->Rule prog w B { s with heap:=h' } vs.length (YB vs) kd r) {Q:QqV}
  (q:∀ls:Array Nat,ls.Perm (Array.range vs.length)->Up r ls vs.length->Q (.ref (s.heap.objs.size+1)) { s with heap:=sortedAll s.heap vs (ls.map λi=>vs.getD i .none) }) :
  wpAny (model prog w) A (call (.builtin "sorted") [.ref l]) Q E s:=
 zj6 hl Y hk (λh2 h' o B hB=>(hR h2 h' o B hB).weak) λls h4 h5=>q ls h4 λi j W hj=>by
  have R:=hR q5 s.heap (λ_ _ e=>e) A q5
  have hs:ls.size=vs.length:=by rw[h4.size_eq,yb]
  have J:lab ls i≠lab ls j:=zK1 (Zu h4) W q5
  have z:=h5 i j q5 W q5
  have hne':¬ lab ls j=lab ls i:=λe=>J e.symm;simp[hne'] at z
  rw[R.tot _ _ (YZ h4 (qu q5)) (YZ h4 (qu q5)) J,z];rfl
end
end L2.Srt
namespace L2
open PySem PySem.Spec PyProof.Rows PySem.SeqAt
theorem ints_at:∀{vs:QqW}{ns:Qq4},IntsAre vs ns->∀{i:Nat},i<vs.length->∃t,vs.getD i .none=.int (ns.getD i 0) t
 |_,_,.cons n t h,0,_=>⟨t,rfl⟩
 |_,_,.cons n t h,i+1,hi=>by
  obtain⟨u,e⟩:=ints_at h (i:=i) (by simpa using hi)
  exact⟨u,by simpa using e⟩
theorem zg4:∀{vs:QqW}{ns:Qq4},IntsAre vs ns->vs.length=ns.length
 |_,_,.nil=>rfl
 |_,_,.cons n t h=>by simp[zg4 h]
theorem Jy{vs:QqW}{ns:Qq4}(h:IntsAre vs ns):∀{ls:List Nat},(∀i∈ls,i<vs.length)->IntsAre (ls.map λi=>vs.getD i .none) (ls.map λi=>ns.getD i 0)
 |[],_=>.nil
 |i::ls,J=>by
  obtain⟨t,e⟩:=ints_at h (J i (xj ..));rw[zN,zN,e];exact .cons _ t (Jy h λj hj=>J j (zk _ hj))
theorem zw8:∀{vs:QqW}{ns:Qq4},IntsAre vs ns->2<=vs.length->keyKind' vs.toArray=pure oneType'
 |_::_::_,_,h,_=>keyKind_ints h
 |[],_,_,h=>by simp at h
 |[_],_,_,h=>by simp at h
section
variable {prog:Qq3}{w:Qqa}{A:Around}{E:QqV}{s:Qq1}
def Ks{l:Addr}{vs:QqW}{ns:Qq4}{Q:QqV}(hl:Srt.Col prog w s l vs)(W:IntsAre vs ns)(h9:vs.length<2000)
    (h:∀(J:Qq8) (ns':Qq4),IntsAre J.toList ns'->ns'.Perm ns->ns'.Pairwise (·<=·)->Q (.ref (s.heap.objs.size+1)) { s with heap:=sortedAll s.heap vs J }) :
    wpAny (model prog w) A (call (.builtin "sorted") [.ref l]) Q E s:=by
  have len:=zg4 W;refine Srt.Vq (kd:=oneType') (r:=λa b=>decide (ns.getD a 0<ns.getD b 0)) hl h9 (λh2 h' o B hB E Q q=>?_) (λh2 h' o B hB=>⟨λa b _ _ z=>?_,λa b c _ _ _ z1 z2=>?_,λa b ha hb _ E Q q=>?_⟩) λls Y hs=>?_
  · rw [zw8 W h2]
    exact ze q
  · simp at z ⊢;lia
  · simp at z1 z2 ⊢;lia
  · obtain ⟨t, e1⟩ := ints_at W ha
    obtain⟨u,e2⟩:=ints_at W hb;show wpAny (model prog w) B (keyLt' oneType' (vs.getD a .none) (vs.getD b .none)) Q E _;rw[e1,e2,keyLt'_oneType];exact oneLt_int q
  · have hm : ∀ i ∈ ls.toList, i < vs.length := λi hi => Srt.YZ Y hi
    have hsz:ls.size=vs.length:=by rw[Y.size_eq,yb]
    refine h _ (ls.toList.map λi=>ns.getD i 0) (by rw[Array.toList_map];exact Jy W hm) ?_ ?_
    · have e : (List.range vs.length).map (λi => ns.getD i 0) = ns := by
        refine List.ext_getElem (by simp[len]) λi h1 h2=>?_
        rw[List.getElem_map,List.getElem_range,zR,zd h2];rfl
      have:=(wg.mp Y).map λi=>ns.getD i 0;rw[vD,e] at this;exact this
    · rw [xF]
      refine xV.mpr λi j hi hj aa=>?_;rw[zm] at hi hj
      have z:=hs i j q5 aa q5
      have ei:=Srt.vK (ls:=ls) hi;have ej:=Srt.vK (ls:=ls) hj
      rw[<- zL,zd (by rw[zm];exact hi)] at ei
      rw[<- zL,zd (by rw[zm];exact hj)] at ej
      rw[zD ei,zD ej];simp at z;exact z
end
section
variable {X:Cx}{A:AC}
end
end L2
namespace L2.Srt
open PySem PyProof.Rows PySem.SeqAt
section
variable {prog:Qq3}{w:Qqa}{M:Model}{A:Around}{E:QqV}{s:Qq1}
theorem zo0{α β:Type}{f:α->Sem β}{g:α->β}:∀{l:List α}{Q:List β->Shared->Prop},(∀a∈l,∀Q:β->Shared->Prop,Q (g a) s->wpAny M A (f a) Q E s)->Q (l.map g) s->wpAny M A (l.mapM f) Q E s
 |[],Q,_,q=>by rw[List.mapM_nil];exact ze q
 |a::l,Q,h,q=>by
  rw[List.mapM_cons];refine zb (h a (xj ..) _ (zb (zo0 (λb J=>h b (zk _ J)) (ze q))))
def zo1{α β:Type}{f:α->Sem β}{g:α->β}{l:List α}{Q:Array β->Shared->Prop}(h:∀a∈l,∀Q:β->Shared->Prop,Q (g a) s->wpAny M A (f a) Q E s)(q:Q (l.map g).toArray s):wpAny M A (l.toArray.mapM f) Q E s:=by
 rw[List.mapM_toArray];show wpAny M A (List.toArray <$> l.mapM f) Q E s;rw[map_eq_pure_bind];exact zb (zo0 h (ze q))
def XH(v:Value):firstOfTuple' v=(do
  if (<- typeOf v) != .type "tuple" then return none
  return (<- Builtin.List.listItems v)[0]?):=rfl
def Tup(h:Heap)(v:Value)(p:Value)(rest:QqW):Prop:=∃a,v=.ref a/\IsTup h a (p::rest).toArray
def Tup.type{v p:Value}{rest:QqW}(t:Tup s.heap v p rest):s.TypeIs v "tuple" := by
 obtain⟨a,rfl,o,ho,J,_⟩:=t;exact⟨o,ho,J⟩
def Tup.items{v p:Value}{rest:QqW}(t:Tup s.heap v p rest){Q:Array Value->Shared->Prop}(q:Q (p::rest).toArray s):wpAny M A (Builtin.List.listItems v) Q E s:=by
 obtain⟨a,rfl,o,ho,J,n,hd⟩:=t;exact listItems_at ho hd q
def WC{vs:QqW}{fst:Value->Value}{T:String}(h2:2<=vs.length)(ht:∀v∈vs,∃rest,Tup s.heap v (fst v) rest)(W:∀v∈vs,s.TypeIs (fst v) T){Q:SortKind->Shared->Prop}(q:Q (tuples' (Value.type T != Value.type "tuple")) s):wpAny M A (keyKind' vs.toArray) Q E s:=by
  rw[keyKind'_eq];refine zb (zo1 (g:=λv=>some (fst v)) (λv J Q q=>?_) ?_)
  · obtain ⟨rest, t⟩ := ht v J
    rw[XH];refine zb (wpAny_typeOf t.type ?_)
    have e:(Value.type "tuple" != Value.type "tuple")=false:=by rfl
    rw[e];exact zb (t.items (ze q))
  · have e : (vs.map λv => some (fst v)).toArray.all (·.isSome) = true := by simp
    rw[if_pos e];refine zb (ym ?_)
    have e2:((vs.map λv=>some (fst v)).toArray.filterMap id)=(vs.map fst).toArray:=by
      simp[yN]
    rw[e2,oneTypeOnly'_eq];refine zb (zb (zo1 (g:=λ_=>Value.type T) (λv J Q q=>?_) ?_))
    · obtain ⟨u, hu, rfl⟩ := zo.mp J
      exact wpAny_typeOf (W u hu) q
    · have e3 : ((vs.map fst).map λ_ => Value.type T).toArray[0]? = some (Value.type T) := by
        cases vs with
        |nil=>simp at h2
        |cons v vs=>simp
      have Y:(((vs.map fst).map λ_=>Value.type T).toArray.all (· == Value.type T))=true:=by
        simp only[List.all_toArray,List.all_map,yJ];intro _ _;show(Value.type T == Value.type T)=true;simp
      rw[e3];dsimp only;rw[Y];exact ze (ze q)
def UP(f:Bool)(x y:Value):keyLt' (tuples' f) x y=(do
  let xs <- Builtin.List.listItems x
  let ys <- Builtin.List.listItems y
  for ((p,q),i) in (xs.toList.zip ys.toList).zipIdx do
   if !(<- eqBool p q) then return <- oneLt' (f&&i == 0) p q
  return xs.size<ys.size):=rfl
inductive Lex(A:Around)(s:Qq1)(f:Bool)(b:Bool):Nat->List Value->List Value->Prop
 |alike {i:Nat}{p q:Value}{ps qs:QqW}:EqAt A s p q true->Lex A s f b (i+1) ps qs->Lex A s f b i (p::ps) (q::qs)
 |here {i:Nat}{p q:Value}{ps qs:QqW}:EqAt A s p q false->(∀(prog:Qq3) (w:Qqa) (E:QqV) (Q:Bool->Shared->Prop),Q b s->wpAny (model prog w) A (oneLt' (f&&i == 0) p q) Q E s)->Lex A s f b i (p::ps) (q::qs)
def Jx{f b:Bool}(tx:Tup s.heap x p ps)(ty:Tup s.heap y q qs)(L:Lex A s f b 0 (p::ps) (q::qs))(h:Q b s):wpAny (model prog w) A (keyLt' (tuples' f) x y) Q E s:=by
 rw[UP];refine zb (tx.items (zb (ty.items ?_)))
 refine zb (wpAny_forIn_list _ (λrest c s'=>s'=s/\c.1=none/\∃i xs ys,rest=(xs.zip ys).zipIdx i/\Lex A s f b i xs ys) (λc s'=>s'=s/\c.1=some b) ?turn ?fin _ _ ⟨rfl,rfl,0,p::ps,q::qs,by simp,L⟩ |> λz=>wV z ?post λ_ _ e=>e)
 case turn=>
  rintro⟨⟨u,v⟩,k⟩ rest c s' ⟨rfl,W,i,xs,ys,e,L⟩
  cases L with
  |alike he L=>
   rw[yu,vt] at e;injection e with J e2;injection J with J e3;injection J with e4 Y;subst e3 e4 Y;refine zb (he prog w _ _ ?_);simp only[Bool.not_true,zT,if_false];exact ze ⟨rfl,rfl,_,_,_,e2,L⟩
  |here he ho=>
   rw[yu,vt] at e;injection e with J e2;injection J with J e3;injection J with e4 Y;subst e3 e4 Y;refine zb (he prog w _ _ ?_);simp only[Bool.not_false,if_true];exact zb (ho prog w _ _ (ze ⟨rfl,rfl⟩))
 case fin=>
  rintro c s' ⟨_,_,i,xs,ys,e,L⟩
  cases L<;>(rw[yu,vt] at e;cases e)
 case post=>
  rintro c s' ⟨rfl,W⟩;obtain⟨c1,c2⟩:=c;simp only at W;subst W;exact ze h
def Wp{i j:Int}(h:Q (decide (i<j)) s):wpAny (model prog w) A (oneLt' false (.int i t) (.int j u)) Q E s:=by
 rw[oneLt'_eq];simp only[zT,if_false];exact zb (show wpAny (model prog w) A (compareOp .Lt (.int i t) (.int j u)) _ _ _ from PyProof.Rows.lt_int (ye h))
def Wo(ha:IsTup s.heap a xs)(J:IsTup s.heap b ys)(hi:IntsAre xs.toList ns)(hj:IntsAre ys.toList ms)(hu:A.units<cLine)(h:Q (HT.qA ns ms) s):wpAny (model prog w) A (oneLt' false (.ref a) (.ref b)) Q E s:=by
 rw[oneLt'_eq];simp only[zT,if_false];exact zb (show wpAny (model prog w) A (compareOp .Lt (.ref a) (.ref b)) _ _ _ from HT.VC ha J hi hj hu (ye h))
def YC(f:Bool){i j:Int}(h:Q (decide (i<j)) s):wpAny (model prog w) A (oneLt' f (.int i t) (.int j u)) Q E s:=by
 cases f with
 |true=>exact oneLt_int h
 |false=>exact Wp h
end
end L2.Srt
namespace L2
open PySem PySem.Spec PyProof.Rows PySem.SeqAt
def xJ4(X:Cx)(H:Hp)(f:Bool)(y:V):Prop:=∀pins s σ v,Inv X pins σ H s->RelV y v->∃p rest,Srt.Tup s.heap v p rest/\s.TypeIs p (if f then "int" else "tuple")
def xJ6(X:Cx)(H:Hp)(f:Bool)(y z:V)(b:Bool):Prop:=∀pins s σ u v,Inv X pins σ H s->RelV y u->RelV z v->∀A:Around,A.units+60<cLine->∃p ps q qs,Srt.Tup s.heap u p ps/\Srt.Tup s.heap v q qs/\Srt.Lex A s f b 0 (p::ps) (q::qs)
noncomputable def zP4(X:Cx):List V->Hp->VK->Prop:=λxs H Q=>∃(p:Addr) (ys:List V) (f:Bool) (r:Qq6),xs=[.ref p]/\SqL X.K H p ys/\ys.length<900 /\
 (∀a b,a<ys.length->b<ys.length->a≠b->r a b=!r b a)/\(∀a b c,a<ys.length->b<ys.length->c<ys.length->r a b=true->r b c=true->r a c=true) /\
 (∀a,a<ys.length->xJ4 X H f (ys.getD a .non))/\(∀a b,a<ys.length->b<ys.length->a≠b->xJ6 X H f (ys.getD a .non) (ys.getD b .non) (r a b)) /\
 ∀ls:Array Nat,ls.Perm (Array.range ys.length)->Srt.Up r ls ys.length->∀l,H l=none->Q (.ref l) (upd H l (.lst (ls.toList.map λi=>ys.getD i .non)))
def Vals.getD(h:Vals xs us){i:Nat}(hi:i<xs.length):RelV (xs.getD i .non) (us.getD i .none):=by
 obtain⟨u,e,r⟩:=h.get (zd hi);rw[zR,zR,e,zd hi];exact r
theorem XY(h:Vals xs us):∀{ls:List Nat},(∀i∈ls,i<xs.length)->Vals (ls.map λi=>xs.getD i .non) (ls.map λi=>us.getD i .none)
 |[],_=>.nil
 |i::ls,J=>.cons (h.getD (J i (xj ..))) (XY h λj hj=>J j (zk _ hj))
section
variable {X:Cx}
def Xo{n:Nat}(hr:Room n X.A):qy X (.builtin "sorted") (zP4 X):=by
 classical
 intro pins s σ H xs us Q I r h;obtain⟨p,ys,f,rr,rfl,hq,hn,tot,tr,Y,cmp,q⟩:=h;obtain⟨u,rfl,hu⟩:=YI r;have hu':u=.ref p:=hu;subst hu';obtain⟨its,rv,pl,_⟩:=I.list hq;have len:=rv.length;have un:=hr.un
 have aa:∀v∈its,∃i,i<ys.length/\v=its.getD i .none:=λv J=>by
  obtain⟨i,hi,e⟩:=List.getElem_of_mem J
  exact⟨i,q5,by rw[zR,zd hi,e];rfl⟩
 refine Srt.zp8 (r:=rr) (kd:=tuples' f) pl.isList q5 (λh2 h' keep B hB E Q q=>?_) (λh2 h' keep B hB=>?_) (λls W hU=>?_)
 ·have I' : Inv X pins σ H { s with heap := h' } := I.kept (t' := s.toks) keep
  have each:∀v∈its,∃p rest,Srt.Tup h' v p rest/\Shared.TypeIs { s with heap:=h' } p (if f then "int" else "tuple"):=λv J=>by
   obtain⟨i,hi,rfl⟩:=aa v J;exact Y i hi pins _ σ _ I' (rv.getD hi)
  refine Srt.WC (s:={ s with heap:=h' }) (T:=if f then "int" else "tuple") (fst:=λv=>if h:∃p rest,Srt.Tup h' v p rest/\Shared.TypeIs { s with heap:=h' } p (if f then "int" else "tuple") then h.choose else v) q5 (λv J=>?_) (λv J=>?_) ?_
  ·have e := each v J;obtain⟨rest,t,_⟩:=e.choose_spec
   exact⟨rest,by rw[dif_pos e];exact t⟩
  ·have e := each v J;obtain⟨rest,_,t⟩:=e.choose_spec
   show Shared.TypeIs _ (if h:_ then _ else _) _
   rw[dif_pos e];exact t
  ·cases f
   ·exact q
   ·exact q
 ·have I' : Inv X pins σ H { s with heap := h' } := I.kept (t' := s.toks) keep
  refine⟨λa b ha hb=>tot a b q5 q5,λa b c ha hb hc=>tr a b c q5 q5 q5,λa b ha hb ad E Q q=>?_⟩
  obtain⟨p1,ps,p2,qs,t1,t2,L⟩:=cmp a b q5 q5 ad pins _ σ _ _ I' (rv.getD q5) (rv.getD q5) B q5
  exact Srt.Jx t1 t2 L q
 ·obtain ⟨e, he⟩ := sortedAll_at s.heap its (ls.map λi => its.getD i .none);have hf:H (s.heap.objs.size+1)=none:=I.hok.fresh (wt _)
  have ac:∀i∈ls.toList,i<ys.length:=λi hi=>by
   have:=(W.mem_iff).mp (Array.mem_toList_iff.mp hi);rw[Array.mem_range] at this;lia
  rw[<- len] at W hU;refine⟨.ref (s.heap.objs.size+1),_,I.laid (t':=s.toks) (o:=.lst (ls.toList.map λi=>ys.getD i .non)) (λb u e=>sortedAll_old e) (wt _) ?_,rfl,q ls W hU _ hf⟩;refine⟨?_,(ls.toList.map λi=>its.getD i .none),e,XY rv ac,?_⟩
  ·rw [zf, zm, W.size_eq, yb]
   exact zG (wb hn) q9
  ·have ea : (ls.toList.map λi => its.getD i .none).toArray = ls.map λi => its.getD i .none := by rw [<- Array.toList_map, vc]
   rw[ea];exact he
end
inductive SKey where
 |n (i:Int) |t (ns:Qq4)
 deriving DecidableEq
def SKey.d:SKey->D
 |.n i=>.int i
 |.t ns=>.tup (ns.map D.int)
def SKey.num:SKey->Bool
 |.n _=>true
 |.t _=>false
noncomputable def SKey.lt:SKey->SKey->Bool
 |.n i,.n j=>decide (i<j)
 |.t ns,.t ms=>HT.qA ns ms
 |_,_=>false
structure SRow where
 key:SKey
 name:Int
 rest:List D
def SRow.d(x:SRow):D:=.tup (x.key.d::.int x.name::x.rest)
noncomputable def SRow.lt(x y:SRow):Bool:=if x.key=y.key then decide (x.name<y.name) else x.key.lt y.key
theorem zf9:∀(xs ys:Qq4),xs≠ys->HT.qA xs ys=!HT.qA ys xs
 |[],[],h=>absurd rfl h
 |[],y::ys,_=>rfl
 |x::xs,[],_=>rfl
 | x :: xs, y :: ys, h => by
  rw[HT.je,HT.je]
  by_cases e:x=y
  ·subst e;rw[if_pos rfl,if_pos rfl]
   exact zf9 xs ys λz=>h (by rw[z])
  ·rw [if_neg e, if_neg (Ne.symm e)]
   by_cases l:x<y
   ·rw[xI l,xn q5];rfl
   ·rw[xn l,xI q5];rfl
theorem zw0:∀(xs:Qq4),HT.qA xs xs=false
 |[]=>rfl
 |x::xs=>by rw[HT.je,if_pos rfl];exact zw0 xs
theorem Ju:∀(xs ys W:Qq4),HT.qA xs ys=true->HT.qA ys W=true->HT.qA xs W=true
 |[],[],_,h,_=>by cases h
 |[],_::_,[],_,h=>by cases h
 |[],_::_,_::_,_,_=>rfl
 |_::_,[],_,h,_=>by cases h
 |_::_,_::_,[],_,h=>by cases h
 | x :: xs, y :: ys, z :: W, h1, h2 => by
  rw[HT.je] at h1 h2 ⊢
  by_cases Y:x=y
  ·subst Y;rw[if_pos rfl] at h1
   by_cases J:x=z
   ·subst J;rw[if_pos rfl] at h2 ⊢;exact Ju xs ys W h1 h2
   ·rw[if_neg J] at h2 ⊢;exact h2
  ·rw [if_neg Y] at h1;have l1:=of_decide_eq_true h1
   by_cases J:y=z
   ·subst J;rw[if_neg Y];exact h1
   ·rw [if_neg J] at h2;have l2:=of_decide_eq_true h2
    rw[if_neg q5]
    exact xI q5
def SKey.lt_anti{x y:SKey}(J:x.num=y.num)(h:x≠y):x.lt y=!y.lt x:=by
 cases x with
 | n i =>
  cases y with
  |n j=>
   have:i≠j:=λz=>h (by rw[z])
   simp only[SKey.lt]
   by_cases l:i<j
   ·rw[xI l,xn q5];rfl
   ·rw[xn l,xI q5];rfl
  |t ms=>cases J
 |t ns=>
  cases y with
  |n j=>cases J
  |t ms=>exact zf9 ns ms λz=>h (by rw[z])
def SKey.lt_irr(x:SKey):x.lt x=false:=by
 cases x with
 |n i=>simp[SKey.lt]
 |t ns=>exact zw0 ns
def SKey.lt_trans{x y z:SKey}(h1:x.lt y=true)(h2:y.lt z=true):x.lt z=true:=by
 cases x<;>cases y<;>cases z<;>first
  |(cases h1;done) |(cases h2;done)
  |(simp only[SKey.lt,yf] at h1 h2 ⊢;lia)
  |exact Ju _ _ _ h1 h2
def SRow.lt_anti{x y:SRow}(J:x.key.num=y.key.num)(h:x.name≠y.name):x.lt y=!y.lt x:=by
 unfold SRow.lt
 by_cases e:x.key=y.key
 ·rw [if_pos e, if_pos e.symm]
  by_cases l:x.name<y.name
  ·rw[xI l,xn q5];rfl
  ·rw[xn l,xI q5];rfl
 ·rw[if_neg e,if_neg (Ne.symm e)];exact SKey.lt_anti J e
def SRow.lt_trans{x y z:SRow}(h1:x.lt y=true)(h2:y.lt z=true):x.lt z=true:=by
 unfold SRow.lt at *
 by_cases W:x.key=y.key
 ·rw [if_pos W] at h1
  by_cases J:y.key=z.key
  ·rw[if_pos J] at h2;rw[if_pos (W.trans J)];simp only[yf] at *;lia
  ·rw [if_neg J] at h2
   rw[if_neg (by rw[W];exact J),W]
   exact h2
 ·rw [if_neg W] at h1
  by_cases J:y.key=z.key
  ·rw [if_neg (by rw [<- J]; exact W), <- J]
   exact h1
  ·rw [if_neg J] at h2;have h3:=SKey.lt_trans h1 h2
   by_cases Y:x.key=z.key
   ·rw[Y,SKey.lt_irr] at h3;cases h3
   ·rw[if_neg Y];exact h3
def Xu:SRow:=⟨.n 0,0,[]⟩
noncomputable def xl3:List D->(D->Prop)->Prop:=λes k=>∃(J:List SRow) (f:Bool),es=[.lst (J.map SRow.d)]/\J.length<900/\(∀x∈J,x.key.num=f)/\(J.map SRow.name).Nodup/\∀rows':List SRow,rows'.Perm J->rows'.Pairwise (λx y=>x.lt y=true)->k (.lst (rows'.map SRow.d))
theorem JD:∀(xs ys:Qq4),Xl (xs.map D.int) (ys.map D.int)=decide (xs=ys)
 |[],[]=>by unfold Xl;rfl
 |[],y::ys=>by unfold Xl;simp
 |x::xs,[]=>by unfold Xl;simp
 |x::xs,y::ys=>by
  rw[zN,zN];unfold Xl;rw[JD xs ys];unfold eqD
  by_cases e:x=y
  ·subst e;simp
  ·simp[e]
def xb0{x y:SKey}(h:x.num=y.num):eqD x.d y.d=decide (x=y):=by
 cases x with
 | n i =>
  cases y with
  |n j=>
   show eqD (.int i) (.int j)=_;unfold eqD
   by_cases e:i=j
   ·subst e;simp
   ·simp[e]
  |t ms=>cases h
 | t ns =>
  cases y with
  |n j=>cases h
  |t ms=>
   show eqD (.tup _) (.tup _)=_;unfold eqD;rw[JD]
   by_cases e:ns=ms
   ·subst e;simp
   ·simp[e]
def zu6(x:SKey):okE x.d 20=true:=by
 cases x with
 |n i=>exact Xc
 |t ns=>
  refine(Wq (k:=19)).mpr λd hd=>?_;obtain⟨x,_,rfl⟩:=zo.mp hd;exact Xc
section
variable {X:Cx}{pins:QqL}{σ:St}{H:Hp}{s:Qq1}{G:QqE}{Z:QqA}
def zE2(h:Vals (a::b::xs) its):∃p q r,its=p::q::r/\RelV a p/\RelV b q:=by
 cases h with
 |cons h0 t=>
  cases t with
  |cons h1 t1=>exact⟨_,_,_,rfl,h0,h1⟩
structure RowAt(X:Cx)(G:QqE)(Z:QqA)(H:Hp)(s:Qq1)(x:SRow)(u p:Value)(rest:QqW):Prop where
 tup:∃q,Srt.Tup s.heap u p (q::rest)/\∃t,q=.int x.name t
 key:∃z,Rep X.K G Z H x.key.d z/\RelV z p
def Vs(I:Inv X pins σ H s)(r:Rep X.K G Z H x.d v)(q:RelV v u):∃p rest,RowAt X G Z H s x u p rest:=by
 unfold SRow.d at r;obtain⟨a,xs,rfl,sq,rs⟩:=r.tup_inv;have e:u=.ref a:=q;subst e;obtain⟨its,rv,pl,_⟩:=I.tuple sq.sq;obtain⟨z0,Y,rfl,r0,W⟩:=rs.split;obtain⟨z1,xs2,rfl,r1,aa⟩:=W.split;have e1:=r1.int_inv;subst e1;obtain⟨p0,p1,J,rfl,h0,t,rfl⟩:=zE2 rv;exact⟨p0,J,⟨_,⟨a,rfl,pl⟩,t,rfl⟩,z0,r0,h0⟩
def zd6(I:Inv X pins σ H s){x:SRow}{u p:Value}{rest:QqW}(R:RowAt X G Z H s x u p rest):s.TypeIs p (if x.key.num then "int" else "tuple"):=by
 obtain⟨z,r,q⟩:=R.key
 cases h:x.key with
 |n i=>
  rw[h] at r;have e:z=.int i:=r.int_inv;subst e;obtain⟨t,rfl⟩:=q;exact typeIs_int s i t
 |t ns=>
  rw[h] at r;obtain⟨a,xs,rfl,sq,rs⟩:=Rep.tup_inv (show Rep X.K G Z H (.tup (ns.map D.int)) z from r);have e:p=.ref a:=q;subst e;obtain⟨its,rv,⟨o,ho,J,_⟩,_⟩:=I.tuple sq.sq;exact⟨o,ho,J⟩
def zq5(I:Inv X pins σ H s)(hn:x.key.num=y.key.num)(hd:x.name≠y.name)(R:RowAt X G Z H s x u p ps)(R':RowAt X G Z H s y v q qs)(hu:A.units+60<cLine) :
  ∃p ps q qs,Srt.Tup s.heap u p ps/\Srt.Tup s.heap v q qs/\Srt.Lex A s x.key.num (x.lt y) 0 (p::ps) (q::qs):=by
 obtain⟨n1,t1,ac,rfl⟩:=R.tup;obtain⟨n2,t2,aa,rfl⟩:=R'.tup;obtain⟨z1,W,q1⟩:=R.key;obtain⟨z2,J,q2⟩:=R'.key
 have E:=(zy9 I 20 x.key.d y.key.d z1 z2 p q A (zu6 _) (zu6 _) W J q1 q2 q5).1
 rw[xb0 hn] at E;refine⟨p,_,q,_,t1,t2,?_⟩
 by_cases e:x.key=y.key
 ·rw [xI e] at E;refine .alike E (.here ?_ ?_)
  ·have := EqAt.int_int (A := A) (s := s) x.name ac y.name aa
   have e2:(x.name == y.name)=false:=by simpa using hd
   rw[e2] at this;exact this
  ·intro prog w E Q h;unfold SRow.lt at h;rw[if_pos e] at h;exact Srt.YC _ h
 ·rw [xn e] at E;refine .here E ?_;intro prog w E Q h;unfold SRow.lt at h;rw[if_neg e] at h
  cases hx:x.key with
  | n i =>
   cases Y:y.key with
   |n j=>
    rw[hx] at W h;rw[Y] at J h;have e1:z1=.int i:=W.int_inv;have e2:z2=.int j:=J.int_inv;subst e1 e2;obtain⟨a1,rfl⟩:=q1;obtain⟨a2,rfl⟩:=q2;exact Srt.YC _ h
   |t ms=>rw[hx,Y] at hn;cases hn
  | t ns =>
   cases Y:y.key with
   |n j=>rw[hx,Y] at hn;cases hn
   |t ms=>
    rw[hx] at W h;rw[Y] at J h;obtain⟨a,xs,rfl,sq,rs⟩:=Rep.tup_inv (show Rep X.K G Z H (.tup (ns.map D.int)) z1 from W);obtain⟨b,ys,rfl,sq',rs'⟩:=Rep.tup_inv (show Rep X.K G Z H (.tup (ms.map D.int)) z2 from J);have e1:p=.ref a:=q1;have e2:q=.ref b:=q2;subst e1 e2;obtain⟨its,rv,pl,_⟩:=I.tuple sq.sq;obtain⟨its',rv',pl',_⟩:=I.tuple sq'.sq;rw[kJ rs] at rv;rw[kJ rs'] at rv';show wpAny _ _ (oneLt' (false&&_) _ _) _ _ _
    exact Srt.Wo pl pl' (qf rv) (qf rv') q5 h
end
def Reps.getD{K:Qq5}{G:QqE}{Z:QqA}{H:Hp}{α:Type}{enc:α->D}{J:List α}{a0:α}{xs:List V}(rs:Reps K G Z H (J.map enc) xs){i:Nat}(hi:i<J.length):Rep K G Z H (enc (J.getD i a0)) (xs.getD i .non):=by
 obtain⟨v,e,r⟩:=rs.get (i:=i) (d:=enc J[i]) (by rw[zy,zd hi];rfl)
 rw[zR,zR,e,zd hi];exact r
theorem Wi{K:Qq5}{G:QqE}{Z:QqA}{H:Hp}{α:Type}{enc:α->D}{J:List α}{a0:α}{xs:List V}(rs:Reps K G Z H (J.map enc) xs):∀{ls:List Nat},(∀i∈ls,i<J.length)->Reps K G Z H ((ls.map λi=>J.getD i a0).map enc) (ls.map λi=>xs.getD i .non)
 |[],_=>.nil
 |i::ls,Y=>.cons (rs.getD (Y i (xj ..))) (Wi rs λj hj=>Y j (zk _ hj))
def Jo{α:Type}(a0:α)(J:List α):(List.range J.length).map (λi=>J.getD i a0)=J:=by
 apply List.ext_getElem
 ·simp
 ·intro i h1 h2;simp[zR,h2]
def UY(hK:X.K=A.K):vV A (zP4 X) xl3:=by
 rintro os n rho sg H ds vs es ws k Q I rs ⟨W,f,rfl,hl,hf,ac,q⟩ hQ;obtain⟨v,rfl,r⟩:=qz rs;obtain⟨a,xs,rfl,sq,rr⟩:=r.lst_inv
 have len:xs.length=W.length:=by rw[rr.length,zf]
 have mem:∀i,i<W.length->W.getD i Xu∈W:=λi hi=>by
  rw[zR,zd hi];exact wZ hi
 have aa:∀i j,i<W.length->j<W.length->i≠j->(W.getD i Xu).name≠(W.getD j Xu).name:=λi j hi hj Y e=>by
  have g:∀i (hi:i<W.length),(W.map SRow.name)[i]'(by simpa using hi)=(W.getD i Xu).name:=λi hi=>by
   rw[List.getElem_map,zR,zd hi];rfl
  have f:=xV.mp ac
  rcases Nat.lt_or_gt_of_ne Y with l |l
  ·exact f i j (by simpa using hi) (by simpa using hj) l (by rw[g i hi,g j hj,e])
  ·exact f j i (by simpa using hj) (by simpa using hi) l (by rw[g i hi,g j hj,e])
 have num:∀i,i<W.length->(W.getD i Xu).key.num=f:=λi hi=>hf _ (mem i hi);rw[<- hK] at rr
 refine⟨a,xs,f,λi j=>(W.getD i Xu).lt (W.getD j Xu),rfl,by rw[hK];exact sq.sq,q5,λi j hi hj Y=>SRow.lt_anti (by rw[num i q5,num j q5]) (aa i j q5 q5 Y),λi j l _ _ _ h1 h2=>SRow.lt_trans h1 h2,λi hi=>?_,λi j hi hj Y=>?_,λls hp hU l hl'=>?_⟩
 ·intro pins s σ u J ru
  obtain⟨p,rest,R⟩:=Vs J (rr.getD (enc:=SRow.d) (a0:=Xu) q5) ru
  obtain⟨z,t,_⟩:=R.tup;have ty:=zd6 J R
  rw[num i q5] at ty
  exact⟨p,_,t,ty⟩
 ·intro pins s σ u v J ru rv B hB
  obtain⟨p,ps,R⟩:=Vs J (rr.getD (enc:=SRow.d) (a0:=Xu) q5) ru
  obtain⟨p',ps',R'⟩:=Vs J (rr.getD (enc:=SRow.d) (a0:=Xu) q5) rv
  have c:=zq5 J (by rw[num i q5,num j q5]) (aa i j q5 q5 Y) R R' hB
  rw[num i q5] at c
  exact c
 ·rw [len] at hp hU
  have ad:∀i∈ls.toList,i<W.length:=λi hi=>by
   have:=(hp.mem_iff).mp (Array.mem_toList_iff.mp hi)
   rwa [Array.mem_range] at this
  have hsz:ls.size=W.length:=by rw[hp.size_eq,yb]
  rw[hK] at rr;refine hQ _ _ _ ⟨os,I.newLst (Wi (a0:=Xu) rr ad) hl'⟩ (q _ ?_ ?_)
  ·have p1 : ls.toList.Perm (List.range W.length) := by
    have:=wg.mp hp
    rwa [vD] at this
   have p2:=p1.map λi=>W.getD i Xu
   rwa [Jo] at p2
  ·rw [xF, xV];intro i j hi hj Y
   have hi':i<ls.size:=by simpa using hi
   have hj':j<ls.size:=by simpa using hj
   have u:=hU i j Y q5
   have g:∀i (hi:i<ls.size),Srt.lab ls i=ls.toList[i]'(by simpa using hi):=λi hi=>by
    refine Srt.qe ?_
    rw[<- zL,zd (by simpa using hi)]
   rw[g i hi',g j hj'] at u;exact u
def zi1(hc:X.calm=true):qy X (.builtin "sum") (λxs H Q=>∃(p:Addr) (ns:Qq4),xs=[.ref p]/\SqL X.K H p (ns.map V.int)/\Q (.int ns.sum) H):=by
 intro pins s σ H xs us Q I r h;obtain⟨p,ns,rfl,hq,q⟩:=h;obtain⟨u,rfl,hu⟩:=YI r;have e:u=.ref p:=hu;subst e;obtain⟨its,rv,pl,_⟩:=I.list hq;have hi:=qf rv;obtain⟨ys,J⟩:=hi.allInts.items;have W:=pl.isList;rw[J] at W;refine sum_intListG (I.ok.hd hc) W λh' tk t' hk=>?_;refine⟨.int ns.sum,H,I.kept hk,⟨t',?_⟩,q⟩
 rw[preSum_eq,xZ (by simp)]
 have Y:=nums_intItems ys;rw[<- J] at Y;rw[<- Y];show Value.int (numsOf its.toArray.toList).sum t'=_;rw[show its.toArray.toList=its from rfl,hi.numsOf]
noncomputable def xO9:List D->(D->Prop)->Prop:=λes k=>∃ns:List Int,es=[.lst (ns.map D.int)]/\k (.int ns.sum)
def zS6{A:AC}:vV A (λxs H Q=>∃(p:Addr) (ns:Qq4),xs=[.ref p]/\SqL A.K H p (ns.map V.int)/\Q (.int ns.sum) H) xO9:=by
 rintro os n rho sg H ds vs es ws k Q I rs ⟨ns,rfl,q⟩ W;obtain⟨v,rfl,r⟩:=qz rs;obtain⟨a,xs,rfl,sq,J⟩:=r.lst_inv;have e:=kJ J;subst e;exact⟨a,ns,rfl,sq.sq,W _ _ _ ⟨os,I.push (Rep.ofS (d:=.int ns.sum) rfl)⟩ q⟩
structure Blt2(mg:QqM):Prop where
 sum:mg "sum" = none
def zS8:bootBuiltins "sum" = some (.builtin "sum"):=w5
section
variable {A:AC}{X:Cx}{a:Expr}{ta:TD}{pos:Pos}
def zv9(d:D)(k:List D->Prop):Prop:=∃fs,(d=.lst fs\/d=.fz fs)/\k fs
@[simp] theorem xx6{k}:zv9 (.lst fs) k↔k fs:=⟨fun⟨_,e,h⟩=>by rcases e with e |e<;>cases e;exact h,λh=>⟨_,.inl rfl,h⟩⟩
def xI8(ta:TD)(tl th:TOD):TD:=λrho n P=>ta rho n λd Y=>tl rho Y λlo W=>th rho W λhi J=>zv9 d λfs=>P (.lst (Ki fs lo hi)) J
@[simp] theorem xG3{ta tl th rho n P}:xI8 ta tl th rho n P=ta rho n λd Y=>tl rho Y λlo W=>th rho W λhi J=>zv9 d λfs=>P (.lst (Ki fs lo hi)) J:=rfl
def zf0(hK:X.K=A.K)(ha:PD A X a ta)(hl:POD A X le tl)(hh:POD A X he th):PD A X (.Subscript a (.Slice le he none p2) pos) (xI8 ta tl th):=by
 exists (ze7 zU1 ha hl hh).imp λsg H Q h=>by
   obtain⟨rho,n,P,ds,vs,I,ht,Y⟩:=h;refine⟨rho,n,_,ds,vs,I,ht,λv H1 n1 d J1 h1=>⟨rho,n1,_,_,_,J1,h1,λlo H2 n2 J2 h2=>⟨rho,n2,_,_,_,J2,h2,λhi H3 W ⟨os,J3⟩ h3=>?_⟩⟩⟩;obtain⟨fs,hd,k⟩:=h3;obtain⟨J4,r⟩:=J3.pop;rw[hK]
   rcases hd with rfl |rfl
   ·obtain⟨l,xs,rfl,sq,rs⟩:=r.lst_inv;exact⟨l,xs,rfl,sq.sq,λp J=>Y _ _ W _ ⟨os,J4.newLst (Uo rs lo hi) J⟩ k⟩
   ·obtain⟨l,xs,rfl,sq,rs⟩:=r.fz_inv;exact⟨l,xs,rfl,sq,λp J=>Y _ _ W _ ⟨os,J4.newLst (Uo rs lo hi) J⟩ k⟩
def zz8(i:Nat):TD:=λrho n P=>∃es,rho[i]?=some (some (.own es))/\okE (.lst es) 20=true/\P (.bl (!Xl es [])) n
@[simp] theorem xr7{i rho n P}:zz8 i rho n P=∃es,rho[i]?=some (some (.own es))/\okE (.lst es) 20=true/\P (.bl (!Xl es [])) n:=rfl
def zp0{i:Nat}(hK:X.K=A.K)(h:tOf A (zz8 i) sg H Q):tOp (xE4 X) (xD2 i) (tOf A (xC4 xs7)) sg H Q:=by
 obtain⟨rho,n,P,ds,vs,⟨os,I⟩,⟨es,hi,ok,q⟩,hQ⟩:=h;obtain⟨a,xs,e1,hH,rs,_⟩:=I.own (es':=es) (xs':=[]) hi;refine⟨.ref a,e1,rho,n,λd n1=>d=.lst []/\n1=n,ds,vs,⟨os,I⟩,⟨wq _,rfl,rfl⟩,λv2 H2 n2 d2 ⟨W,J⟩ k=>?_⟩;obtain⟨rfl,rfl⟩:=k;obtain⟨J1,r2⟩:=J.pop;obtain⟨a',xs',e2,hH',rs',_⟩:=J1.own (es':=es) (xs':=[]) hi;rw[e1] at e2;cases e2;have no:∀b,H2 b≠none->False->Zof A W b:=λ_ _ z=>z.elim
 have rA:Rep X.K A.G (λ_=>False) H2 (.lst es) (.ref a):=by
  rw[hK];exact .lst_mk ⟨λz=>z,hH'⟩ (Reps.mono no (λ_ _ _ e=>e) _ _ rs')
 have rB:Rep X.K A.G (λ_=>False) H2 (.lst []) v2:=by
  rw[hK];exact Rep.mono no (λ_ _ _ e=>e) _ _ r2
 have Y:okE (.lst []) 20=true:=by unfold okE;rfl
 refine⟨eqD (.lst es) (.lst []),λpins s σ v u J rx ry B hu=>zy9 J 20 _ _ _ _ v u B ok Y rA rB rx ry q5,?_⟩
 have aa:eqD (.lst es) (.lst [])=Xl es []:=by unfold eqD;rfl
 rw[aa];exact hQ _ H2 _ _ ⟨W,J1.push (Rep.ofS (d:=.bl (!Xl es [])) rfl)⟩ q
def zr5{i:Nat}{n:Nat}(Y:Room n X.A)(hK:X.K=A.K)(hN:X.N[i]?=some x:=by rfl)(W:Vis X.env.scope x:=by first |exact Or.inl rfl |exact Or.inr (Or.inl rfl) |exact Or.inr (Or.inr rfl))(hd:(x == ("__debug__" : Str))=false:=by decide)
  (J:(x == ("__classdict__" : Str))=false:=by decide):PTD A X (.Compare (.Name x px) [.NotEq] [.List [] p2] pos) (zm7 (zz8 i)):=by exists (zr6 (xj3 Y) (jH hN W hd J) (kr (A:=A) zi) (yE _)).imp λ_ _ _=>Ub λ_ _ _=>zp0 hK
end
section
variable {X:Cx}{pins:QqL}{σ:St}{H:Hp}{s:Qq1}{G:QqE}{Z:QqA}
end
def zC7(X:Cx)(H:Hp)(y:V)(p:PyData):Prop:=∀pins s σ v,Inv X pins σ H s->RelV y v->∃a as,v=.ref a/\Reads s.heap (.ref a) p as
end L2
namespace L2
section
variable {X:Cx}{A:AC}
end
end L2
namespace L2.Srt
open PySem PyProof.Rows
section
variable {prog:Qq3}{w:Qqa}{A:Around}{E:QqV}{s:Qq1}
def za8{l:Addr}{vs:QqW}{Q:List Value->Shared->Prop}(J:IsTup s.heap l vs.toArray)
    (h:Q vs { s with heap:=(s.heap.push (seqObj "list" #[] 0)).update s.heap.objs.size (Obj.mapSeq (·++vs.toArray)) }) (hsz:vs.length<=sizeLine) :
    wpAny (model prog w) A (collect (.ref l)) Q E s:=by
  obtain⟨o,ho,W,n,hd⟩:=id J;unfold collect;refine zb (wpAny_runValue (codeAny_builtin entry_proto_collect' ?_))
  show wpAny _ _ (do again (.builtin "list.__iadd__" ⟨[<- newList [],.ref l],[]⟩)) _ _ s
  refine zb (wpAny_newList (ze ⟨Code.quiet_builtin _ w5,codeAny_builtin entry_list_iadd' ?_⟩))
  show wpAny _ _ (Builtin.List.listExtendWith (.ref s.heap.objs.size) (.ref l) (.ref s.heap.objs.size)) _ _ { s with heap:=s.heap.push (seqObj "list" #[] 0) };unfold Builtin.List.listExtendWith;have ho':(s.heap.push (seqObj "list" #[] 0)).get? l=some o:=zg _ ho;refine zb (wpAny_typeOf (T := "tuple") ⟨o,ho',W⟩ ?_)
  have ht:(Value.type "tuple" == Value.type "tuple")=true:=by rfl
  rw[if_pos (by rw[ht];simp)]
  refine zb (listItems_at ho' hd ?_);refine zb (listItems_at (xs:=#[]) (n:=0) (zr _ rfl) rfl ?_)
  rw[if_neg (by simp)]
  refine zb (listUpdate_at (xs:=#[]) (n:=0) (zr _ rfl) rfl ?_ (wq _) (by show(#[]++vs.toArray).size<=sizeLine+1;simp only[Array.size_append,zt,length_nil];lia))
  refine ze ?_
  show wpAny (model prog w) A (do
      let o <- load s.heap.objs.size
      match o.data with
      |.seq xs _=>pure xs.toList
      |_=>unsupported "internal:collect") Q E { s with heap:=(s.heap.push (seqObj "list" #[] 0)).update s.heap.objs.size (Obj.mapSeq (·++vs.toArray)) }
  refine zb (wpAny_load (get?_update_seq (zr _ rfl) _) ?_);show wpAny _ _ (pure ((#[]:Qq8)++vs.toArray).toList) Q E _
  rw[show((#[]:Qq8)++vs.toArray).toList=vs by simp]
  exact ze h
end
end L2.Srt
namespace L2
section
variable {X:Cx}{A:AC}{pos:Pos}{e:Expr}{t1:TAD}
end
section
variable {K:Qq5}{G G':QqE}{Z:QqA}{H:Hp}
end
section
variable {A:AC}{X:Cx}{e:Expr}{es:Qq9}{t1:TAD}{t2:TSD}{pos p:Pos}
end
def zM2(ks:List Key)(k:Key):Bool:=ks.any λj=>decide (j=k)
def Uu(ks:List Key)(k:Key):List Key:=if zM2 ks k=true then ks else ks++[k]
noncomputable def zr4{α:Type}(ks:List Key)(xs:List α)(k:Key)(x:α):List α:=if zM2 ks k=true then List.zipWith (λj y=>if j=k then x else y) ks xs else xs++[x]
theorem zw7:∀(ks:List Key) (xs:List V) (k:Key),ks.length=xs.length->((XG ks xs).any λJ=>decide (J.1=k))=zM2 ks k
 |[],xs,k,_=>rfl
 |j::ks,[],k,h=>by simp at h
 |j::ks,x::xs,k,h=>by
  have W:=zw7 ks xs k (by simpa using h)
  show(decide (j=k)||(XG ks xs).any _)=(decide (j=k)||zM2 ks k);rw[W]
theorem zw6:∀(ks:List Key) (xs:List V) (k:Key) (v:V),(XG ks xs).map (λJ=>if J.1=k then(J.1,v) else J)=XG ks (List.zipWith (λj y=>if j=k then v else y) ks xs)
 |[],xs,k,v=>by simp[XG]
 |j::ks,[],k,v=>by simp[XG]
 |j::ks,x::xs,k,v=>by
  have W:=zw6 ks xs k v
  show(if j=k then(j,v) else(j,x))::(XG ks xs).map _=(j,if j=k then v else x)::XG ks _
  rw[W]
  by_cases e:j=k<;>simp[e]
def zL1(k:Key)(v:V)(h:ks.length=xs.length):XG ks xs++[(k,v)]=XG (ks++[k]) (xs++[v]):=by
 unfold XG;rw[List.zipWith_append h];rfl
def zZ4(k:Key)(v:V)(h:ks.length=xs.length):zn7 (XG ks xs) k v=XG (Uu ks k) (zr4 ks xs k v):=by
 unfold zn7 Uu zr4;rw[zw7 ks xs k h]
 by_cases e:zM2 ks k=true
 ·rw[if_pos e,if_pos e,if_pos e,zw6]
 ·rw[if_neg e,if_neg e,if_neg e,zL1 k v h]
def QF{α:Type}{ks:List Key}{xs:List α}(k:Key)(x:α)(h:ks.length=xs.length):(Uu ks k).length=(zr4 ks xs k x).length:=by
 unfold Uu zr4
 split
 ·rw[wJ,<- h];lia
 ·simp[h]
def xh1{α:Type}{ks:List Key}{xs:List α}(k:Key)(x:α)(h:ks.length=xs.length):(Uu ks k).length<=ks.length+1:=by
 unfold Uu
 split<;>simp
section
variable {K:Qq5}{G:QqE}{Z:QqA}{H:Hp}
theorem Reps.zipPut(r:Rep K G Z H d v)(k:Key):∀{ks:List Key}{es:List D}{xs:List V},Reps K G Z H es xs->Reps K G Z H (List.zipWith (λj y=>if j=k then d else y) ks es) (List.zipWith (λj y=>if j=k then v else y) ks xs)
 |[],es,xs,h=>.nil
 |j::ks,[],xs,h=>by rw[h.nil_inv];exact .nil
 |j::ks,e::es,xs,h=>by
  obtain⟨x,W,rfl,q,t⟩:=h.split;have J:=Reps.zipPut r k (ks:=ks) t
  show Reps K G Z H ((if j=k then d else e)::_) ((if j=k then v else x)::_)
  by_cases z:j=k
  ·rw[if_pos z,if_pos z];exact .cons r J
  ·rw[if_neg z,if_neg z];exact .cons q J
def Reps.put(h:Reps K G Z H es xs)(r:Rep K G Z H d v)(k:Key):Reps K G Z H (zr4 ks es k d) (zr4 ks xs k v):=by
 unfold zr4
 split
 ·exact Reps.zipPut r k h
 ·exact h.append (.cons r .nil)
end
noncomputable def keyOf:D->Option Key
 |.int i=>some (Sum.inl i)
 |.str x=>some (Sum.inr x)
 |_=>none
@[simp] theorem xl2{i:Int}:keyOf (.int i)=some (Sum.inl i):=rfl
@[simp] theorem xl1:keyOf (.str i)=some (Sum.inr i):=rfl
def WD{K:Qq5}{G:QqE}{Z:QqA}{H:Hp}{d:D}{v:V}{k:Key}(h:Rep K G Z H d v)(e:keyOf d=some k):v=kV k:=by
 cases d with
 |int i=>cases e;exact h.int_inv
 |str i=>cases e;exact h.toS rfl
 |_=>simp[keyOf] at e
section
variable {A:AC}{X:Cx}{tg iter kx vx:Expr}{ifs:Qq9}{scope:Scope}{own M:Qq2}{pos:Pos}{it:TID}{g:TGD}{tt:TBD}{tk tv:TD}
def zz5(own:Nat)(g:TGD)(tt:TBD)(tk tv:TD)(rho:Rho)(P:D->Nat->Prop)(items:List D)(n1:Nat):Prop:=items.length<=sizeLine/\∃J:Nat->List Key->List D->Nat->Prop,J 0 [] [] n1 /\
 (∀i d ks es n,items[i]?=some d->J i ks es n->g d (replicate own none++rho) λrho'=>rho'.drop own=rho/\tt rho' n λc W=>if c=true then tk rho' W λdk n3=>tv rho' n3 λdv Y=>∃k,keyOf dk=some k/\J (i+1) (Uu ks k) (zr4 ks es k dv) Y else J (i+1) ks es W) /\
 ∀ks es n,J items.length ks es n->P (.dct ks es) n
def zA0(it:TID)(own:Nat)(g:TGD)(tt:TBD)(tk tv:TD):TD:=λrho n P=>it rho n (zz5 own g tt tk tv rho P)
@[simp] theorem xs0{it own g tt tk tv rho n P}:zA0 it own g tt tk tv rho n P=it rho n (zz5 own g tt tk tv rho P):=rfl
def AmO.newDct{os n rho sg H ds vs}(I:AmO A os n rho sg H ds vs)(r:Reps A.K A.G (Zof A os) H es xs)(W:H p=none):AmO A os n rho sg (upd H p (.dK (XG ks xs))) (.dct ks es::ds) (.ref p::vs):=by
 have J:∀a u,H a=some u->upd H p (.dK (XG ks xs)) a=some u:=λa u e=>by
  rw[ww λz=>by rw[z,W] at e;cases e];exact e
 refine⟨I.len,λi d e=>?_,?_,I.nd,λq Y=>?_,λa e=>?_,I.gz,λa u h e=>J a u (I.fr a u h e),I.z0⟩
 ·obtain⟨v,e1,e2⟩:=I.slot i d e;exact⟨v,e1,SlotR.mono (λ_ _ z=>z) (λa u _ e=>J a u e) (λa xs m q=>⟨m,J a _ q⟩) _ _ e2⟩
 ·refine .cons ?_ (Reps.mono (λ_ _ z=>z) (λa u _ e=>J a u e) _ _ I.pend);unfold Rep;refine⟨p,xs,rfl,⟨λz=>?_,yx⟩,Reps.mono (λ_ _ z=>z) (λa u _ e=>J a u e) _ _ r⟩;exact absurd W (I.zH p z)
 ·obtain⟨f1,f2,f3⟩:=I.fresh q Y;exact⟨f1,f2,f3.of λu e=>J _ _ e⟩
 ·obtain⟨x,y,z,q,r⟩:=I.st a e;exact⟨x,y,z,J _ _ q,r⟩
def zp1{m:Nat}(h:tOf A (zA0 it m g tt tk tv) sg H Q):zO5 (iOf A it) m (gOf A m g) (zj3 A tt) (tOf A tk) (tOf A tv) sg H Q:=by
 obtain⟨rho,n,P,ds,vs,I,ht,hQ⟩:=h;refine⟨rho,n,_,ds,vs,I,ht,λJ H' n' items es ws I1 hl hJ k=>?_⟩;obtain⟨hsz,W,w0,turn,fin⟩:=k
 refine⟨λi mm acc H=>mm=items.length-i/\i<=items.length/\∃ks Y xs n,acc=XG ks xs/\ks.length=xs.length/\ks.length<=i/\xs.length=Y.length/\Am A n rho sg H (es++(Y++ds)) (ws++(xs++vs))/\W i ks Y n,
  ⟨items.length,rfl,wq _,[],[],[],n',rfl,rfl,zj _,rfl,I1,w0⟩,?_⟩
 rintro i mm acc H3 ⟨rfl,hi,ks,Y,xs,n3,rfl,ac,av,ad,⟨os,I3⟩,w3⟩
 have ar:(XG ks xs).length=ks.length:=by unfold XG;rw[wJ];lia
 obtain⟨j1,j2⟩:=hJ n3 rho sg H3 (Y++ds) (xs++vs) i ⟨os,I3⟩
 by_cases aa:i<items.length
 ·refine .inr ⟨(j1 items[i] (by simp [aa])).1, by lia, λx H4 y => ?_⟩
  obtain⟨aq,I4⟩:=(j1 items[i] (by simp[aa])).2 x H4 y
  refine⟨replicate m none++rho,n3,_,items[i],es++(Y++ds),ws++(xs++vs),⟨_,I4.front m⟩,turn i items[i] ks Y n3 (by simp[aa]) w3,λrho' sg' ⟨ah,I5⟩ e5 k5=>?_⟩
  obtain⟨k5,k6⟩:=k5
  have e6:sg'.drop m=sg:=by rw[e5,va (by simp)]
  refine⟨e6,rho',n3,_,es++(Y++ds),ws++(xs++vs),⟨ah,I5⟩,k6,λc H6 n6 ⟨ag,I6⟩ k7=>?_⟩
  cases c with
  |false=>
   obtain⟨af,I7⟩:=I6.back k5 e6
   exact⟨items.length-(i+1),q5,rfl,aa,ks,Y,xs,n6,rfl,ac,q5,ad,⟨af,I7⟩,k7⟩
  |true=>
   rw[if_pos rfl] at k7 ⊢;refine⟨rho',n6,_,es++(Y++ds),ws++(xs++vs),⟨ag,I6⟩,k7,λvk H8 n8 dk I8 k8=>?_⟩;refine⟨rho',n8,_,dk::(es++(Y++ds)),vk::(ws++(xs++vs)),I8,k8,λv H9 n9 d ⟨ap,I9⟩ k9=>?_⟩;obtain⟨kk,ek,w9⟩:=k9;obtain⟨ae,ao⟩:=I9.back k5 e6;obtain⟨am,rv⟩:=ao.pop;obtain⟨ak,rk⟩:=am.pop;obtain⟨aj,r1⟩:=ak.split hl;obtain⟨ai,r2⟩:=aj.split ad
   refine⟨kk,items.length-(i+1),WD rk ek,q5,rfl,aa,Uu ks kk,zr4 ks Y kk d,zr4 ks xs kk v,n9,zZ4 kk v ac,QF kk v ac,?_,?_,⟨ae,(ai.join (r2.put rv kk)).join r1⟩,w9⟩
   ·have:=xh1 kk v ac;lia
   ·rw[<- QF kk v ac,<- QF kk d q5]
 ·have e : i = items.length := by lia
  subst e
  refine .inl ⟨j2 (zj _),q5,λD hD=>?_⟩
  obtain⟨I4,r1⟩:=I3.split hl;obtain⟨I5,r2⟩:=I4.split ad;exact hQ _ _ n3 _ ⟨os,I5.newDct r2 hD⟩ (fin ks Y n3 w3)
def zI2(ok:CompOk X scope M)(Y:X.calm=true)(hi:PID A X tg iter it)(W:∀C J H2 fp,PGD A (yP X scope own M C J H2 fp) own.length tg g)(ht:∀C J H2 fp,PTs (yP X scope own M C J H2 fp) ifs (zj3 A tt))
  (hk:∀C J H2 fp,PD A (yP X scope own M C J H2 fp) kx tk) (he:∀C J H2 fp,PD A (yP X scope own M C J H2 fp) vx tv) (hs:∀x,foldedSetIterable iter X.env x=pure x:=by intro _;rfl):PD A X (.DictComp kx vx [⟨tg,iter,ifs,0⟩] scope pos) (zA0 it own.length g tt tk tv):=by exists (zI0 ok Y hi W ht hk he hs).imp λ_ _ _=>zp1
end
noncomputable def atK:List Key->List D->Key->Option D
 |k::ks,d::ds,x=>if k=x then some d else atK ks ds x
 |_,_,_=>none
def zb6{K:Qq5}{G:QqE}{Z:QqA}{H:Hp}:∀{ks:List Key}{ds:List D}{xs:List V}{x:Key},Reps K G Z H ds xs ->
  (∀d,atK ks ds x=some d->∃v,Xq (XG ks xs) x=some v/\Rep K G Z H d v)/\(atK ks ds x=none->Xq (XG ks xs) x=none)
 |[],ds,xs,x,r=>⟨λd h=>by simp[atK] at h,λ_=>rfl⟩
 |k::ks,[],xs,x,r=>by rw[r.nil_inv];exact⟨λd h=>by simp[atK] at h,λ_=>rfl⟩
 | k :: ks, e :: ds, xs, x, r => by
  obtain⟨v,rs,rfl,q,t⟩:=r.split;obtain⟨i1,i2⟩:=zb6 (ks:=ks) (x:=x) t;unfold atK
  by_cases c:k=x
  ·rw [if_pos c]
   exact⟨λd h=>by cases h;exact⟨v,XN (p:=(k,v)) c,q⟩,λh=>by cases h⟩
  ·rw[if_neg c];have J:Xq (XG (k::ks) (v::rs)) x=Xq (XG ks rs) x:=XO (p:=(k,v)) c;rw[J];exact⟨i1,i2⟩
section
variable {A:AC}{X:Cx}{a b:Expr}{ta tb:TD}{pos:Pos}
def rDx:R2:=λx y H Q=>∃a v,x=.ref a/\DGet H a y (some v)/\Q v H
def xp9:RD2:=λd1 d2 k=>∃ks ds x d,d1=.dct ks ds/\keyOf d2=some x/\atK ks ds x=some d/\k d
@[simp] theorem zr3{ks ds x k}:xp9 (.dct ks ds) (.int x) k↔∃d,atK ks ds (Sum.inl x)=some d/\k d:=⟨fun⟨_,_,_,d,e,e',h⟩=>by cases e;cases e';exact⟨d,h⟩,fun⟨d,h⟩=>⟨_,_,_,d,rfl,rfl,h⟩⟩
def xu6:jb A rDx xp9:=by
 rintro os n rho sg H ds vs d1 d2 v1 v2 k Q I ⟨ks,es,x,d,rfl,hk,hx,q⟩ hQ;obtain⟨I1,W⟩:=I.pop;obtain⟨I2,J⟩:=I1.pop;have e2:=WD W hk;subst e2;unfold Rep at J;obtain⟨a,xs,rfl,⟨hz,hH⟩,rs⟩:=J;obtain⟨v,Y,rv⟩:=(zb6 rs).1 d hx
 exact⟨a,v,rfl,by rw[<- Y];exact DGet.k hH,hQ _ _ _ ⟨os,I2.push rv⟩ q⟩
def zt1(hu:X.A.units+1<cLine)(ha:PD A X a ta)(J:PD A X b tb)(hs:xp2 b):PD A X (.Subscript a b pos) (dOp xp9 ta tb):=by exists (zW3 hu ha J hs).imp λ_ _ _=>Kn (r:=rDx) xu6
def xE5(J:Bool):R2:=λy x H Q=>∃a o,x=.ref a/\DGet H a y o/\Q (.bl (o.isSome != J)) H
def zt6(hu:X.A.units+1<cLine):OpR X (compareOp .NotIn) (xE5 true):=by
 intro pins s σ H x y v u Q I W J h;obtain⟨a,o,rfl,g,q⟩:=h;cases(show u=Value.ref a from J)
 exact xb7 hu I g W λs' I'=>⟨.bl (o.isSome != true),H,I',by simp;rfl,q⟩
def xg2(J:Bool):RD2:=λd1 d2 k=>∃ks ds x,d2=.dct ks ds/\keyOf d1=some x/\k (.bl ((atK ks ds x).isSome != J))
@[simp] theorem xq4{J ks ds x k}:xg2 J (.int x) (.dct ks ds) k↔k (.bl ((atK ks ds (Sum.inl x)).isSome != J)):=⟨fun⟨_,_,_,e,e',h⟩=>by cases e;cases e';exact h,λh=>⟨_,_,_,rfl,rfl,h⟩⟩
def xf8{J:Bool}:jb A (xE5 J) (xg2 J):=by
 rintro os n rho sg H ds vs d1 d2 v1 v2 k Q I ⟨ks,es,x,rfl,hk,q⟩ hQ;obtain⟨I1,W⟩:=I.pop;obtain⟨I2,Y⟩:=I1.pop;have e2:=WD Y hk;subst e2;unfold Rep at W;obtain⟨a,xs,rfl,⟨hz,hH⟩,rs⟩:=W;obtain⟨g1,g2⟩:=zb6 (ks:=ks) (x:=x) rs;refine⟨a,Xq (XG ks xs) x,rfl,DGet.k hH,?_⟩
 have e3:(Xq (XG ks xs) x).isSome=(atK ks es x).isSome:=by
  cases e:atK ks es x with
  |none=>rw[g2 e];rfl
  |some d=>obtain⟨v,hv,_⟩:=g1 d e;rw[hv];rfl
 rw[e3];exact hQ _ _ _ ⟨os,I2.push (Rep.ofS (d:=.bl _) rfl)⟩ q
end
section
variable {X:Cx}{A:AC}
def xs3:D->Bool
 |.tup _=>true
 |.lst _=>true
 |_=>false
def zn1{n:Nat}(J:Room n X.A):qy X (.builtin "repr") (λxs H Q=>∃(y:V) (p:PyData),xs=[y]/\zC7 X H y p/\p.showable=true/\p.hasDict=false/\p.depth<=20/\p.shown.length<=sizeLine/\Q (.str p.shown) H):=by
 intro pins s σ H xs us Q I r h;obtain⟨y,p,rfl,W,h1,h2,h3,h4,q⟩:=h;obtain⟨u,rfl,hu⟩:=YI r;obtain⟨a,as,rfl,rd⟩:=W pins s σ u I hu;have:=J.un
 exact repr_of_reads' rd h1 (PyData.noDict_hsm h2) J.gd q5 (λ_ _ e=>e) (λh' u Y k=>⟨.str p.shown,H,I.kept k,⟨_,rfl⟩,q⟩) h4
structure Blt3(mg:QqM):Prop where
 repr:mg "repr" = none
 dict:mg "dict" = none
def zB8:bootBuiltins "repr" = some (.builtin "repr"):=w5
end
section
variable {A:AC}{X:Cx}{a b c:Expr}{ta tb tc:TD}{pos:Pos}
end
def zf7(rho:Rho):Bool:=rho.all λo=>match o with
 |some d=>wj d
 |none=>true
def zu8{i:Nat}(h:zf7 rho=true)(e:rho[i]?=some (some d)):wj d=true:=by
 have:=yJ.mp h _ (zV e);exact this
def xf1(i j:Nat)(tb:TD):TSD:=λF rho n=>i<rho.length/\j<rho.length/\zf7 rho=true/\tb rho n λd J=>F.nx ((rho.set i (some (.own []))).set j (some d)) J
@[simp] theorem xw1{i j tb F rho n}:xf1 i j tb F rho n=(i<rho.length/\j<rho.length/\zf7 rho=true/\tb rho n λd J=>F.nx ((rho.set i (some (.own []))).set j (some d)) J):=rfl
section
variable {A:AC}{X:Cx}{b:Expr}{tb:TD}{pos:Pos}
def AmO.still{os n rho sg H ds vs}(I:AmO A os n rho sg H ds vs)(ho:zf7 rho=true)(Y:∀a o,H a=some o->H1 a=some o)(hz:∀a,H a≠none->Z a->Zof A os a)(J:∀a,Z a->Hot (H1 a))(hg:∀a,A.G=some a->Z a) :
  AmO ⟨A.K,A.G,Z,H1⟩ [] n rho sg H1 [] []:=by
 have hz':∀a,H a≠none->Zof ⟨A.K,A.G,Z,H1⟩ [] a->Zof A os a:=λa h z=>by
  rcases z with z |⟨p,W,_⟩
  ·exact hz a h z
  ·simp at W
 refine⟨I.len,λi d e=>?_,.nil,.nil,λp W=>by simp at W,λa e=>?_,hg,λa o _ e=>e,⟨J,λP q t=>⟨Y P _ (I.zO.2 P q t).1,(I.zO.2 P q t).2⟩⟩⟩
 ·obtain ⟨v, e1, e2⟩ := I.slot i d e;have hd:=zu8 ho e;have r:=Rep.mono (K:=A.K) (G:=A.G) hz' (λa o _ e=>Y a o e) _ _ (e2.rep hd);refine⟨v,e1,?_⟩
  cases d<;>first |exact r |(simp[wj] at hd;done)
 ·obtain⟨zs,u1,u2,q,r⟩:=I.st a e;exact⟨zs,u1,u2,Y a _ q,r⟩
def AmO.setOwnX{os:List (Nat × Addr)}{n:Nat}{rho:Rho}{sg:St}{H:Hp}{ds es:List D}{vs xs:List V}{i:Nat}{p:Addr}(I:AmO A os n rho sg H ds vs)(hi:i<rho.length)(W:H p=none)(r:Reps A.K A.G (Zof A os) H es xs) :
  AmO A ((i,p)::os.filter λq=>decide (q.1≠i)) n (rho.set i (some (.own es))) (sg.set i (some (.ref p))) (upd H p (.lst xs)) ds vs:=by
 have Y:∀a u,H a=some u->upd H p (.lst xs) a=some u:=λa u e=>by rw[ww (yC e W)];exact e
 have zz:∀a,H a≠none->Zof A ((i,p)::os.filter λq=>decide (q.1≠i)) a->Zof A os a:=λa ha z=>by
  rcases z with z |⟨q,J,e⟩
  ·exact .inl z
  ·rcases zn.mp J with rfl | J
   ·exact absurd (by rw[<- e];exact W) ha
   ·exact .inr ⟨q,(zB.mp J).1,e⟩
 have h0:A.H0 p=none:=by
  cases q:A.H0 p with
  |none=>rfl
  |some o=>
   by_cases e:A.G=some p
   ·obtain⟨x,y,z,w,_⟩:=I.st p e;rw[w] at W;cases W
   ·have:=I.fr p o e q;rw[this] at W;cases W
 refine⟨by simp[I.len],λj c e=>?_,Reps.mono zz (λa u _ e=>Y a u e) _ _ I.pend,?_,λq J=>?_,λa e=>?_,I.gz,λa u h e=>Y a u (I.fr a u h e),I.z0⟩
 ·by_cases hj : j = i
  ·subst hj;rw[xg hi] at e;cases e
   exact⟨.ref p,xg (by rw[<- I.len];exact hi),p,xs,rfl,xj,yx,Reps.mono zz (λa u _ e=>Y a u e) _ _ r⟩
  ·rw [xq (Ne.symm hj)] at e;obtain⟨u,e1,e2⟩:=I.slot j c e
   exact⟨u,by rw[xq (Ne.symm hj)];exact e1,SlotR.mono zz (λa u _ e=>Y a u e) (λa ys m q=>⟨zk _ (zB.mpr ⟨m,by simpa using hj⟩),Y a _ q⟩) _ _ e2⟩
 ·refine wB.mpr ⟨λq J => ?_, I.nd.filter _⟩;obtain⟨m1,m2⟩:=zB.mp J
  refine⟨λz=>by simp[<- z] at m2,λz=>(I.fresh q m1).2.2.ne ?_⟩
  have z':p=q.2:=z;rw[<- z'];exact W
 ·rcases zn.mp J with rfl | J
  ·exact⟨h0,λz=>(I.z0.1 p z).ne h0,by show Hot (upd H p _ p);rw[yx];exact Hot.lst⟩
  ·obtain⟨f1,f2,f3⟩:=I.fresh q (zB.mp J).1;exact⟨f1,f2,f3.of λu w=>Y _ _ w⟩
 ·obtain⟨x,y,z,q,rr⟩:=I.st a e;exact⟨x,y,z,Y _ _ q,rr⟩
def zH2{i j:Nat}{kt k2 Y}(hc:X.calm=true)(hN:X.N.Nodup)(hi:X.N[i]?=some x)(hj:X.N[j]?=some y)(ae:i≠j)
  (hx:X.env.scope.names.lookup x=some .local) (hy:X.env.scope.names.lookup y=some .local) (hb:∀(Z:QqA) (H0:Hp),PD ⟨A.K,A.G,Z,H0⟩ X b tb)
  (hk:X.env.blockKind=.function:=by rfl) (hl:py.line=px.line:=by rfl) (aa:x≠y:=by decide) (W:qp b=false:=by rfl) (hf:[Expr.List [] pl,b].all (foldedForSure 8)=false:=by decide +kernel) (af:[Expr.List [] pl,b].all (constantsAlone 8)=false:=by decide +kernel) :
  PSD A X (.Assign [.Tuple [.Name x px,.Name y py] kt pt] (.Tuple [.List [] pl,b] k2 Y) pos) (xf1 i j tb):=by
 exists (by
   have hb':PE X b (λsg H Q=>∃Z H0,tOf ⟨A.K,A.G,Z,H0⟩ tb sg H Q):=λpins s sg H Q I q=>by
    obtain⟨Z,H0,q⟩:=q;exact hb Z H0 pins s sg H Q I q
   refine(zP8 hc hN hi hj ae hx hy (jv (ze8 Xx) (jv hb' Xx (sE W)) (sE rfl)) (zd2 hk hx hy hl aa rfl W hf af) rfl).imp λE sg H h=>?_;obtain⟨rho,n,F,ds,vs,⟨os,I⟩,⟨ad,ac,ho,ht⟩,ok⟩:=h;refine⟨wq _,λp hp=>?_⟩;have I1:=I.setOwnX (es:=[]) (xs:=[]) ad hp .nil
   have hH:∀a o,H a=some o->upd H p (.lst []) a=some o:=λa o e=>by rw[ww (yC e hp)];exact e
   refine⟨λa=>Zof A os a\/a=p,upd H p (.lst []),rho,n,_,[],[],⟨[],I.still ho hH (λa h z=>?_) (λa z=>?_) (λa e=>.inl (.inl (I.gz a e)))⟩,ht,λv H2 n2 d ⟨ag,J⟩ k=>?_⟩
   ·rcases z with z | rfl
    ·exact z
    ·exact absurd hp h
   ·rcases z with z | rfl
    ·exact(I.zHot a z).of λo e=>hH a o e
    ·rw[yx];exact Hot.lst
   ·obtain ⟨J1, r⟩ := J.pop;have C:=I1.called (n':=n2) (H':=H2) (λa o g e=>J1.fr a o g e) J1.st
    refine⟨_,_,rfl,ok.nx _ _ _ _ ⟨_,(C.push (d:=d) (v:=v) ?_).set (by simpa using ac)⟩ k⟩
    refine Rep.mono (K:=A.K) (G:=A.G) (λa h z=>?_) (λa o _ e=>e) _ _ r
    rcases z with z |⟨q,hq,e⟩
    ·exact .inl (.inl (.inl z))
    ·rcases zn.mp hq with rfl | hq
     ·exact .inl (.inr e.symm)
     ·exact .inl (.inl (.inr ⟨q,(zB.mp hq).1,e⟩)))
end
end L2
namespace L2
open PySem PySem.Spec PyProof.Rows PySem.SeqAt
section
variable {A:AC}{X:Cx}{a b c e:Expr}{ta tb tc te:TD}{pos:Pos}
def xE0(K:Qq5):R2:=λx y H Q=>∃p q xs,x=.ref p/\y=.ref q/\SqT K H p xs/\SqT K H q []/\Q (.bl xs.isEmpty) H
def xi7{n:Nat}(hr:Room n X.A):OpR X (compareOp .Eq) (xE0 X.K):=by
 intro pins s σ H x y v u Q I Y W h;obtain⟨p,q,xs,rfl,rfl,sq,sq',k⟩:=h;cases Y;cases W;obtain⟨its,rv,pl,hz⟩:=I.tuple sq;obtain⟨its',rv',pl',hz'⟩:=I.tuple sq';cases rv';have hu:=hr.units
 have R:=RcAt.tuples (A:=X.A) (e:=λ_=>true) (show s.heap.IsTuple p its.toArray from pl) (show s.heap.IsTuple q #[] from pl') q5 (λj l1 l2=>absurd l2 (by simp))
 have ev:((List.range (min its.toArray.size (#[]:Qq8).size)).all (λ_=>true)&&its.toArray.size == (#[]:Qq8).size)=xs.isEmpty:=by
  have J:=rv.length
  cases xs with
  |nil=>cases its with
   |nil=>rfl
   |cons _ _=>simp at J
  |cons _ _=>cases its with
   |nil=>simp at J
   |cons _ _=>simp
 exact(rcC R ev) X.prog X.w X.xe _ ⟨.bl xs.isEmpty,H,I,rfl,k⟩
def xg0:RD2:=λd1 d2 k=>zo7 d1 λes=>d2=.tup []/\k (.bl es.isEmpty)
@[simp] theorem xw4{d1 d2 k}:xg0 d1 d2 k=zo7 d1 λes=>d2=.tup []/\k (.bl es.isEmpty):=rfl
def xf6:jb A (xE0 A.K) xg0:=by
 rintro os n rho sg H ds vs d1 d2 v1 v2 k Q I ⟨es,rfl,rfl,q⟩ hQ;obtain⟨I1,J⟩:=I.pop;obtain⟨I2,W⟩:=I1.pop;obtain⟨a,xs,rfl,sq,rs⟩:=W.tup_inv;obtain⟨b,ys,rfl,sq',rs'⟩:=J.tup_inv;have e:=rs'.nil_inv;subst e;have Y:=rs.length
 have ee:xs.isEmpty=es.isEmpty:=by cases xs<;>cases es<;>first |rfl |(simp at Y;done)
 exact⟨a,b,xs,rfl,rfl,sq.sq,sq'.sq,by rw[ee];exact hQ _ H _ ⟨os,I2.push (Rep.ofS rfl)⟩ q⟩
end
mutual
def ke:D->PyData
 |.bl b=>.bool b
 |.int i=>.int i
 |.str x=>.str x
 |.tup ds=>.tuple (kw ds)
 |.lst ds=>.list (kw ds)
 |_=>.none
def kw:List D->List PyData
 |[]=>[]
 |d::ds=>ke d::kw ds
end
mutual
def okR:D->Nat->Bool
 |.non,_=>true
 |.bl _,_=>true
 |.int i,_=>decide (i.natAbs.log2<1920)
 |.str x,_=>decide ((reprText x).length<=2000)
 |.tup ds,k=>match k with
  |0=>false
  |k+1=>zJ7 ds k
 |.lst ds,k=>match k with
  |0=>false
  |k+1=>zJ7 ds k
 |_,_=>false
def zJ7:List D->Nat->Bool
 |[],_=>true
 |d::ds,k=>okR d k&&zJ7 ds k
end
mutual
def zD3:D->Nat
 |.tup ds=>Va ds+1
 |.lst ds=>Va ds+1
 |_=>1
def Va:List D->Nat
 |[]=>0
 |d::ds=>zD3 d+Va ds
end
def zU3(d:D):Str:=(ke d).shown
theorem Zw:∀{ds:List D}{k:Nat},zJ7 ds k=true↔∀d∈ds,okR d k=true
 |[],k=>by unfold zJ7;simp
 |d::ds,k=>by
  unfold zJ7;rw[zW,Zw];simp
def zY2{k:Nat}:okR (.tup ds) (k+1)=true↔∀d∈ds,okR d k=true:=by
 have e:okR (.tup ds) (k+1)=zJ7 ds k:=by rw[okR]
 rw[e,Zw]
theorem zf6:∀{ds:List D}{b:Nat},(∀d∈ds,zD3 d<=b)->Va ds<=ds.length*b
 |[],b,_=>by unfold Va;simp
 |d::ds,b,h=>by
  unfold Va;have h1:=h d (xj ..);have h2:=zf6 (ds:=ds) λe he=>h e (zk _ he);rw[zP,Nat.add_mul];lia
structure ShownA(d:D)(k:Nat):Prop where
 show1:(ke d).showable=true
 dict:(ke d).hasDict=false
 deep:(ke d).depth<=k
 len:(ke d).shown.length+3<=2005*zD3 d
structure ShownAs(ds:List D)(k:Nat):Prop where
 show1:PyData.showableAll (kw ds)=true
 dict:PyData.hasDictAll (kw ds)=false
 deep:PyData.depthAll (kw ds)<=k
 len:((PyData.shownAll (kw ds)).map (·.length)).sum+2*(PyData.shownAll (kw ds)).length<=2005*Va ds
mutual
theorem Ku:∀(d:D) (k:Nat),okR d k=true->ShownA d k
 |.non,k,h=>⟨by unfold ke PyData.showable;rfl,by unfold ke PyData.hasDict;rfl,by unfold ke PyData.depth;lia,by unfold ke PyData.shown zD3;decide +kernel⟩
 |.bl b,k,h=>⟨by unfold ke PyData.showable;rfl,by unfold ke PyData.hasDict;rfl,by unfold ke PyData.depth;lia,by unfold ke PyData.shown zD3;cases b<;>decide +kernel⟩
 |.int i,k,h=>by
  have h':i.natAbs.log2<1920:=of_decide_eq_true (by unfold okR at h;exact h)
  refine⟨by unfold ke PyData.showable;exact xI h',by unfold ke PyData.hasDict;rfl,by unfold ke PyData.depth;lia,?_⟩
  have e:=int_text_length_le (k:=1920) q9 h'
  unfold ke PyData.shown zD3;rw[PySem.ofString_length];lia
 |.str x,k,h=>by
  have h':(reprText x).length<=2000:=of_decide_eq_true (by unfold okR at h;exact h)
  refine⟨by unfold ke PyData.showable;rfl,by unfold ke PyData.hasDict;rfl,by unfold ke PyData.depth;lia,?_⟩
  unfold ke PyData.shown zD3;lia
 |.tup ds,0,h=>by simp[okR] at h
 |.tup ds,k+1,h=>by
  have S:=YN ds k (by simpa [okR] using h)
  have L:=tupleText_len_le (PyData.shownAll (kw ds))
  refine⟨by unfold ke PyData.showable;exact S.show1,by unfold ke PyData.hasDict;exact S.dict,by unfold ke PyData.depth;have:=S.deep;lia,?_⟩
  unfold ke PyData.shown zD3;have:=S.len;lia
 |.lst ds,0,h=>by simp[okR] at h
 |.lst ds,k+1,h=>by
  have S:=YN ds k (by simpa [okR] using h)
  have L:=listText_len_le (PyData.shownAll (kw ds))
  refine⟨by unfold ke PyData.showable;exact S.show1,by unfold ke PyData.hasDict;exact S.dict,by unfold ke PyData.depth;have:=S.deep;lia,?_⟩
  unfold ke PyData.shown zD3;have:=S.len;lia
 |.ty _,k,h=>by simp[okR] at h
 |.fz _,k,h=>by simp[okR] at h
 |.st,k,h=>by simp[okR] at h
 |.own _,k,h=>by simp[okR] at h
 |.owT _ _,k,h=>by simp[okR] at h
 |.prT _,k,h=>by simp[okR] at h
 |.dic,k,h=>by simp[okR] at h
 |.dct _ _,k,h=>by simp[okR] at h
theorem YN:∀(ds:List D) (k:Nat),zJ7 ds k=true->ShownAs ds k
 |[],k,_=>⟨by unfold kw PyData.showableAll;rfl,by unfold kw PyData.hasDictAll;rfl,by unfold kw PyData.depthAll;lia,by unfold kw PyData.shownAll Va;simp⟩
 |d::ds,k,h=>by
  have h':=Zw.mp h;have S:=Ku d k (h' d xj);have T:=YN ds k (Zw.mpr λe he=>h' e (zk _ he))
  refine⟨by unfold kw PyData.showableAll;rw[S.show1,T.show1];rfl,by unfold kw PyData.hasDictAll;rw[S.dict,T.dict];rfl,by unfold kw PyData.depthAll;have:=S.deep;have:=T.deep;lia,?_⟩
  unfold kw PyData.shownAll Va;have:=S.len;have:=T.len;simp only[zN,sum_cons,zP];lia
end
section
variable {X:Cx}{pins:QqL}{σ:St}{H:Hp}{s:Qq1}{G:QqE}{Z:QqA}
mutual
theorem KL(I:Inv X pins σ H s):∀(d:D) (k:Nat) (v:V) (u:Value),okR d k=true->Rep X.K G Z H d v->RelV v u->∃as,Reads s.heap u (ke d) as
 |.non,k,v,u,_,r,q=>by
  have e:v=.non:=r.toS rfl;subst e;cases q;unfold ke;exact⟨_,.none⟩
 |.bl b,k,v,u,_,r,q=>by
  have e:v=.bl b:=r.toS rfl;subst e;cases q;unfold ke;exact⟨_,.bool b⟩
 |.int i,k,v,u,_,r,q=>by
  have e:=r.int_inv;subst e;obtain⟨t,rfl⟩:=q;unfold ke;exact⟨_,.int i t⟩
 |.str x,k,v,u,_,r,q=>by
  have e:v=.str x:=r.toS rfl;subst e;obtain⟨t,rfl⟩:=q;unfold ke;exact⟨_,.str x t⟩
 |.tup ds,0,v,u,h,_,_=>by simp[okR] at h
 |.tup ds,k+1,v,u,h,r,q=>by
  obtain⟨a,xs,rfl,sq,rs⟩:=r.tup_inv;have e:u=.ref a:=q;subst e;obtain⟨its,rv,⟨o,ho,W,n,hd⟩,_⟩:=I.tuple sq.sq
  obtain⟨as,J⟩:=YX I ds k xs its (by simpa [okR] using h) rs rv
  unfold ke
  exact⟨as,.tuple ho W hd (by simpa using J)⟩
 |.lst ds,0,v,u,h,_,_=>by simp[okR] at h
 |.lst ds,k+1,v,u,h,r,q=>by
  obtain⟨a,xs,rfl,sq,rs⟩:=r.lst_inv;have e:u=.ref a:=q;subst e;obtain⟨its,rv,pl,_⟩:=I.list sq.sq;obtain⟨o,ho,W,n,hd⟩:=pl.isList
  obtain⟨as,J⟩:=YX I ds k xs its (by simpa [okR] using h) rs rv
  unfold ke
  exact⟨_,.list ho W hd (by simpa using J)⟩
 |.ty _,k,v,u,h,_,_=>by simp[okR] at h
 |.fz _,k,v,u,h,_,_=>by simp[okR] at h
 |.st,k,v,u,h,_,_=>by simp[okR] at h
 |.own _,k,v,u,h,_,_=>by simp[okR] at h
 |.owT _ _,k,v,u,h,_,_=>by simp[okR] at h
 |.prT _,k,v,u,h,_,_=>by simp[okR] at h
 |.dic,k,v,u,h,_,_=>by simp[okR] at h
 |.dct _ _,k,v,u,h,_,_=>by simp[okR] at h
theorem YX(I:Inv X pins σ H s):∀(ds:List D) (k:Nat) (vs:List V) (us:QqW),zJ7 ds k=true->Reps X.K G Z H ds vs->Vals vs us->∃as,ReadsAll s.heap us (kw ds) as
 |[],k,vs,us,_,r,q=>by
  have e:=r.nil_inv;subst e;cases q;unfold kw;exact⟨_,.nil⟩
 | d :: ds, k, vs, us, h, r, q => by
  have h':=Zw.mp h;obtain⟨v,xs,rfl,r1,Y⟩:=r.split
  cases q with
  |cons q1 q2=>
   obtain⟨as,W⟩:=KL I d k v _ (h' d xj) r1 q1;obtain⟨bs,J⟩:=YX I ds k xs _ (Zw.mpr λe he=>h' e (zk _ he)) Y q2;unfold kw;exact⟨_,.cons W J⟩
end
end
end L2
namespace L2
section
variable {A:AC}{X:Cx}{a1 a2 b1 b2:Expr}{ta:TAD}{tb1 tb2:TD}{pos:Pos}
end
end L2
namespace PySem
open PySem.Sem (wp)
namespace F
end F
section
variable {prog:Qq3}{w:Qqa}{K:Type} [DecidableEq K] {knd:KeyKind prog w K}{A:Around}{R:Result->Shared->Prop}
end
section
variable {prog:Qq3}{w:Qqa}{K:Type} [DecidableEq K] {knd:KeyKind prog w K}{A:Around}{E:QqV}{s:Qq1}
end
end PySem
namespace L2
section
variable {X:Cx}{A:AC}
end
end L2
namespace L2
open PySem PySem.Spec PyProof.Rows PySem.SeqAt
section
variable {A:AC}{X:Cx}
def zW4:PE X (.Dict [] [] pos) (λ_ H Q=>∀p,H p=none->Q (.ref p) (upd H p (.dK []))):=λpins s σ H Q I h=>
 wpAny_Dict_empty ⟨.ref s.heap.objs.size,_,I.laid (a:=s.heap.objs.size) (o:=.dK []) (t':=s.toks) (λ_ _ q=>zg _ q) (zj _) (xn3 s.heap (xo2 I)),rfl,h _ (I.hok.fresh (zj _))⟩
def zW9:PD A X (.Dict [] [] pos) (dC (.dct [] [])):=by
 exists zW4.imp λsg H Q h=>by
   obtain⟨rho,n,P,ds,vs,⟨os,I⟩,q,W⟩:=h;exact λp J=>W _ _ n _ ⟨os,I.newDct (ks:=[]) (es:=[]) (xs:=[]) .nil J⟩ q
end
end L2
namespace L2
section
variable {A:AC}
end
section
variable {A:AC}{X:Cx}{pos:Pos}{m:Nat}
end
section
variable {A:AC}{X:Cx}
def zn2{n:Nat}(J:Room n X.A):qy X (.builtin "repr") (λxs H Q=>(xs=[.non]/\Q (.str "None") H)\/∃(y:V) (p:PyData),xs=[y]/\zC7 X H y p/\p.showable=true/\p.hasDict=false/\p.depth<=20/\p.shown.length<=sizeLine/\Q (.str p.shown) H):=by
 intro pins s σ H xs us Q I r h
 rcases h with ⟨rfl,q⟩ |h
 ·obtain⟨u,rfl,hu⟩:=YI r;have e:u=.none:=hu;subst e;exact PySem.P.repr_of_none ⟨.str "None",H,I.tok _,⟨_,rfl⟩,q⟩
 ·exact zn1 J pins s σ H xs us Q I r h
def zp9:D->Str
 |.non => "None"
 |d=>zU3 d
def xB3(d:D):Prop:=d=.non\/(xs3 d=true/\okR d 20=true/\zD3 d<=8000)
def zR4:List D->(D->Prop)->Prop:=λes k=>∃d,es=[d]/\xB3 d/\k (.str (zp9 d))
@[simp] theorem xr0{d k}:zR4 [d] k↔(xB3 d/\k (.str (zp9 d))):=⟨fun⟨_,e,h⟩=>by cases e;exact h,λh=>⟨_,rfl,h⟩⟩
def zN6(hK:X.K=A.K):vV A (λxs H Q=>(xs=[.non]/\Q (.str "None") H)\/∃(y:V) (p:PyData),xs=[y]/\zC7 X H y p/\p.showable=true/\p.hasDict=false/\p.depth<=20/\p.shown.length<=sizeLine/\Q (.str p.shown) H) zR4:=by
 rintro os n rho sg H ds vs es ws k Q I rs ⟨d,rfl,h |⟨h1,h2,h3⟩,q⟩ Y
 ·subst h;obtain⟨v,rfl,r⟩:=qz rs;have e:v=.non:=r.toS rfl;subst e;exact .inl ⟨rfl,Y _ H _ ⟨os,I.push (Rep.ofS (d:=.str "None") rfl)⟩ q⟩
 ·obtain ⟨v, rfl, r⟩ := qz rs;have S:=Ku _ _ h2;have:=S.len;rw[<- hK] at r
  have e:zp9 d=zU3 d:=by cases d<;>first |rfl |(simp[xs3] at h1)
  rw[e] at q
  refine .inr ⟨v,_,rfl,λpins s σ u J W=>?_,S.show1,S.dict,S.deep,by rw[sizeLine_eq];lia,Y _ H _ ⟨os,I.push (Rep.ofS (d:=.str (zU3 d)) rfl)⟩ q⟩
  obtain⟨as,rd⟩:=KL J _ _ v u h2 r W
  obtain⟨a,rfl⟩:∃a,v=.ref a:=by
   cases d with
   |tup ds=>obtain⟨a,xs,e,_⟩:=r.tup_inv;exact⟨a,e⟩
   |lst ds=>obtain⟨a,xs,e,_⟩:=r.lst_inv;exact⟨a,e⟩
   |_=>simp[xs3] at h1
  have e:u=.ref a:=W;subst e;exact⟨a,as,rfl,rd⟩
end
def lo(h:(match sc.names.lookup x with |some .local=>true |some .cell=>true |_=>false)=true):Loc sc x:=by
 unfold Loc
 split at h
 ·exact .inl (by assumption)
 ·exact .inr (by assumption)
 ·cases h
end L2
namespace L2
open PySem PySem.Spec PyProof.Rows PySem.SeqAt
section
variable {A:AC}{X:Cx}
end
end L2
namespace L2
structure LamScope(N:Qq2)(p:Str)(scope:Scope)(cl:List (Str × Addr)):Prop where
 kind:scope.kind=.function
 co:scope.isCoroutine=false
 gen:scope.isGenerator=false
 nocell:∀x∈scope.names,x.2≠.cell
 head:N[0]?=some p
 par:scope.names.lookup p=some .local
 free:∀x,scope.names.lookup x=some .free->∃c,cl.lookup x=some c
 rest:∀i x,N[i+1]?=some x->scope.names.lookup x=some .free
def zl9(X:Cx)(A:Around)(N:Qq2)(J:Str)(scope:Scope)(f c':Addr)(cl:List (Str × Addr))(s:Qq1)(H:Hp):Cx where
 prog:=X.prog
 w:=X.w
 K:=X.K
 mg:=X.mg
 base:=X.base
 A:=A.deeper (W.envX J scope s.heap.objs.size f (.ref c') cl)
 N:=N
 s₀:=s
 H₀:=H
 env:=W.envX J scope s.heap.objs.size f (.ref c') cl
 outer:=X.stack
 stack:=W.envX J scope s.heap.objs.size f (.ref c') cl::X.stack
 ex:=[]
 fn:=λ_=>false
 calm:=true
 pn:=[]
 xe:=λ_ _=>False
section
variable {X:Cx}{pins:QqL}{σ:St}{H:Hp}{s:Qq1}{A:Around}{f c':Addr}{qual p:Str}{params:Arguments}{body:Expr}{scope:Scope}{cl:List (Str × Addr)}{pm ctv:Value}{N:Qq2}{v:V}{u:Value}{cv:List V}
def zZ3{tk:Nat}(I:Inv X pins σ H s)(hA:A.frames=some X.stack)(hh:A.handled=none)(S:LamScope N p scope cl)(hN:N.length=cv.length+1)(r:RelV v u)
  (sub:∀x c,cl.lookup x=some c->X.env.cells.lookup x=some c)
  (aa:∀i x y,N[i+1]?=some x->cv[i]?=some y->∃c,cl.lookup x=some c/\∃u,RelV y u/\s.heap.IsCell c (some u))
  (Y:h1.Ns s.heap.objs.size (λy=>[(p,u)].reverse.lookup y)) (hk:∀b o,s.heap.get? b=some o->h1.get? b=some o) :
  Inv (zl9 X A N qual scope f c' cl s H) [] (some v::cv.map some) H { s with heap:=h1,toks:=tk }:=by
 have J:∀b:Addr,b ∉ (zl9 X A N qual scope f c' cl s H).ex:=λb z=>absurd (show b∈([]:Qqc) from z) (by simp)
 refine⟨⟨I.mod,S.kind,rfl,rfl,zj _,λy z c h1 h2=>?_,λy W=>?_,λy c z _=>?_,λ_=>hh,Around.frames_deeper hA,.inr ⟨rfl,rfl⟩,λb z=>absurd z (J b),I.bs,zG I.ok.bsz I.sz,λb _ _=>J b,λb z=>absurd z (J b),I.stack,I.stkFree⟩,
  rfl,I.bare,Un.kept hk,⟨_,Y,λi y z e1 e2 e3=>?_⟩,λy c h=>?_,I.hok.fresh (zj _),λy c h=>I.freeC y c (sub y c h),λp hp=>absurd (show p∈([]:QqL) from hp) (by simp),I.hok.kept hk,?_⟩
 ·exact I.ok.inj y z c (sub y c h1) (sub z c h2)
 ·have W : scope.names.lookup y = some .cell \/ scope.names.lookup y = some .free := W
  rcases W with W |W
  ·exact absurd rfl (S.nocell _ (PySem.mem_of_lookup W))
  ·exact S.free y W
 ·cases(show false=true from z)
 ·cases i with
  |zero=>
   have e4:y=p:=by have:=e1.symm.trans S.head;exact zD this
   subst e4
   have e5:v=z:=by simpa using e2
   subst e5;refine⟨u,r,.inl ⟨S.par,?_⟩⟩;simp
  | succ i =>
   have e4:cv[i]?=some z:=by
    have:(cv.map some)[i]?=some (some z):=by simpa using e2
    rw[zy] at this
    cases q:cv[i]? with
    |none=>rw[q] at this;cases this
    |some a=>rw[q] at this;cases this;rfl
   obtain⟨c,e5,u',r',o,ho,hd⟩:=aa i y z e1 e4;exact⟨u',r',.inr ⟨.inr (S.rest i y e1),c,e5,o,hk _ _ ho,hd⟩⟩
 ·obtain⟨w',o,ho,hd⟩:=I.cell y c (sub y c h);exact⟨w',o,hk _ _ ho,hd⟩
 ·show(some v::cv.map some).length=N.length;rw[zP,zf,hN]
def zZ2(I:Inv X pins σ H s)(hf:s.heap.get? f=some (W.kla_obj "<lambda>" qual params body scope cl pm c' ctv))(ae:s.heap.CodeRec (.ref c') qual)
  (hA:A.frames=some X.stack) (Y:A.depth<recursionLimit) (hh:A.handled=none) (S:LamScope N p scope cl) (hN:N.length=cv.length+1)
  (hb:bindArgs (W.kla_fn "<lambda>" qual params body scope cl pm (.ref c') ctv) ⟨[u],[]⟩=pure [(p,u)]) (r:RelV v u)
  (sub:∀x c,cl.lookup x=some c->X.env.cells.lookup x=some c)
  (af:∀i x y,N[i+1]?=some x->cv[i]?=some y->∃c,cl.lookup x=some c/\∃u,RelV y u/\s.heap.IsCell c (some u))
  (aa:PE (zl9 X A N qual scope f c' cl s H) body t) (ht:t (some v::cv.map some) H Q) :
  wpAny (model X.prog X.w) A (call (.ref f) [u]) (EP X pins σ λv H'=>Q v H'/\∀b o w,H b=some (.frz o w)->H' b=some (.frz o w)) E s:=by
 refine wpAny_call (codeAny_mono (R:=λr s'=>match r with |.ok (.ret u)=>CE X.stack X.prog X.w H s (λv H'=>Q v H'/\∀b o w,H b=some (.frz o w)->H' b=some (.frz o w)) u s' |_=>False) ?_ λr s' hq=>?_)
 ·refine W.kla_callFunE Y hf rfl S.co S.gen rfl ae ?_;rw[hb];refine ze (wpAny_newFunctionEnv S.nocell (λy hy=>?_) (λh1 ad ac=>?_) S.kind)
  ·have : y = (p, u) := by simpa using hy
   rw[this];exact S.par
  ·have hk:∀b o,s.heap.get? b=some o->h1.get? b=some o:=λb o e=>ac.extBut b o (zJ (zw e)) (zg _ e);refine⟨I.nolimit.keeps hk,?_⟩;show codeAny _ _ (.expr body (W.envX qual scope s.heap.objs.size f (.ref c') cl)) _ _;have I2:Inv (zl9 X A N qual scope f c' cl s H) [] (some v::cv.map some) H { s with heap:=h1,toks:=s.toks+[(p,u)].length }:=zZ3 I hA hh S hN r sub af ad hk;refine W.kla_codeExpr (wV (aa [] _ _ H Q I2 ht) (λu' s' h=>?_) λ_ _ z=>z.elim);obtain⟨v',H',J,rv,q⟩:=h;exact⟨v',H',J.os,J.bare,J.base,J.hok,rv,q,J.base.frzs⟩
 ·cases r with
  |error e=>exact False.elim hq
  |ok fl=>
   cases fl with
   |ret u=>exact I.after hq
   |next=>exact False.elim hq
   |brk=>exact False.elim hq
   |cont=>exact False.elim hq
end
noncomputable def Ko(sp:V->Hp->VK->Prop):List V->Hp->(List V->Hp->Prop)->Prop
 |[],H,Q=>Q [] H
 |v::vs,H,Q=>sp v H λk H'=>Ko sp vs H' λks H''=>Q (k::ks) H''
section
variable {X:Cx}{pins:QqL}{σ:St}{H:Hp}{s:Qq1}
def FpOk.reH(h:FpOk X pins H b)(J:H' b=none):FpOk X pins H' b:=⟨J,h.2⟩
def FpOk.more(h:FpOk X pins H b)(W:q.1≠b):FpOk X (q::pins) H b:=
 ⟨h.1,h.2.1,h.2.2.1,h.2.2.2.1,h.2.2.2.2.1,λp J=>by
  rcases xk.mp J with J |J
  ·exact h.2.2.2.2.2 p (xu _ J)
  ·rcases zn.mp J with rfl | J
   ·exact W
   ·exact h.2.2.2.2.2 p (xf _ J)⟩
def KN(ks vs:QqW)(h:ks.length=vs.length):ks.toArray.zip vs.toArray=(Array.range vs.length).map λi=>(ks.getD i .none,vs.getD i .none):=by
 refine Array.ext_getElem? λk=>?_;rw[vE]
 by_cases hk:k<vs.length
 ·have W : (Array.range vs.length)[k]? = some k := by rw [Array.getElem?_range, if_pos hk]
  have hk':k<ks.length:=q5
  rw[W]
  have J:(ks.toArray.zip vs.toArray)[k]?=some (ks[k],vs[k]):=by
   rw[xz (by simp;lia)]
   simp
  rw[J];simp[zR,hk,hk']
 ·rw [wa (by simp; lia), wa (by simp; lia)]
  rfl
def kH(X:Cx)(ys:List V)(Q:VK)(ks:List V)(H:Hp):Prop:=∃(J:Bool) (r:Qq6),ks.length=ys.length /\
 (∀a b,a<ys.length->b<ys.length->a≠b->r a b=!r b a)/\(∀a b c,a<ys.length->b<ys.length->c<ys.length->r a b=true->r b c=true->r a c=true) /\
 (∀a,a<ys.length->xJ4 X H J (ks.getD a .non))/\(∀a b,a<ys.length->b<ys.length->a≠b->xJ6 X H J (ks.getD a .non) (ks.getD b .non) (r a b)) /\
 ∀ls:Array Nat,ls.Perm (Array.range ys.length)->Srt.Up r ls ys.length->∀l,H l=none->Q (.ref l) (upd H l (.lst (ls.toList.map λi=>ys.getD i .non)))
variable {A:Around}{E:QqV}{a kS:Addr}{vs:QqW}{ys ks:List V}{kA:Qq8}{e e1:Nat}{Q:VK}
def zL3{st:SortSt}{ls:Qq7}(I:Inv X pins σ H s)(hk:s.heap.get? kS=some (seqObj "list" kA e))(ha:s.heap.get? a=some (seqObj "list" #[] e1))(fk:FpOk X pins H kS)(fa:FpOk X pins H a)(ad:kS≠a)(aa:X.s₀.heap.objs.size<=a)(hz:kA.size<=64)
  (rv:Vals ys vs) (ae:ys.length<64) (h1:arrOf st=ls.map λi=>(kA.toList.getD i .none,vs.getD i .none)) (h2:failedOf st=none) (h3:ls.Perm (Array.range ys.length)) (q:Q (.ref a) (upd H a (.lst (ls.toList.map λi=>ys.getD i .non)))) :
  wpAny (model X.prog X.w) A (ksk_tail a false e1 (.ref kS) st) (λr s'=>r=.done (.ret .none)/\∃H4,Inv X pins σ H4 s'/\Q (.ref a) H4) E s:=by
 have len:=rv.length
 have hsz:ls.size=ys.length:=by rw[h3.size_eq,yb]
 have ac:∀i∈ls.toList,i<ys.length:=λi hi=>by
  have:=(h3.mem_iff).mp (Array.mem_toList_iff.mp hi)
  rwa [Array.mem_range] at this
 have s1:=Heap.SameBut.update s.heap kS (Obj.mapSeq λ_=>(#[]:Qq8));have W:(s.heap.update kS (Obj.mapSeq λ_=>(#[]:Qq8))).get? a=some (seqObj "list" #[] e1):=(s1.2 a ad.symm).trans ha
 have ea:(arrOf st).map (·.2)=ls.map λi=>vs.getD i .none:=by rw[h1,Array.map_map];rfl
 have es:((arrOf st).map (·.2)).size<=64:=by rw[ea,zQ,hsz];lia
 unfold ksk_tail;dsimp only
 refine zb (listUpdate_at hk rfl ?_ (by rw[sizeLine_eq];lia) (wq _))
 refine zb (yQ ?_);refine zb (seqEpoch_at W rfl ?_);simp only[zT,if_false]
 refine zb (listUpdate_at W rfl ?_ (wq _) (zG es (by rw[sizeLine_eq];lia)))
 rw[h2];simp only[bne_self_eq_false,zT,if_false];rw[ea];have s2:=Heap.SameBut.update (s.heap.update kS (Obj.mapSeq λ_=>(#[]:Qq8))) a (Obj.mapSeq λ_=>ls.map λi=>vs.getD i .none)
 obtain⟨c2,hc2⟩:∃c2,((s.heap.update kS (Obj.mapSeq λ_=>(#[]:Qq8))).update a (Obj.mapSeq λ_=>ls.map λi=>vs.getD i .none)).get? a=some (seqObj "list" (ls.map λi=>vs.getD i .none) c2):=
  ⟨_,get?_update_seq W λ_=>ls.map λi=>vs.getD i .none⟩
 refine ze ⟨rfl,_,?_,q⟩
 have J:=I.turnedL (t':=s.toks) (h':=(s.heap.update kS (Obj.mapSeq λ_=>(#[]:Qq8))).update a (Obj.mapSeq λ_=>ls.map λi=>vs.getD i .none)) (ch:=[kS,a]) (λb o Y z=>by
  have n1:b≠kS:=λz=>Y (by simp[z])
  have n2:b≠a:=λz=>Y (by simp[z])
  exact(s2.2 b n2).trans ((s1.2 b n1).trans z)) (λb Y=>by
  rcases zn.mp Y with rfl |Y
  ·exact fk
  ·rw[zE.mp Y];exact fa)
 refine J.track fa.1 aa fa.2.1 fa.2.2.2.2.1 fa.2.2.2.2.2 ⟨?_,(ls.toList.map λi=>vs.getD i .none),c2,XY rv ac,?_⟩
 ·rw [zf, zm, hsz]
  exact zG (wb ae) q9
 ·have ee : (ls.toList.map λi => vs.getD i .none).toArray = ls.map λi => vs.getD i .none := by rw [<- Array.toList_map, vc]
  rw[ee];exact hc2
def zZ6(I:Inv X pins σ H s)(hk:s.heap.get? kS=some (seqObj "list" kA e))(ha:s.heap.get? a=some (seqObj "list" #[] e1))(fk:FpOk X pins H kS)(fa:FpOk X pins H a)(ae:kS≠a)(ad:X.s₀.heap.objs.size<=a)
  (rv:Vals ys vs) (ag:ys.length<64) (rk:Vals ks kA.toList) (un:A.units+60<cLine) (fin:kH X ys Q ks H) :
  wpAny (model X.prog X.w) A (ksk_end a false vs.toArray e1 (.ref kS) kA) (λr s'=>r=.done (.ret .none)/\∃H4,Inv X pins σ H4 s'/\Q (.ref a) H4) E s:=by
 classical
 obtain⟨f,rr,ai,tot,tr,aa,cmp,q⟩:=fin;have len:=rv.length;have ah:=rk.length
 have hz:kA.size<=64:=by rw[<- zm];lia
 have W:kA.zip vs.toArray=(Array.range vs.length).map λi=>(kA.toList.getD i .none,vs.getD i .none):=by
  have:=KN kA.toList vs q5
  rwa [vc] at this
 have J:∀(t:SortSt) (ls:Qq7),arrOf t=ls.map (λi=>(kA.toList.getD i .none,vs.getD i .none))->failedOf t=none->ls.Perm (Array.range vs.length)->Srt.Up rr ls vs.length ->
   wpAny (model X.prog X.w) A (ksk_tail a false e1 (.ref kS) t) (λr s'=>r=.done (.ret .none)/\∃H4,Inv X pins σ H4 s'/\Q (.ref a) H4) E s:=λt ls a1 a2 a3 a4=>by
  rw[<- len] at a3 a4;exact zL3 I hk ha fk fa ae ad hz rv ag a1 a2 a3 (q ls a3 a4 a fa.1)
 unfold ksk_end;dsimp only;simp only[zT,if_false]
 by_cases c:vs.toArray.size<2
 ·rw [if_pos c, if_pos c];refine zb (ze ?_);rw[StateT.run_pure];refine zb (ze (J _ (Array.range vs.length) W rfl (Array.Perm.refl _) λi j aj hj=>?_))
  have:vs.length<2:=by simpa using c
  lia
 ·rw [if_neg c, if_neg c]
  have c2:2<=vs.length:=by simpa using c
  have ac:∀v∈kA.toList,∃i,i<ys.length/\v=kA.toList.getD i .none:=λv Y=>by
   obtain⟨i,hi,e⟩:=List.getElem_of_mem Y
   exact⟨i,q5,by rw[zR,zd hi,e];rfl⟩
  have each:∀v∈kA.toList,∃p rest,Srt.Tup s.heap v p rest/\s.TypeIs p (if f then "int" else "tuple"):=λv Y=>by
   obtain⟨i,hi,rfl⟩:=ac v Y
   exact aa i hi pins _ σ _ I (rk.getD q5)
  have ek:kA=kA.toList.toArray:=by rw[vc]
  have kind:∀(E:QqV) (Q:SortKind->Shared->Prop),Q (tuples' f) s->wpAny (model X.prog X.w) A (keyKind' kA) Q E s:=λE Q q=>by
   rw[ek]
   refine Srt.WC (s:=s) (T:=if f then "int" else "tuple") (fst:=λv=>if h:∃p rest,Srt.Tup s.heap v p rest/\s.TypeIs p (if f then "int" else "tuple") then h.choose else v) q5 (λv Y=>?_) (λv Y=>?_) ?_
   ·have e := each v Y;obtain⟨rest,t,_⟩:=e.choose_spec
    exact⟨rest,by rw[dif_pos e];exact t⟩
   ·have e := each v Y;obtain⟨rest,_,t⟩:=e.choose_spec
    show Shared.TypeIs _ (if h:_ then _ else _) _
    rw[dif_pos e];exact t
   ·cases f
    ·exact q
    ·exact q
  refine zb (kind _ _ ?_)
  have hR:Srt.Rule X.prog X.w A s vs.length (λi=>(kA.toList.getD i .none,vs.getD i .none)) (tuples' f) rr:=by
   refine⟨λa b ha hb=>tot a b q5 q5,λa b c ha hb hc=>tr a b c q5 q5 q5,λa b ha hb af E Q q=>?_⟩
   obtain⟨p1,ps,p2,qs,t1,t2,L⟩:=cmp a b q5 q5 af pins _ σ _ _ I (rk.getD q5) (rk.getD q5) A un
   exact Srt.Jx t1 t2 L q
  have N0:Srt.Now vs.length (λi=>(kA.toList.getD i .none,vs.getD i .none)) (tuples' f) (Array.range vs.length) (SortSt.mk' (tuples' f) (kA.zip vs.toArray) #[] 7 none):=⟨W,rfl,rfl,rfl,Array.Perm.refl _⟩;refine zb (wV (Srt.xp0 hR N0 c2 (Q:=λ_ t=>∃ls:Array Nat,arrOf t=ls.map (λi=>(kA.toList.getD i .none,vs.getD i .none))/\failedOf t=none/\ls.Perm (Array.range vs.length)/\Srt.Up rr ls vs.length) λls t a1 a2 a3 a4=>⟨ls,a1,a2,a3,a4⟩) ?_ λ_ _ e=>e);rintro⟨_,t⟩ s' ⟨rfl,ls,a1,a2,a3,a4⟩;exact J t ls a1 a2 a3 a4
def zL4{f:Value}{sp:V->Hp->VK->Prop}{Ok:Hp->Prop}(I:Inv X pins σ H s)(hk:s.heap.get? kS=some (seqObj "list" #[] 0))(ha:s.heap.get? a=some (seqObj "list" #[] e1))(fk:FpOk X pins H kS)(fa:FpOk X pins H a)(aa:kS≠a)(af:X.s₀.heap.objs.size<=a)
  (rv:Vals ys vs) (ag:ys.length<64) (un:A.units+60<cLine) (ok:Ok H)
  (turn:∀(pins':QqL) (s':Qq1) (H':Hp) (y:V) (v:Value) (Q:VK),(∀p∈pins,p∈pins')->Inv X pins' σ H' s'->Ok H'->RelV y v->sp y H' Q->wpAny (model X.prog X.w) A (call f [v]) (EP X pins' σ λk H2=>Q k H2/\Ok H2) (λ_ _=>False) s')
  (fin:Ko sp ys H (kH X ys Q)) :
  wpAny (model X.prog X.w) A (ksk_rest a f false vs.toArray e1 (.ref kS)) (λr s'=>r=.done (.ret .none)/\∃H4,Inv X pins σ H4 s'/\Q (.ref a) H4) E s:=by
 have len:=rv.length;have fk':FpOk X ((a,seqObj "list" #[] e1)::pins) H kS:=fk.more (Ne.symm aa)
 have nc:∀(xs:Qq8) (n:Nat) (v:Option Value),(seqObj "list" xs n).data≠.cell v:=λ_ _ _ z=>by cases z
 unfold ksk_rest;refine zb (ym ?_)
 first
  |rw[List.forIn_toArray]
  |(rw[<- Array.forIn_toList];simp only[List.toList_toArray])
  |rw[<- Array.forIn_toList]
 refine zb (ksk_fold (λi s'=>∃H' kA e ks,Inv X ((kS,seqObj "list" kA e)::(a,seqObj "list" #[] e1)::pins) σ H' s'/\Ok H'/\Vals ks kA.toList/\ks.length=i/\Ko sp (ys.drop i) H' λrest Y=>kH X ys Q (ks++rest) Y) vs 0 s
  ⟨H,#[],0,[],(I.pin1 fa ha (nc _ _)).pin1 fk' hk (nc _ _),ok,.nil,rfl,by simpa using fin⟩ ?step ?done)
 case step=>
  rintro j x s' hx ⟨H',kA,e,ks,I',ok',rk,lk,J⟩;simp only[Nat.zero_add] at lk J ⊢;have hj:j<vs.length:=(zu.mp hx).1
  have hj':j<ys.length:=q5
  have ey:ys[j]?=some ys[j]:=zd hj';obtain⟨u,eu,ry⟩:=rv.get ey;have ah:u=x:=zD (eu.symm.trans hx);subst ah;rw[yO hj'] at J
  have ai:kA.size<=64:=by rw[<- zm,<- rk.length];lia
  refine zb (wpAny_attempt (wV (turn _ s' H' ys[j] u _ (λp hp=>zk _ (zk _ hp)) I' ok' ry J) (λv s'' he=>?_) λ_ _ hF=>hF.elim));obtain⟨k,H2,I2,ad,ac,ae⟩:=he
  try dsimp only
  have W:=I2.pinAt (q:=(kS,seqObj "list" kA e)) (.head _);have na:=I2.pinAt (q:=(a,seqObj "list" #[] e1)) (.tail _ (.head _));have s1:=Heap.SameBut.update s''.heap kS (Obj.mapSeq (·.push v));obtain⟨c2,hc2⟩:∃c2,(s''.heap.update kS (Obj.mapSeq (·.push v))).get? kS=some (seqObj "list" (kA.push v) c2):=⟨_,get?_update_seq W.1 (·.push v)⟩
  have ea:(kA.push v).toList=kA.toList++[v]:=by simp
  refine zb (listUpdate_at W.1 rfl ?_ (by rw[sizeLine_eq];lia) (zG (Nat.le_of_eq (Array.size_push ..)) (by rw[sizeLine_eq];lia)))
  have f2:FpOk X ((a,seqObj "list" #[] e1)::pins) H2 kS:=fk'.reH W.2;have I3:=I2.unpin.turned (t':=s''.toks) (h':=s''.heap.update kS (Obj.mapSeq (·.push v))) (it:=kS) (λb o hb z=>(s1.2 b hb).trans z) W.2 f2.2.1 f2.2.2.2.1 f2.2.2.2.2.1 f2.2.2.2.2.2
  refine ze ⟨rfl,H2,kA.push v,c2,ks++[k],I3.pin1 f2 hc2 (nc _ _),ae,by rw[ea];exact rk.append (.cons ad .nil),by rw[zF,lk];rfl,?_⟩
  have e9:(λrest Y=>kH X ys Q (ks++[k]++rest) Y)=λrest Y=>kH X ys Q (ks++k::rest) Y:=by funext rest Y;rw[wn];rfl
  rw[e9];exact ac
 case done=>
  rintro s' ⟨H',kA,e,ks,I',ok',rk,lk,J⟩;rw[Nat.zero_add,<- len,List.drop_length] at J;have J:kH X ys Q (ks++[]) H':=J;rw[wv] at J;have W:=I'.pinAt (q:=(kS,seqObj "list" kA e)) (.head _);have na:=I'.pinAt (q:=(a,seqObj "list" #[] e1)) (.tail _ (.head _))
  try dsimp only
  refine zb (listItems_at W.1 rfl ?_);exact zZ6 I'.unpin.unpin W.1 na.1 (fk.reH W.2) (fa.reH na.2) aa af rv ag rk un J
def zL2{f:Value}{sp:V->Hp->VK->Prop}{Ok:Hp->Prop}{n0:Nat}(I:Inv X pins σ H s)(ha:s.heap.get? a=some (seqObj "list" vs.toArray n0))(fa:FpOk X pins H a)(W:X.s₀.heap.objs.size<=a)
  (rv:Vals ys vs) (aa:ys.length<64) (un:A.units+60<cLine) (ok:Ok H)
  (turn:∀(pins':QqL) (s':Qq1) (H':Hp) (y:V) (v:Value) (Q:VK),(∀p∈pins,p∈pins')->Inv X pins' σ H' s'->Ok H'->RelV y v->sp y H' Q->wpAny (model X.prog X.w) A (call f [v]) (EP X pins' σ λk H2=>Q k H2/\Ok H2) (λ_ _=>False) s')
  (fin:Ko sp ys H (kH X ys Q)) :
  wpAny (model X.prog X.w) A (ksk_tree a f false) (λr s'=>r=.done (.ret .none)/\∃H4,Inv X pins σ H4 s'/\Q (.ref a) H4) E s:=by
 have len:=rv.length;have la:=zw ha;have s1:=Heap.SameBut.update s.heap a (Obj.mapSeq λ_=>(#[]:Qq8));obtain⟨e1,at1⟩:∃e1,(s.heap.update a (Obj.mapSeq λ_=>(#[]:Qq8))).get? a=some (seqObj "list" #[] e1):=⟨_,get?_update_seq ha λ_=>#[]⟩;have I1:=I.turned (t':=s.toks) (h':=s.heap.update a (Obj.mapSeq λ_=>(#[]:Qq8))) (it:=a) (λb o hb z=>(s1.2 b hb).trans z) fa.1 fa.2.1 fa.2.2.2.1 fa.2.2.2.2.1 fa.2.2.2.2.2;have keep:∀b o,(s.heap.update a (Obj.mapSeq λ_=>(#[]:Qq8))).get? b=some o->(((s.heap.update a (Obj.mapSeq λ_=>(#[]:Qq8))).push (seqObj "tuple" vs.toArray 0)).push (seqObj "list" #[] 0)).get? b=some o:=λb o z=>zg _ (zg _ z);have I2:=I1.kept (t':=s.toks) keep
 have Y:((s.heap.update a (Obj.mapSeq λ_=>(#[]:Qq8))).push (seqObj "tuple" vs.toArray 0)).objs.size=s.heap.objs.size+1:=by rw[size_push',Heap.size_update]
 have J:(s.heap.update a (Obj.mapSeq λ_=>(#[]:Qq8))).objs.size<=((s.heap.update a (Obj.mapSeq λ_=>(#[]:Qq8))).push (seqObj "tuple" vs.toArray 0)).objs.size:=by rw[size_push'];lia
 unfold ksk_tree;refine zb (listItems_at ha rfl ?_)
 refine zb (listUpdate_at ha rfl ?_ (by rw[zt,sizeLine_eq];lia) (wq _))
 refine zb (seqEpoch_at at1 rfl ?_)
 refine zb (wpAny_newTuple ?_ (by show vs.length<=_;rw[sizeLine_eq];lia))
 refine zb (wpAny_newList ?_ (wq _));refine xJ ?_
 exact zL4 (s:={ s with heap:=((s.heap.update a (Obj.mapSeq λ_=>(#[]:Qq8))).push (seqObj "tuple" vs.toArray 0)).push (seqObj "list" #[] 0) }) (kS:=((s.heap.update a (Obj.mapSeq λ_=>(#[]:Qq8))).push (seqObj "tuple" vs.toArray 0)).objs.size)
  I2 (zr _ rfl) (keep _ _ at1) (I1.fpOk J (I1.hok.fresh J)) fa (by rw[Y];exact wm (yg la)) W rv aa un ok turn fin
end
def TabG.trip(g:TabG φ l):TriplesOk l:=by
 induction g with
 |nil=>exact True.intro
 |cons _ _ J=>exact J
def TabG.among(g:TabG φ l)(e:codeAmong pos l=some v):∃c,v=.ref c/\φ c:=by
 induction g with
 |nil=>cases e
 |cons h _ J=>
  unfold codeAmong at e
  split at e
  ·cases e;exact⟨_,rfl,h⟩
  ·exact J e
def TabG.snoc(g:TabG φ l){i j:Int}(h:φ c):TabG φ (l++[.int i t,.int j u,.ref c]):=by
 induction g with
 |nil=>exact .cons h .nil
 |cons h' _ J=>exact .cons h' J
structure LamBase(base:Heap)(mg:QqM)(c P:Addr):Prop where
 hd:W.CodeHd base c P
 bm:∃bm ob,mg "__builtins__" = some (.ref bm)/\bm≠builtinsNs/\base.get? bm=some ob/\ob.cls=.type "module" /\ ob.dict=some builtinsNs/\ob.data=.plain
def OneMore(H H2:Hp):Prop:=H2=H\/∃c o,H c=none/\H2=upd H c o
def OneMore.keep(h:OneMore H H2):∀b o,H b=some o->H2 b=some o:=λb o e=>by
 rcases h with rfl |⟨c,u,J,rfl⟩
 ·exact e
 ·rw[ww (yC e J)];exact e
section
variable {X:Cx}{pins:QqL}{σ:St}{H:Hp}{s:Qq1}{c P:Addr}{q p:Str}{params:Arguments}{body:Expr}{scope:Scope}{clos:List (Str × Addr)}{pos lpos:Pos}
def zK9(I:Inv X pins σ H s)(hc:X.env.code=.ref c)(L:LamBase X.base X.mg c P)(hP:H P=some (.cot q))(hq:X.env.qual ++ "<lambda>" = q)
  (ah:closureFor scope X.env=pure clos) (ag:defaultsOf params X.env=([],[]))
  (h:∀(f c':Addr) (Y:Obj) (J:Value) (H2:Hp) (s2:Qq1),OneMore H H2->Inv X ((f,W.kla_obj "<lambda>" q params body scope clos ((X.mg "__name__").getD .none) c' J)::pins) σ H2 s2->H2 c'=some (.frz Y (.own 0))->xp3 Y q->Q (.ref f) s2) :
  wpAny (model X.prog X.w) X.A (eval (.Lambda params body scope lpos) X.env) Q E s:=by
 refine W.kla_eval ag ?_;rw[hq];obtain⟨ps,ho,g⟩:=I.hok P _ hP;obtain⟨bm,ob,b1,b2,b3,b4,b5,b6⟩:=L.bm
 have nb:∀b o,X.base.get? b=some o->b≠P:=λb o e z=>by
  have:=(I.bs b o e).2;rw[z,hP] at this;cases this
 have aj:mainGlobals≠P:=by
  obtain⟨o,es,ep,e,_⟩:=I.mod.glob;exact nb _ _ e
 have am:bm≠mainGlobals:=λz=>by
  obtain⟨o,es,ep,e,hd,_⟩:=I.mod.glob;rw[z,e] at b3;cases b3;rw[hd] at b6;cases b6
 have hB:s.heap.BuiltinsAt X.mg P:=⟨bm,ob,b1,b2,am,nb _ _ b3,I.bk _ _ b3,b4,b5,b6⟩
 have nc:∀(c':Addr) (J:Value) (v:Option Value),(W.kla_obj "<lambda>" q params body scope clos ((X.mg "__name__").getD .none) c' J).data≠.cell v:=λ_ _ _ z=>by cases z
 cases hf:codeAmong lpos ps.toList with
 |some cv=>
  obtain⟨c',rfl,Y,e1,e2⟩:=g.among hf;refine W.kla_makeFunctionHit (mg:=X.mg) ah I.ok.glob (I.mod.glob.keeps I.bk) hc (L.hd.keeps I.bk) ho g.trip hf hB λJ h' tk hk hsz=>?_;have I2:=I.kept (t':=tk) (h':=h'.push (W.kla_obj "<lambda>" q params body scope clos ((X.mg "__name__").getD .none) c' J)) λb o e=>zg _ (hk b o e);exact h _ c' Y J H _ (.inl rfl) (I2.pin1 (I.fpOk hsz (I.hok.fresh hsz)) (zr _ rfl) (nc _ _)) e1 e2
 | none =>
  refine W.kla_makeFunction (mg:=X.mg) ah I.ok.glob (I.mod.glob.keeps I.bk) hc (L.hd.keeps I.bk) ho g.trip hf aj hB λc' J h' tk hx aa af ad ac=>?_;obtain⟨c2,Y,vs,t,ec,ae,hd,hv⟩:=ad;cases ec;have hn:H c'=none:=I.hok.fresh aa;have hsz:s.heap.objs.size<=h'.objs.size:=zG aa (wb af)
  have nP:∀b,H b=none->b≠P:=λb e z=>by rw[z,hP] at e;cases e
  have kp:∀b o,b≠P->s.heap.get? b=some o->(h'.push (W.kla_obj "<lambda>" q params body scope clos ((X.mg "__name__").getD .none) c' J)).get? b=some o:=λb o hb e=>zg _ (hx b o hb e);have cP:c'≠P:=nP c' hn
  have up:∀b u,H b=some u->upd H c' (.frz Y (.own 0)) b=some u:=λb u e=>by rw[ww (yC e hn)];exact e
  have U:Un X.fs [] H (upd H c' (.frz Y (.own 0))) s.heap (h'.push (W.kla_obj "<lambda>" q params body scope clos ((X.mg "__name__").getD .none) c' J)):=by
   refine⟨λb o e n _ _=>kp b o (nP b n) e,λb o e n _ _=>⟨o.slots,kp b o (nP b n) e⟩,λb o e n _=>?_,λb o e _=>?_,λb xs e=>up b _ e,λb o u e=>up b _ e,λb ps e=>⟨#[],by rw[up b _ e];simp⟩⟩
   ·rw[ww (zJ (xi (zw e) aa))];exact n
   ·by_cases hb : b = P
    ·exact⟨_,zg _ (hb ▸ ac)⟩
    ·exact⟨o,kp b o hb e⟩
  have hok:HOk X.prog X.w (upd H c' (.frz Y (.own 0))) (h'.push (W.kla_obj "<lambda>" q params body scope clos ((X.mg "__name__").getD .none) c' J)):=λb u e=>by
   by_cases hb:b=c'
   ·subst hb;rw[yx] at e;cases e;exact⟨zg _ ae,Y,zg _ ae⟩
   ·rw [ww hb] at e
    by_cases ai:b=P
    ·subst ai;rw[hP] at e;cases e;refine⟨_,zg _ ac,?_⟩;rw[xp];exact(g.imp λd ⟨Y,z,i⟩=>⟨Y,up _ _ z,i⟩).snoc ⟨Y,yx,vs,t,hd,hv⟩
    ·refine (I.hok b u e).stay (λd v hd z => kp d v ?_ z) (λd z => up d _ z) (λd xs z => up d _ z) λd o u z => up d _ z
     rcases hd with rfl |hd
     ·exact ai
     ·intro z;rw[z,hP] at hd;cases hd
  have I2:=I.un (t':=tk) U hok
  have ak:upd H c' (.frz Y (.own 0)) h'.objs.size=none:=by rw[ww (wm af)];exact I.hok.fresh hsz
  exact h _ c' Y J _ _ (.inr ⟨c',_,hn,rfl⟩) (I2.pin1 (I.fpOk hsz ak) (zr _ rfl) (nc _ _)) yx ⟨vs,t,hd,hv⟩
def SqL.keep{K:Qq5}{H H2:Hp}{a:Addr}{xs:List V}(h:SqL K H a xs)(k:∀b o,H b=some o->H2 b=some o):SqL K H2 a xs:=by
 rcases h with (h |⟨o,h⟩) |h
 ·exact .inl (.inl (k _ _ h))
 ·exact .inl (.inr ⟨o,k _ _ h⟩)
 ·exact .inr h
structure Caps(X:Cx)(N:Qq2)(clos:List (Str × Addr))(caps:List Nat):Prop where
 len:N.length=caps.length+1
 at_:∀i x,N[i+1]?=some x->X.env.kindOf x=some .cell/\∃j,caps[i]?=some j/\X.N[j]?=some x
 sub:∀x c,clos.lookup x=some c->X.env.cells.lookup x=some c
 has:∀i x,N[i+1]?=some x->∃c,clos.lookup x=some c
def xe3(X:Cx)(P:Addr)(q:Str)(caps:List Nat)(tb:Hp->TE)(t1:TA):TE:=λσ H Q=>t1 σ H λvs H1=>∃(J:Addr) (ys cv:List V),vs=[.ref J]/\SqL X.K H1 J ys/\ys.length<64/\H1 P=some (.cot q) /\
 cv.length=caps.length/\(∀(i j:Nat),caps[i]?=some j->∃y,cv[i]?=some y/\σ[j]?=some (some y))/\∀H2,OneMore H1 H2->Ko (λy H' Q'=>tb H' (some y::cv.map some) H' Q') ys H2 (kH X ys Q)
def zk3{e:Expr}{t1:TA}{tb:Hp->TE}{N:Qq2}{caps:List Nat}{k:Nat}{np kp:Pos}(hg:Gl X "sorted")(hm:X.mg "sorted" = none)(ha:PA X [e] t1)(hr:Room (k+3) X.A)
    (hc:X.env.code=.ref c) (L:LamBase X.base X.mg c P) (hq:X.env.qual ++ "<lambda>" = q) (av:closureFor scope X.env=pure clos) (ag:defaultsOf params X.env=([],[]))
    (S:LamScope N p scope clos) (C:Caps X N clos caps) (hb:∀(u pm ak:Value) (c':Addr),bindArgs (W.kla_fn "<lambda>" q params body scope clos pm (.ref c') ak) ⟨[u],[]⟩=pure [(p,u)])
    (ad:∀(A:Around) (f c':Addr) (s:Qq1) (H:Hp),Room k (A.deeper (W.envX q scope s.heap.objs.size f (.ref c') clos))->PE (zl9 X A N q scope f c' clos s H) body (tb H))
    (he:starEach [e] X.env=(false,eval e X.env)::starEach [] X.env:=by rfl) (ao:(backTo pos (starEach [e] X.env)).any (·.1)=false:=by rfl) :
    PE X (.Call (.Name "sorted" np) [e] [⟨some "key",.Lambda params body scope lpos,kp⟩] pos) (xe3 X P q caps tb t1):=by
  intro pins s σ H Q I h
  refine wpAny_Call_Name_kw (Jw I hg hm jg ?_ q9 q9)
  refine callWith_kw (env:=X.env) (e:=e) (rest:=[]) (thn (ha pos pins s σ H _ I h) λus s1 ⟨vs,H1,I1,r1,q1⟩=>?_) (by rw[he];rfl) ao rfl rfl
  obtain⟨p0,ys,cv,rfl,hS,aw,hP,aq,ai,hk⟩:=q1;refine kws_cons (zK9 I1 hc L hP hq av ag λf c' oc ak H2 J hH I2 ap ah=>kws_nil ?_)
  cases r1 with
  | cons r rr =>
    cases rr;cases r;obtain⟨its,rv,pl,_⟩:=I2.list (hS.keep hH.keep);have hl:=pl.isList;have len:=rv.length;have fin:=hk H2 hH;have Y:Room (k+1) X.A.in1.in1:=hr.in1.in1;show wpAny _ _ (call (.builtin "sorted") [.ref p0] [(Str.ofString "key",.ref f)]) _ _ _;refine call_function_entry_kw kind_sorted plain_sorted entry_sorted (ksk_s1 _ _) ?_;unfold Builtin.«sorted»;refine zb (m:=checkCount "sorted" 1 1 _) (ze ?_)
    refine zb (collect_list hl ?_ (by rw[sizeLine_eq];lia))
    refine zb (wpAny_newList ?_ (by rw[sizeLine_eq];lia))
    have hsz:((J.heap.push (seqObj "list" #[] 0)).update J.heap.objs.size (Obj.mapSeq (·++its.toArray))).objs.size=J.heap.objs.size+1:=by rw[Heap.size_update,size_push']
    have af:(((J.heap.push (seqObj "list" #[] 0)).update J.heap.objs.size (Obj.mapSeq (·++its.toArray))).push (seqObj "list" its.toArray 0)).get? (J.heap.objs.size+1)=some (seqObj "list" its.toArray 0):=by
      rw[<- hsz];exact zr _ rfl
    have keep:∀b o,J.heap.get? b=some o->(((J.heap.push (seqObj "list" #[] 0)).update J.heap.objs.size (Obj.mapSeq (·++its.toArray))).push (seqObj "list" its.toArray 0)).get? b=some o:=λb o q=>by
      have ac:b<J.heap.objs.size:=zw q
      rw[Heap.get?_push_ne _ _ _ (by rw[hsz];exact zJ (yg ac)),Heap.get?_update_ne _ _ _ _ (zJ ac),Heap.get?_push_ne _ _ _ (zJ ac)]
      exact q
    have I3:=I2.kept (t':=J.toks) keep;have fa:=I2.fpOk (H':=H2) (b:=J.heap.objs.size+1) (wt _) (I2.hok.fresh (wt _));show wpAny _ _ _ _ _ { J with heap:=((J.heap.push (seqObj "list" #[] 0)).update J.heap.objs.size (Obj.mapSeq (·++its.toArray))).push (seqObj "list" its.toArray 0) };rw[hsz];refine zb (xJ (wpAny_call_entry_kw slot_list_sort ⟨_,af,rfl⟩ entry_list_sort ?body (ksk_l1 _ _)))
    case body=>
      show wpAny (model X.prog X.w) X.A.in1.in1 (Builtin.«list.sort» ⟨[.ref (J.heap.objs.size+1)],[(Str.ofString "key",.ref f)]⟩) _ _ _;rw[ksk_t1]
      refine wV (zL2 (Ok:=λH'=>H' c'=some (.frz oc (.own 0))) I3 af fa (zG I2.sz (wt _)) rv aw (by have:=Y.un;lia) ap (λpins' s' H' y v Q' ae I' ok' ry ht=>?_) fin) (λr s' hq=>?_) λ_ _ z=>z
      · have ar : s'.heap.CodeRec (.ref c') q := by
          obtain⟨z1,_⟩:=I'.hok c' _ ok';obtain⟨vs,t,d1,d2⟩:=ah;exact⟨c',oc,vs,t,rfl,z1,d1,d2⟩
        refine thn (zZ2 (cv:=cv) I' (I'.pinAt (ae _ (.head _))).1 ar I'.ok.frames Y.depth Y.hd S (by rw[C.len,aq]) (hb _ _ _ _) ry C.sub (λi x y e1 e2=>?_) (ad _ _ _ _ _ (Y.deeper _)) ht) λu s3 hz=>?_
        · obtain ⟨aa, j, e3, e4⟩ := C.at_ i x e1
          obtain⟨y',e5,e6⟩:=ai i j e3;have e7:y'=y:=zD (e5.symm.trans e2);subst e7;obtain⟨cc,e8⟩:=C.has i x e1;obtain⟨m,_,lk⟩:=I'.loc;obtain⟨u',r',l⟩:=lk j x y' e4 e6 (.inr (.inl aa))
          rcases l with ⟨l,_⟩ |⟨_,c3,e9,z⟩
          · rw[aa] at l;cases l
          · have aj := C.sub x cc e8
            rw[e9] at aj;cases aj;exact⟨_,e8,u',r',z⟩
        · obtain ⟨v2, H3, I4, am, q2, fz⟩ := hz
          exact⟨v2,H3,I4,am,q2,fz _ _ _ ok'⟩
      · obtain ⟨rfl, H4, I4, q4⟩ := hq
        exact⟨_,rfl,ze ⟨_,rfl,.ref (J.heap.objs.size+1),H4,I4.unpin,rfl,q4⟩⟩
end
def zS3(caps:List Nat)(tb:TD)(t1:TAD):TD:=λrho n R=>t1 rho n λes W=>∃(J:List D) (keys:List SRow) (fl:Bool) (Y:List D),es=[.lst J]/\J.length<64/\keys.length=J.length/\(∀x∈keys,x.key.num=fl)/\(keys.map SRow.name).Nodup /\
 Y.length=caps.length/\(∀(i j:Nat),caps[i]?=some j->∃d,Y[i]?=some d/\rho[j]?=some (some d)/\wj d=true)/\(∀(i:Nat) (d:D) (x:SRow),J[i]?=some d->keys[i]?=some x->tb (some d::Y.map some) W λe n2=>e=x.d/\n2=W) /\
 ∀ls:List Nat,ls.Perm (List.range J.length)->(ls.map λi=>keys.getD i Xu).Pairwise (λx y=>x.lt y=true)->R (.lst (ls.map λi=>J.getD i .non)) W
section
variable {A:AC}{X:Cx}{os:List (Nat × Addr)}{n:Nat}{rho:Rho}{sg:St}{H:Hp}{ds:List D}{vs:List V}
def JK(I:AmO A os n rho sg H ds vs):∀(caps:List Nat) (J:List D),J.length=caps.length->(∀(i j:Nat),caps[i]?=some j->∃d,J[i]?=some d/\rho[j]?=some (some d)/\wj d=true) ->
  ∃cv:List V,Reps A.K A.G (Zof A os) H J cv/\∀(i j:Nat),caps[i]?=some j->∃y,cv[i]?=some y/\sg[j]?=some (some y)
 |[],[],_,_=>⟨[],.nil,λi j e=>by simp at e⟩
 |[],_::_,h,_=>by simp at h
 |_::_,[],h,_=>by simp at h
 | j :: caps, c :: J, h, W => by
  obtain⟨d,e1,e2,e3⟩:=W 0 j rfl
  have e4:c=d:=by simpa using e1
  subst e4;obtain⟨v,e5,e6⟩:=I.slot j c e2
  obtain⟨cv,r,Y⟩:=JK I caps J (by simpa using h) λi j e=>by
   obtain⟨d,z1,z2⟩:=W (i+1) j (by simpa using e)
   exact⟨d,by simpa using z1,z2⟩
  refine⟨v::cv,.cons (e6.rep e3) r,λi k e=>?_⟩
  cases i with
  |zero=>
   have e7:j=k:=by simpa using e
   subst e7;exact⟨v,rfl,e5⟩
  |succ i=>
   obtain⟨y,z1,z2⟩:=Y i k (by simpa using e)
   exact⟨y,by simpa using z1,z2⟩
def zT8{K:Qq5}{G:QqE}{Z:QqA}{tb:TD}{d:D}{Y:List D}{v:V}{cv:List V}{Q:VK}{P:D->Nat->Prop}(rs:Reps K G Z H (d::Y) (v::cv))(st:zD6 G n H)(gz:∀a,G=some a->Z a)(z0:ZOk K G Z H)
  (ht:tb (some d::Y.map some) n P) (hQ:∀v' H' n' d',(∀a o,G≠some a->H a=some o->H' a=some o)->zD6 G n' H'->Rep K G Z H' d' v'->P d' n'->Q v' H'):tOf ⟨K,G,Z,H⟩ tb (some v::cv.map some) H Q:=by
 have S:=Zm (N:=replicate (d::Y).length "") rs st gz z0
 have e1:startD (replicate (d::Y).length "") (d::Y)=some d::Y.map some:=by unfold startD;simp
 have hl:=rs.length
 have e2:start (replicate (d::Y).length "") (v::cv)=some v::cv.map some:=by unfold start;simp at hl;simp[hl]
 rw[e1,e2] at S;refine⟨_,n,P,[],[],⟨[],S⟩,ht,λv' H' n' d' ⟨aa,J⟩ hp=>hQ v' H' n' d' J.fr J.st (Rep.mono (λa _ z=>.inl z) (λ_ _ _ e=>e) _ _ J.pop.2) hp⟩
def zR0{N2:Nat}{tb:TD}{cs:List D}{cv:List V}{ys:List V}{Q:VK}(hK:X.K=A.K) :
  ∀(J:List D) (xs:List V) (keys:List SRow) (done:List SRow) (W:List V) (H:Hp),keys.length=J.length->AmO A os n rho sg H ds vs->Reps A.K A.G (Zof A os) H J xs->Reps A.K A.G (Zof A os) H cs cv->Reps A.K A.G (Zof A os) H (done.map SRow.d) W ->
   (∀(i:Nat) (d:D) (x:SRow),J[i]?=some d->keys[i]?=some x->tb (some d::cs.map some) n λe n2=>e=x.d/\n2=n) ->
   (∀(kv:List V) (Y:Hp),(∀a o,A.G≠some a->H a=some o->Y a=some o)->AmO A os n rho sg Y ds vs->Reps A.K A.G (Zof A os) Y ((done++keys).map SRow.d) (W++kv)->kH X ys Q (W++kv) Y) ->
   Ko (λy H' Q'=>(∃G Z,tOf ⟨X.K,G,Z,H'⟩ tb (some y::cv.map some) H' Q')) xs H λrest Y=>kH X ys Q (W++rest) Y
 |[],xs,[],done,W,H,_,I,rr,rc,rd,_,fin=>by
  rw[rr.nil_inv];show kH X ys Q (W++[]) H
  exact fin [] H (λ_ _ _ e=>e) I (by simpa using rd)
 |[],xs,_::_,done,W,H,hl,_,_,_,_,_,_=>by simp at hl
 |_::_,xs,[],done,W,H,hl,_,_,_,_,_,_=>by simp at hl
 | d :: J, xs, k :: keys, done, W, H, hl, I, rr, rc, rd, aa, fin => by
  obtain⟨v,xs',rfl,r0,rr'⟩:=rr.split;show ∃G Z,tOf ⟨X.K,G,Z,H⟩ tb (some v::cv.map some) H λkk H'=>Ko _ xs' H' λks H''=>kH X ys Q (W++kk::ks) H'';refine⟨A.G,Zof A os,?_⟩
  suffices z:tOf ⟨A.K,A.G,Zof A os,H⟩ tb (some v::cv.map some) H (λkk H'=>Ko (λy H' Q'=>(∃G Z,tOf ⟨X.K,G,Z,H'⟩ tb (some y::cv.map some) H' Q')) xs' H' λks H''=>kH X ys Q (W++kk::ks) H'') by
   rw[<- hK] at z;exact z
  refine zT8 (.cons r0 rc) I.st (λa z=>.inl (I.gz a z)) I.zO (aa 0 d k rfl rfl) λv' H' n' d' fr st r ⟨e1,e2⟩=>?_;subst e1;have st':zD6 A.G n H':=e2 ▸ st;have I':=I.called fr st';have mono:∀{es:List D}{ws:List V},Reps A.K A.G (Zof A os) H es ws->Reps A.K A.G (Zof A os) H' es ws:=λh=>Reps.mono (λ_ _ z=>z) (λb u nz e=>fr b u (λz=>nz (.inl (I.gz b z))) e) _ _ h
  have rd':Reps A.K A.G (Zof A os) H' ((done++[k]).map SRow.d) (W++[v']):=by
   rw[zS];exact(mono rd).append (.cons r .nil)
  have key:=zR0 (N2:=N2) (ys:=ys) (Q:=Q) hK J xs' keys (done++[k]) (W++[v']) H' (by simpa using hl) I' (mono rr') (mono rc) rd' (λi d x e1 e2=>aa (i+1) d x (by simpa using e1) (by simpa using e2)) λkv Y ac I3 r3=>by
   have:=fin (v'::kv) Y (λa o g e=>ac a o g (fr a o g e)) I3 (by simpa using r3)
   simpa using this
  have e9:(λrest Y=>kH X ys Q (W++[v']++rest) Y)=λks H''=>kH X ys Q (W++v'::ks) H'':=by funext rest Y;rw[wn];rfl
  rw[e9] at key;exact key
variable {e body:Expr}{t1:TAD}{tb:TD}{N:Qq2}{caps:List Nat}{k:Nat}{np kp pos lpos:Pos}{c P:Addr}{q p:Str}{params:Arguments}{scope:Scope}{clos:List (Str × Addr)}
def zk4(ti:qN A.K P q)(hK:X.K=A.K)(hm:X.mg "sorted" = none)(hr:Room (k+3) X.A)(ha:PAD A X [e] t1)(L:LamBase X.base X.mg c P)(S:LamScope N p scope clos)(C:Caps X N clos caps)
  (ad:∀(A1:Around) (f c':Addr) (s:Qq1) (H:Hp) (G:QqE) (Z:QqA),Room k (A1.deeper (W.envX q scope s.heap.objs.size f (.ref c') clos))->PD ⟨X.K,G,Z,H⟩ (zl9 X A1 N q scope f c' clos s H) body tb)
  (hq:X.env.qual ++ "<lambda>" = q:=by rfl) (hc:X.env.code=.ref c:=by rfl) (ay:closureFor scope X.env=pure clos:=by rfl) (ag:defaultsOf params X.env=([],[]):=by rfl)
  (hb:∀(u pm az:Value) (c':Addr),bindArgs (W.kla_fn "<lambda>" q params body scope clos pm (.ref c') az) ⟨[u],[]⟩=pure [(p,u)]:=by intros;rfl) (hg:Gl X "sorted" := by rfl)
  (he:starEach [e] X.env=(false,eval e X.env)::starEach [] X.env:=by rfl) (ap:(backTo pos (starEach [e] X.env)).any (·.1)=false:=by rfl) :
  PD A X (.Call (.Name "sorted" np) [e] [⟨some "key",.Lambda params body scope lpos,kp⟩] pos) (zS3 caps tb t1):=by
 exists (zk3 (tb:=λH' σ' H'' Q'=>∃G Z,tOf ⟨X.K,G,Z,H'⟩ tb σ' H'' Q') hg hm ha hr hc L hq ay ag S C hb (λA1 f c' s H hr pins s1 σ1 H1 Q I h=>by
    obtain⟨G,Z,h⟩:=h
    exact ad A1 f c' s H G Z hr pins s1 σ1 H1 Q I h) he ap).imp λsg H Q h=>by
   obtain⟨rho,n,R,ds,vs,I,ht,hQ⟩:=h;refine⟨rho,n,_,ds,vs,I,ht,λws H' n' es' ⟨os,J⟩ hl k=>?_⟩;obtain⟨Y,keys,fl,cs,rfl,aB,aw,ae,aq,ah,ai,ao,af⟩:=k;obtain⟨J1,rs⟩:=J.split hl;obtain⟨v,rfl,r⟩:=qz rs;obtain⟨a,xs,rfl,sq,rr⟩:=r.lst_inv;have len:xs.length=Y.length:=rr.length;obtain⟨cv,rc,ax⟩:=JK J1 caps cs ah ai
   refine⟨a,xs,cv,rfl,by rw[hK];exact sq.sq,q5,(J1.zO.2 P q ti).1,by rw[rc.length];exact ah,ax,λH2 aj=>?_⟩
   have am:=aj.keep
   have J2:AmO A os n' rho sg H2 ds vs:=by
    rcases aj with rfl |⟨c2,o2,ar,rfl⟩
    ·exact J1
    ·exact J1.grow ar
   have mono:∀{es:List D}{ws:List V},Reps A.K A.G (Zof A os) H' es ws->Reps A.K A.G (Zof A os) H2 es ws:=λh=>Reps.mono (λ_ _ z=>z) (λb u _ e=>am b u e) _ _ h;refine zR0 (N2:=0) hK Y xs keys [] [] H2 aw J2 (mono rr) (mono rc) .nil ao λkv H3 fr I3 rk=>?_;rw[wC] at rk ⊢;have ak:Reps A.K A.G (Zof A os) H3 Y xs:=Reps.mono (λ_ _ z=>z) (λb u nz e=>fr b u (λz=>nz (.inl (J2.gz b z))) e) _ _ (mono rr);rw[wC,<- hK] at rk
   have aA:kv.length=keys.length:=by rw[rk.length,zf]
   have mem:∀i,i<keys.length->keys.getD i Xu∈keys:=λi hi=>by
    rw[zR,zd hi];exact wZ hi
   have ac:∀i j,i<keys.length->j<keys.length->i≠j->(keys.getD i Xu).name≠(keys.getD j Xu).name:=λi j hi hj aa e=>by
    have g:∀i (hi:i<keys.length),(keys.map SRow.name)[i]'(by simpa using hi)=(keys.getD i Xu).name:=λi hi=>by
     rw[List.getElem_map,zR,zd hi];rfl
    have f:=xV.mp aq
    rcases Nat.lt_or_gt_of_ne aa with l |l
    ·exact f i j (by simpa using hi) (by simpa using hj) l (by rw[g i hi,g j hj,e])
    ·exact f j i (by simpa using hj) (by simpa using hi) l (by rw[g i hi,g j hj,e])
   have num:∀i,i<keys.length->(keys.getD i Xu).key.num=fl:=λi hi=>ae _ (mem i hi)
   refine⟨fl,λi j=>(keys.getD i Xu).lt (keys.getD j Xu),q5,λi j hi hj aa=>SRow.lt_anti (by rw[num i q5,num j q5]) (ac i j q5 q5 aa),λi j l _ _ _ h1 h2=>SRow.lt_trans h1 h2,λi hi=>?_,λi j hi hj aa=>?_,λls hp hU l hl'=>?_⟩
   ·intro pins s σ u J ru
    obtain⟨p,rest,R⟩:=Vs J (rk.getD (enc:=SRow.d) (a0:=Xu) q5) ru
    obtain⟨z,t,_⟩:=R.tup;have ty:=zd6 J R
    rw[num i q5] at ty
    exact⟨p,_,t,ty⟩
   ·intro pins s σ u v J ru rv B hB
    obtain⟨p,ps,R⟩:=Vs J (rk.getD (enc:=SRow.d) (a0:=Xu) q5) ru
    obtain⟨p',ps',R'⟩:=Vs J (rk.getD (enc:=SRow.d) (a0:=Xu) q5) rv
    have c:=zq5 J (by rw[num i q5,num j q5]) (ac i j q5 q5 aa) R R' hB
    rw[num i q5] at c
    exact c
   ·rw [len] at hp hU
    have av:∀i∈ls.toList,i<Y.length:=λi hi=>by
     have:=(hp.mem_iff).mp (Array.mem_toList_iff.mp hi)
     rwa [Array.mem_range] at this
    have hsz:ls.size=Y.length:=by rw[hp.size_eq,yb]
    have rp:Reps A.K A.G (Zof A os) H3 ((ls.toList.map λi=>Y.getD i .non).map id) (ls.toList.map λi=>xs.getD i .non):=Wi (enc:=id) (a0:=.non) (by rw[List.map_id];exact ak) av
    rw[List.map_id] at rp;refine hQ _ _ _ _ ⟨os,I3.newLst rp hl'⟩ (af ls.toList ?_ ?_)
    ·have := wg.mp hp
     rwa [vD] at this
    ·rw [xF, xV];intro i j hi hj aa
     have hi':i<ls.size:=by simpa using hi
     have hj':j<ls.size:=by simpa using hj
     have u:=hU i j aa q5
     have g:∀i (hi:i<ls.size),Srt.lab ls i=ls.toList[i]'(by simpa using hi):=λi hi=>by
      refine Srt.qe ?_
      rw[<- zL,zd (by simpa using hi)]
     rw[g i hi',g j hj'] at u;exact u
end
section
variable {P:Qq3}{w:Qqa}{K:Qq5}{mg:QqM}{base:Heap}
def za9{x J:Str}{st:Stmt}{f c Pt:Addr}{oc:Value}{od an:QqE}{aa:Array (Option Value)}{kV ac pm Y ct:Value}(lk:K.lookup f=some ⟨oc,od,.func (W.fnOf x J (qK st) (ku st) (xm st) .none kV ac pm an Y ct),aa⟩)
  (hn:W.nsIn K mainGlobals x=some (some (.ref f))) (ht:W.tabIn K x=some (c,Pt)):Y=.ref c:=by
 unfold W.tabIn at ht;rw[hn] at ht;simp only[lk] at ht
 split at ht
 ·split at ht
  ·split at ht
   ·cases ht;first |rfl |assumption
   ·cases ht
  ·cases ht
 ·cases ht
def Fun.okL{x J:Str}{st:Stmt}{f c Pt:Addr}{fd:Qqb}{N ps:Qq2}{k:Nat}{t:TF}{tb:TSD}(F:Fun K x J st f fd)(hn:W.nsIn K mainGlobals x=some (some (.ref f)))(ht:W.tabIn K x=some (c,Pt))(S:FnScope N ps (xm st))
  (body : ∀ (A0 : Around) (outer : List Env) (s : Shared) (H : Hp) (E : XK) (G : Option Addr) (Z : Addr -> Prop), Room k (A0.deeper (envOfC J (xm st) s.heap.objs.size f (.ref c))) ->
   Ql ⟨K,G,Z,H⟩ (zD5 CX0 P w K mg base N J (xm st) f (.ref c) A0 outer s H E).nox (ku st) tb)
  (Y:∀ds n Q,ds.length=ps.length->t ds n Q->tb { nx:=λ_ n=>Q .non n,rt:=Q } (startD N ds) n):FnOk P w K mg base CX0 (k+1) f fd ps (spD K ps.length t):=by
 exists (by
   obtain⟨oc,od,kV,ae,pm,an,af,ct,ad,rfl,lk,ac⟩:=F.ex;have e:=za9 lk hn ht;subst e;refine xm8 lk ac S (λvs H Q E h=>?_) λA0 outer s H vs Q E hr h=>?_
   ·obtain⟨G,Z,n,R,ds,hl,rs,_⟩:=h;rw[rs.length];exact hl
   ·obtain ⟨G, Z, n, R, ds, hl, rs, aa, gz, z0, ht, hQ⟩ := h;refine⟨_,PSs.nox (body A0 outer s H E G Z hr),startD N ds,n,_,[],[],⟨[],Zm rs aa gz z0⟩,Y ds n R hl ht,?_⟩;have zz:∀ (os:List (Nat × Addr)) a,Z a->Zof ⟨K,G,Z,H⟩ os a:=λos a z=>.inl z;refine⟨λrho' n' sg' H' ⟨os,I⟩ q=>?_,λd n' v rho' sg' H' ⟨os,I⟩ q=>?_,λ_ _ _ _ _ q=>q.elim,λ_ _ _ _ _ q=>q.elim⟩
    ·exact hQ .non H' n' .non I.fr I.st (Rep.ofS rfl) q
    ·exact hQ v H' n' d I.fr I.st (Rep.mono (λa _ z=>zz os a z) (λ_ _ _ e=>e) _ _ I.pop.2) q)
end
abbrev Qh(K:Qq5)(mg:QqM)(base:Heap):Prop:=∀x∈qY,∀c P,W.tabIn K x=some (c,P)->LamBase base mg c P
def zw3{P:Qq3}{w:Qqa}{K:Qq5}{mg mb:QqM}{CX:CXT}{k:Nat}{fa a:Addr}{fd:Qqb}{x:Str}{sp:Sp}{J:Qq1}{vs:QqW}{ns:Qq4}
  (KX:K.In J.heap) (am:J.heap.Ns mainGlobals mg) (hb:J.heap.Ns builtinsNs mb) (aC:∀x:Str,x ≠ "__name__" -> mb x=bootBuiltins x) (ao:J.heap.NoLimit) (ap:J.heap.NoDigits) (hg:J.gens=#[])
  (hT:∀x∈qY,∀c P,W.tabIn K x=some (c,P)->W.CodeHd J.heap c P/\J.heap.get? P=some (W.tabObj #[])) (hu:∀P q q',qN K P q->qN K P q'->q=q') (az:W.noTabs K=true)
  (aB:∃bm ob,mg "__builtins__" = some (.ref bm)/\bm≠builtinsNs/\J.heap.get? bm=some ob/\ob.cls=.type "module" /\ ob.dict=some builtinsNs/\ob.data=.plain)
  (ha:J.heap.get? a=some { cls:=.type "list",data:=.seq vs.toArray }) (hi:IntsAre vs ns) (hl:ns.length<=sizeLine) (hr:Room k callerA)
  (F:∀base:Heap,K.In base->base.Ns mainGlobals mg->base.NoDigits->Qh K mg base->FnOk P w K mg base CX k fa fd [x] sp) (ag:∀(s:Qq1) (u:Value),BindsTo s fd ⟨[u],[]⟩ [(x,u)])
  (ay:∀H:Hp,zO1 H->SqL K H a (ns.map V.int)->(∀P q,qN K P q->H P=some (.cot q))->sp [.ref a] H (λv H'=>v=.bl true/\∀P q,H P=some (.cot q)->H' P=some (.cot q)) λ_ _ _=>False)
  (aG:∀H e s',CX [] H J (λ_ _ _=>False) e s'->False) :
  codeAny (model P w) callerA (.call (.ref fa) ⟨[.ref a],[]⟩) (λr s'=>r=.ok (.ret (.bool true))/\OldK J.heap s'.heap/\s'.os=J.os/\AllBare s'.gens) J:=by
 classical
 have rv:=Kk hi;have ak:=hi.length;have Y:∀{b:Addr},(∃q,qN K b q)->∃c,W.CodeHd J.heap c b/\J.heap.get? b=some (W.tabObj #[]):=λ{b} ⟨q,x,hx,c,e,_⟩=>⟨c,hT x hx c b e⟩
 have ae:∀H:Hp,(∀b,(H b=none)\/(b=a/\∃o xs,H b=some (.frz o (.lst xs)))\/∃q,qN K b q/\H b=some (.cot q))->(∀P q,qN K P q->H P=some (.cot q))->SqL K H a (ns.map V.int)->HOk P w H J.heap->(H a≠none->K.lookup a=none) ->
   codeAny (model P w) callerA (.call (.ref fa) ⟨[.ref a],[]⟩) (λr s'=>r=.ok (.ret (.bool true))/\OldK J.heap s'.heap/\s'.os=J.os/\AllBare s'.gens) J:=by
  intro H hO aD hS hok hK;have base_of:∀{b:Addr}{o:Obj},J.heap.get? b=some o->H b=none->(zD4 J.heap H).get? b=some o:=λe n=>zM0 e n
  have aj:∀{b:Addr}{o:Obj},J.heap.get? b=some o->o.cls≠.type "list" -> o≠W.tabObj #[]->H b=none:=λ{b o} e d1 d2=>by
   rcases hO b with z |⟨rfl,_⟩ |⟨q,t,_⟩
   ·exact z
   ·rw[ha] at e;cases e;exact absurd rfl d1
   ·obtain⟨c,_,e2⟩:=Y ⟨q,t⟩;rw[e2] at e;cases e;exact absurd rfl d2
  have aw:∀{b:Addr}{o:Obj}{es:Array DictEntry}{ep:Nat},J.heap.get? b=some o->o.data=.dict es ep->H b=none:=λ{b o es ep} e d=>by
   rcases hO b with z |⟨rfl,_⟩ |⟨q,t,_⟩
   ·exact z
   ·rw[ha] at e;cases e;have d':Data.seq vs.toArray _=Data.dict es ep:=d;cases d'
   ·obtain⟨c,_,e2⟩:=Y ⟨q,t⟩;rw[e2] at e;cases e;have d':Data.fields #[]=Data.dict es ep:=d;cases d'
  have ad:∀{b:Addr}{m:QqM},J.heap.Ns b m->(zD4 J.heap H).Ns b m:=λ{b m} ⟨o,es,ep,e,d,r⟩=>⟨o,es,ep,base_of e (aw e d),d,r⟩
  have aq:K.In (zD4 J.heap H):=λb o e=>base_of (KX b o e) (by
   rcases hO b with z |⟨rfl,o',xs,z⟩ |⟨q,t,z⟩
   ·exact z
   ·rw[hK (by rw[z];simp)] at e;cases e
   ·obtain ⟨c, _, e2⟩ := Y ⟨q, t⟩;rw[KX b o e] at e2;cases e2;have h2:=yJ.mp az (b,_) (W.mem_of_lookupK e)
    exact absurd (show false=true from h2) xl)
  have hM:Mod K mg (zD4 J.heap H):=⟨aq,ad am,⟨mb,ad hb,aC⟩,let ⟨mc,h1,h2⟩:=ao;⟨mc,ad h1,h2⟩⟩
  have e0:Env0 P w K mg (zD4 J.heap H) callerA [] J H:=⟨rfl,hM,λb o e=>zY5 e,Nat.le_of_eq (zx9 _ _),trivial,λb hb=>absurd (show b∈([]:Qqc) from hb) (by simp),hok,.of_eq hg⟩
  have aF:Qh K mg (zD4 J.heap H):=λy hy c Pt e=>by
   obtain⟨⟨o,vs,ar,tf,ah,tg,ax,ai,tt,e1,r1,r2,r3,r4,r5,r6,r7,r8,aA⟩,_⟩:=hT y hy c Pt e;obtain⟨bm,ob,b1,b2,b3,b4,b5,b6⟩:=aB
   refine⟨⟨o,vs,ar,tf,ah,tg,ax,ai,tt,base_of e1 (aj e1 (by rw[r1];decide) (λz=>by rw[z] at r1;cases r1)),r1,r2,r3,r4,r5,r6,r7,r8,aA⟩,bm,ob,b1,b2,base_of b3 (aj b3 (by rw[b4];decide) (λz=>by rw[z] at b4;cases b4)),b4,b5,b6⟩
  have aE:zO1 H:=λb=>by
   rcases hO b with z |⟨_,z⟩ |⟨q,_,z⟩
   ·exact .inl z
   ·exact .inr (.inl z)
   ·exact .inr (.inr ⟨q,z⟩)
  refine codeAny_mono ((F _ aq (ad am) (let ⟨mc,h1,h2⟩:=ap;⟨mc,ad h1,h2⟩) aF).run callerA [] J H ⟨[.ref a],[]⟩ [.ref a] [.ref a] _ _ hr e0 (ag J (.ref a)) (.cons rfl .nil) (ay H aE hS aD)) λr s' h=>?_
  cases r with
  |error e=>exact(aG H e s' h).elim
  | ok fl =>
   cases fl with
   |next=>exact False.elim h
   |brk=>exact False.elim h
   |cont=>exact False.elim h
   | ret u =>
    obtain⟨v,H',os,bare,un,hok',r',q,qT⟩:=h;have q':v=.bl true:=q;subst q';obtain rfl:u=Value.bool true:=r'
    have av:∀b o,J.heap.get? b=some o->asItWas J.heap s'.heap b o:=λb o e=>by
     rcases hO b with z |⟨_,ob,xs,z⟩ |⟨q,t,z⟩
     ·exact .inl (un.keep b o e z (by intro z;exact absurd (show b∈([]:Qqc) from z) (by simp)) (by simp))
     ·have z2:=un.frzs b ob _ z;obtain⟨e1,_⟩:=hok b _ z;obtain⟨e2,_⟩:=hok' b _ z2;rw[e] at e1;cases e1;exact .inl e2
     ·obtain ⟨c, hc, e2⟩ := Y ⟨q, t⟩;obtain⟨ps,e3,_⟩:=hok' b _ (qT b q z);have e4:=e2;rw[e] at e4;cases e4
      exact .inr (.inl ⟨(hc.tab e2).isCodeTable,rfl,#[],ps,rfl,by rw[Array.empty_append];exact e3⟩)
    refine⟨rfl,⟨av,λb o e=>?_⟩,os,bare⟩
    exact un.there b o e (by simp)
 have ta:∀q,¬ qN K a q:=λq t=>by
  obtain⟨c,_,e2⟩:=Y ⟨q,t⟩;rw[ha] at e2;cases e2
 let HT:Hp:=λb=>if h:∃q,qN K b q then some (.cot h.choose) else none
 have ac:∀b q,qN K b q->HT b=some (.cot q):=λb q t=>by
  have h:∃q,qN K b q:=⟨q,t⟩
  show(if h:∃q,qN K b q then some (HO.cot h.choose) else none)=_
  rw[dif_pos h,hu b _ q h.choose_spec t]
 have aa:∀b,HT b=none\/∃q,qN K b q/\HT b=some (.cot q):=λb=>by
  by_cases h:∃q,qN K b q
  ·obtain⟨q,t⟩:=h;exact .inr ⟨q,t,ac b q t⟩
  ·exact .inl (dif_neg h)
 have aH:HT a=none:=by
  rcases aa a with z |⟨q,t,_⟩
  ·exact z
  ·exact absurd t (ta q)
 have af:∀b u,HT b=some u->∃q,u=.cot q/\J.heap.get? b=some (W.tabObj #[]):=λb u e=>by
  rcases aa b with z |⟨q,t,z⟩
  ·rw[e] at z;cases z
  ·rw[e] at z;cases z;obtain⟨c,_,e2⟩:=Y ⟨q,t⟩;exact⟨q,rfl,e2⟩
 cases hk:K.lookup a with
 | some o =>
  have e:=KX a o hk;rw[ha] at e;cases e
  refine ae HT (λb=>?_) ac (.inr ⟨_,vs.toArray,_,hk,rfl,rfl,rfl,by rw[zt,ak];exact hl,by simpa using rv⟩) (λb u z=>?_) λz=>absurd aH z
  ·rcases aa b with z | z
   ·exact .inl z
   ·exact .inr (.inr z)
  ·obtain⟨q,rfl,e⟩:=af b u z;exact⟨#[],e,.nil⟩
 | none =>
  refine ae (upd HT a (.frz { cls:=.type "list",data:=.seq vs.toArray } (.lst (ns.map V.int)))) (λb=>?_) (λb q t=>?_) (.inl (.inr ⟨{ cls:=.type "list",data:=.seq vs.toArray },yx⟩)) (λb u z=>?_) λ_=>hk
  ·by_cases hb : b = a
   ·subst hb;exact .inr (.inl ⟨rfl,_,_,yx⟩)
   ·rw [ww hb]
    rcases aa b with z |z
    ·exact .inl z
    ·exact .inr (.inr z)
  ·rw[ww (fun(z:b=a)=>ta q (by rw[<- z];exact t))];exact ac b q t
  ·by_cases hb : b = a
   ·subst hb;rw[yx] at z;cases z
    exact⟨ha,by rw[zf];exact hl,vs,_,rv,ha⟩
   ·rw[ww hb] at z;obtain⟨q,rfl,e⟩:=af b u z;exact⟨#[],e,.nil⟩
def zD9{l:W.OpenLaw}{n k:Nat}{q:Qq3}{loose:Qq2}{XP:(Str->Option Value)->Heap->Prop}{YP:World->Heap->Prop}{d:DefRec}{K:Params->W.Frag}{CX:World->CXT}{sp:World->Sp}{x:Str}
  (hn:l.most=some n) (ag:n<=sizeLine) (ai:d.params.defaults=[]) (hr:Room k callerA)
  (hY:∀(w:Qqa) (h:Heap),YP w h->(K w.params).In h)
  (ac:∀(w:Qqa),∀y∈qY,∀c P,W.tabIn (K w.params) y=some (c,P)->∃d,(recsOf q).find? (λe=>e.name == y)=some d) (hu:∀(w:Qqa) P q q',qN (K w.params) P q->qN (K w.params) P q'->q=q') (af:∀w:World,W.noTabs (K w.params)=true)
  (F : ∀ (w : World) (mg : Str -> Option Value) (fa : Addr) (h : Heap), (K w.params).In h -> h.Ns mainGlobals mg -> mg d.name = some (.ref fa) ->
   ∃fd:FuncData,(∀(s:Qq1) (u:Value),BindsTo s fd ⟨[u],[]⟩ [(x,u)]) /\
    ∀base:Heap,(K w.params).In base->base.Ns mainGlobals mg->base.NoDigits->Qh (K w.params) mg base->FnOk l.prog w (K w.params) mg base (CX w) k fa fd [x] (sp w))
  (ae:∀(w:Qqa) (H:Hp) (a:Addr) (ns:Qq4),ns.length<=n->zO1 H->SqL (K w.params) H a (ns.map V.int)->(∀P q,qN (K w.params) P q->H P=some (.cot q))->sp w [.ref a] H (λv H'=>v=.bl true/\∀P q,H P=some (.cot q)->H' P=some (.cot q)) λ_ _ _=>False)
  (aj:∀(w:Qqa) (H:Hp) (s:Qq1) (e:Value) (s':Qq1),CX w [] H s (λ_ _ _=>False) e s'->False) :
  W.WalkO q loose XP YP l.row.toRowW d [] (λf vs=>PySem.call f vs):=by
 refine Att.attach_call hn ai λw s₀ s₁ mg mb fa o pm cd am a vs ns G Y ho hd ak ah ad aa J hg=>?_;have KX:=hY w _ Y;obtain⟨fd,hb,hF⟩:=F w mg fa _ KX G.T.g ah
 exact zw3 KX G.T.g G.T.b G.T.builtins G.T.nolimit G.T.nodigits hg (λy hy c P e=>let ⟨d,hr⟩:=ac w y hy c P e;W.tab_of G.T KX hr e) (hu w) (af w) G.T.bmain ad aa (zG J ag) hr hF hb (λH hO hS hT=>ae w H a ns J hO hS hT) λH e s'=>aj w H s₁ e s'
def evL{α:Type}:List α->List α
 |[]=>[]
 |[x]=>[x]
 |x::_::r=>x::evL r
def odL{α:Type}:List α->List α
 |[]=>[]
 |[_]=>[]
 |_::y::r=>y::odL r
def Yp{α:Type}(o:Bool)(l:List α):List α:=if o then odL l else evL l
theorem zy8:∀l:List Value,((List.range ((l.length+1)/2)).map λk=>2*k).filterMap (λi=>l[i]?)=evL l
 |[]=>rfl
 |[x]=>by simp[evL,List.range_succ]
 |x::y::r=>by
  have e:((x::y::r).length+1)/2=(r.length+1)/2+1:=by simp only[zP];lia
  rw[e,List.range_succ_eq_map,zN,vp];show x::_=x::evL r;rw[<- zy8 r,zK,yN,yN];rfl
theorem zu7:∀l:List Value,((List.range (l.length/2)).map λk=>2*k+1).filterMap (λi=>l[i]?)=odL l
 |[]=>rfl
 |[x]=>by simp[odL]
 |x::y::r=>by
  have e:(x::y::r).length/2=r.length/2+1:=by simp only[zP];lia
  rw[e,List.range_succ_eq_map,zN,vp];show y::_=y::odL r;rw[<- zu7 r,zK,yN,yN];rfl
def zy1(o:Bool)(l:QqW):slicePick l.toArray (if o then some 1 else none) none (some 2)=(Yp o l).toArray:=by
 unfold slicePick
 cases o with
 | false =>
  show((sliceRange 0 (l.toArray.size:Int) 2).filterMap λi=>l.toArray[i]?).toArray=(evL l).toArray;rw[<- zy8 l]
  congr 1
  have e:sliceRange 0 (l.toArray.size:Int) 2=(List.range ((l.length+1)/2)).map λk=>2*k:=by
   unfold sliceRange;simp only[zt]
   have c:(if (2:Int) > 0 then(if (0:Int)<(l.length:Int) then((l.length:Int)-0+2-1)/2 else 0) else(if (0:Int) > (l.length:Int) then(0-(l.length:Int)-2-1)/(-2) else 0)).toNat=(l.length+1)/2:=by
    rw[if_pos q9]
    split<;>lia
   rw[c]
   exact vn λk _=>by lia
  rw[e];simp
 | true =>
  show((sliceRange (max 0 (min (1:Int) (l.toArray.size:Int))) (l.toArray.size:Int) 2).filterMap λi=>l.toArray[i]?).toArray=(odL l).toArray;rw[<- zu7 l]
  congr 1
  have e:sliceRange (max 0 (min (1:Int) (l.toArray.size:Int))) (l.toArray.size:Int) 2=(List.range (l.length/2)).map λk=>2*k+1:=by
   by_cases h0:l.length=0
   ·have:l=[]:=xo.mp h0;subst this;rfl
   ·have J : max 0 (min (1 : Int) (l.toArray.size : Int)) = 1 := by simp only [zt]; lia
    rw[J];unfold sliceRange;simp only[zt]
    have c:(if (2:Int) > 0 then(if (1:Int)<(l.length:Int) then((l.length:Int)-1+2-1)/2 else 0) else(if (1:Int) > (l.length:Int) then(1-(l.length:Int)-2-1)/(-2) else 0)).toNat=l.length/2:=by
     rw[if_pos q9]
     split<;>lia
    rw[c]
    exact vn λk _=>by lia
  rw[e];simp
theorem XT{α:Type}(o:Bool):∀l:List α,(Yp o l).length<=l.length
 |[]=>by cases o<;>simp[Yp,evL,odL]
 |[x]=>by cases o<;>simp[Yp,evL,odL]
 |x::y::r=>by
  have:=XT o r
  cases o with
  |false=>show(x::evL r).length<=_;have h:(evL r).length<=r.length:=this;simp only[zP];lia
  |true=>show(y::odL r).length<=_;have h:(odL r).length<=r.length:=this;simp only[zP];lia
theorem JA{α:Type}:∀l:List α,(odL l++evL l).Perm l
 |[]=>.nil
 |[x]=>.refl _
 |x::y::r=>by
  show((y::odL r)++(x::evL r)).Perm (x::y::r);refine List.perm_middle.trans (.cons x ?_);exact .cons y (JA r)
theorem UR{α β:Type}(f:α->β)(o:Bool):∀l:List α,Yp o (l.map f)=(Yp o l).map f
 |[]=>by cases o<;>rfl
 |[x]=>by cases o<;>rfl
 |x::y::r=>by
  have:=UR f o r
  cases o with
  |false=>show f x::evL (r.map f)=_;have h:evL (r.map f)=(evL r).map f:=this;rw[h];rfl
  |true=>show f y::odL (r.map f)=_;have h:odL (r.map f)=(odL r).map f:=this;rw[h];rfl
theorem Vals.half(o:Bool):∀{xs:List V}{us:QqW},Vals xs us->Vals (Yp o xs) (Yp o us)
 |_,_,.nil=>by cases o<;>exact .nil
 |_,_,.cons r .nil=>by
  cases o
  ·exact .cons r .nil
  ·exact .nil
 |_,_,.cons r (.cons J t)=>by
  have:=Vals.half o t;cases o
  ·exact .cons r this
  ·exact .cons J this
theorem Reps.half{K:Qq5}{G:QqE}{Z:QqA}{H:Hp}(o:Bool):∀{ds:List D}{vs:List V},Reps K G Z H ds vs->Reps K G Z H (Yp o ds) (Yp o vs)
 |[],vs,h=>by rw[h.nil_inv];cases o<;>exact .nil
 |[d],vs,h=>by
  obtain⟨v,r,rfl,q,t⟩:=h.split;rw[t.nil_inv];cases o
  ·exact .cons q .nil
  ·exact .nil
 |d::d2::ds,vs,h=>by
  obtain⟨v,r,rfl,q,t⟩:=h.split;obtain⟨v2,Y,rfl,J,t2⟩:=t.split;have:=Reps.half o t2;cases o
  ·exact .cons q this
  ·exact .cons J this
section
variable {X:Cx}{e st:Expr}{te:TE}{lo:Option Expr}{pos p2:Pos}
def xe4(K:Qq5)(o:Bool)(te:TE):TE:=λσ H Q=>te σ H λx H1=>∃a xs,x=.ref a/\SqL K H1 a xs/\∀p,H1 p=none->Q (.ref p) (upd H1 p (.lst (Yp o xs)))
def zs7{o:Bool}(he:PE X e te)(aa:PO X lo λ_ H Q=>Q (if o then some 1 else none) H)(Y:PE X st λ_ H Q=>Q (.int 2) H):PE X (.Subscript e (.Slice lo none (some st) p2) pos) (xe4 X.K o te):=by
 intro pins s σ H Q I h;refine Subscript_ (thn (he pins s σ H _ I h) λv s1 ⟨x,H1,I1,r1,W⟩=>?_);obtain⟨a,xs,rfl,hx,W⟩:=W
 refine wpAny_Slice (thn (aa pins s1 σ H1 (λo' H2=>o'=(if o then some 1 else none)/\H2=H1) I1 ⟨rfl,rfl⟩) λvl s2 ⟨l,H2,I2,pl,el,eH⟩=>?_)
 subst el eH;rw[evalPart_none];refine ze ?_;rw[evalPart_some];refine thn (Y pins s2 σ H2 (λy H3=>y=.int 2/\H3=H2) I2 ⟨rfl,rfl⟩) λu J ⟨y,H3,I3,ry,ey,eH⟩=>?_;subst ey eH;obtain⟨tk,rfl⟩:=ry;cases r1;have I4:Inv X pins σ H3 { J with heap:=J.heap.push { cls:=.type "slice",data:=.fields #[vl,.none,.int 2 tk] } }:=I3.kept (t':=J.toks) λb ob q=>zg _ q;obtain⟨its,r,ht,hz⟩:=I4.list hx;have ac:=r.length
 refine tail_any (ops:=[.ref a,.ref J.heap.objs.size]) ht.isList.typeIs slot_list_getitem.lookup (wpAny_getItem_list_slice ht.isList (Heap.IsSliceOf.new ..) pl .none (.int 2 tk) (by simp) ?_ (by rw[zt]<;>lia)) (by with_unfolding_all rfl)
 rw[zy1];refine⟨.ref _,_,I4.laid (t':=J.toks) (o:=.lst (Yp o xs)) (λb ob q=>zg _ q) (zj _) ?_,rfl,W _ (I4.hok.fresh (zj _))⟩;exact⟨zG (XT o xs) hz,Yp o its,0,r.half o,zr _ rfl⟩
def JO(Y:X.calm=true):qy X (.builtin "max") (λxs H Q=>∃i j l,xs=[.int i,.int j,.int l]/\Q (.int (max (max i j) l)) H):=by
 intro pins s σ H xs us Q I r h;obtain⟨i,j,l,rfl,q⟩:=h
 cases r with
 | cons W J =>
  obtain⟨u,w',rfl,⟨t',rfl⟩,⟨t'',rfl⟩⟩:=zT3 J;obtain⟨t,rfl⟩:=W;refine max_three_ints (I.ok.hd Y) λh' tk k=>⟨_,H,I.kept k,?_,q⟩
  by_cases h1:j > i
  ·rw [if_pos h1]
   by_cases h2:l > j
   ·rw[if_pos h2];exact⟨_,congrArg (λz=>Value.int z _) q5⟩
   ·rw[if_neg h2];exact⟨_,congrArg (λz=>Value.int z _) q5⟩
  ·rw [if_neg h1]
   by_cases h2:l > i
   ·rw[if_pos h2];exact⟨_,congrArg (λz=>Value.int z _) q5⟩
   ·rw[if_neg h2];exact⟨_,congrArg (λz=>Value.int z _) q5⟩
end
section
variable {A:AC}{X:Cx}{a:Expr}{ta:TD}{pos p2 p3 p4:Pos}
def zN2(o:Bool)(ta:TD):TD:=λrho n P=>ta rho n λd J=>zv9 d λfs=>P (.lst (Yp o fs)) J
@[simp] theorem xz2{o ta rho n P}:zN2 o ta rho n P=ta rho n λd J=>zv9 d λfs=>P (.lst (Yp o fs)) J:=rfl
def zy2{o:Bool}(hK:X.K=A.K)(h:tOf A (zN2 o ta) sg H Q):xe4 X.K o (tOf A ta) sg H Q:=by
 obtain⟨rho,n,P,ds,vs,I,ht,hQ⟩:=h;refine⟨rho,n,_,ds,vs,I,ht,λv H1 Y d ⟨os,J⟩ k=>?_⟩;obtain⟨fs,hd,k⟩:=k;obtain⟨J1,r⟩:=J.pop;rw[hK]
 rcases hd with rfl |rfl
 ·obtain⟨l,xs,rfl,sq,rs⟩:=r.lst_inv;exact⟨l,xs,rfl,sq.sq,λp W=>hQ _ _ Y _ ⟨os,J1.newLst (rs.half o) W⟩ k⟩
 ·obtain⟨l,xs,rfl,sq,rs⟩:=r.fz_inv;exact⟨l,xs,rfl,sq,λp W=>hQ _ _ Y _ ⟨os,J1.newLst (rs.half o) W⟩ k⟩
def xB0{j:Nat}(J:X.K=A.K)(ha:PD A X a ta):PD A X (.Subscript a (.Slice none none (some (.Constant (.int 2) j p3)) p2) pos) (zN2 false ta):=by exists (zs7 (o:=false) ha (λpins s σ H Q I q=>by rw[evalPart_none];exact ze ⟨none,H,I,.none,q⟩) ze9).imp λsg H Q h=>zy2 J h
def xA9{i j:Nat}(J:X.K=A.K)(ha:PD A X a ta):PD A X (.Subscript a (.Slice (some (.Constant (.int 1) i p4)) none (some (.Constant (.int 2) j p3)) p2) pos) (zN2 true ta):=by exists (zs7 (o:=true) ha (λpins s σ H Q I q=>zs3 ze9 pins s σ H Q I ⟨1,rfl,q⟩) ze9).imp λsg H Q h=>zy2 J h
noncomputable def xl6:List D->(D->Prop)->Prop:=λes k=>∃i j l,es=[.int i,.int j,.int l]/\k (.int (max (max i j) l))
@[simp] theorem xx8{i j l k}:xl6 [.int i,.int j,.int l] k↔k (.int (max (max i j) l)):=⟨fun⟨_,_,_,e,h⟩=>by cases e;exact h,λh=>⟨_,_,_,rfl,h⟩⟩
def zA7:vV A (λxs H Q=>∃i j l,xs=[.int i,.int j,.int l]/\Q (.int (max (max i j) l)) H) xl6:=by
 rintro os n rho sg H ds vs es ws k Q I rs ⟨i,j,l,rfl,q⟩ Y;obtain⟨v,r,rfl,W,J⟩:=rs.split;obtain⟨v',v'',rfl,r',r''⟩:=KH J
 exact⟨i,j,l,by rw[W.int_inv,r'.int_inv,r''.int_inv],Y _ H _ ⟨os,I.push (Rep.ofS rfl)⟩ q⟩
def zR3(caps:List Nat)(tb:TD)(rho:Rho)(W:Nat)(R:D->Nat->Prop)(es:List D):Prop:=∃(J:List D) (keys:List SRow) (fl:Bool) (Y:List D),es=[.lst J]/\J.length<64/\keys.length=J.length/\(∀x∈keys,x.key.num=fl)/\(keys.map SRow.name).Nodup /\
 Y.length=caps.length/\(∀(i j:Nat),caps[i]?=some j->∃d,Y[i]?=some d/\rho[j]?=some (some d)/\wj d=true)/\(∀(i:Nat) (d:D) (x:SRow),J[i]?=some d->keys[i]?=some x->tb (some d::Y.map some) W λe n2=>e=x.d/\n2=W) /\
 ∀ls:List Nat,ls.Perm (List.range J.length)->(ls.map λi=>keys.getD i Xu).Pairwise (λx y=>x.lt y=true)->R (.lst (ls.map λi=>J.getD i .non)) W
@[simp] theorem xr6{caps tb t1 rho n R}:zS3 caps tb t1 rho n R=t1 rho n λes J=>zR3 caps tb rho J R es:=rfl
def Qt{α:Type}{caps:List Nat}{tb:TD}{rho:Rho}{n:Nat}{R:D->Nat->Prop}(enc:α->D)(key:α->SRow)(fl:Bool)(cs:List D)(ts:List α)(a0:α)(ae:ts.length<64)(hn:∀t∈ts,(key t).key.num=fl)(ac:(ts.map λt=>(key t).name).Nodup)(ad:cs.length=caps.length)
  (Y:∀(i j:Nat),caps[i]?=some j->∃d,cs[i]?=some d/\rho[j]?=some (some d)/\wj d=true) (aa:∀t∈ts,tb (some (enc t)::cs.map some) n λe n2=>e=(key t).d/\n2=n)
  (fin:∀us:List α,us.Perm ts->us.Pairwise (λa b=>(key a).lt (key b)=true)->R (.lst (us.map enc)) n):zR3 caps tb rho n R [.lst (ts.map enc)]:=by
 refine⟨ts.map enc,ts.map key,fl,cs,rfl,by rw[zf];exact ae,by rw[zf,zf],λx hx=>?_,by rw[zK];exact ac,ad,Y,λi d x J e2=>?_,λls hp hs=>?_⟩
 ·obtain⟨t,ht,rfl⟩:=zo.mp hx;exact hn t ht
 ·rw [zy] at J e2
  cases et:ts[i]? with
  |none=>rw[et] at J;cases J
  |some t=>
   rw[et] at J e2;cases J;cases e2;exact aa t (zV et)
 ·rw [zf] at hp;have W:∀ i∈ls,i<ts.length:=λi hi=>vv.mp (hp.mem_iff.mp hi)
  have g:∀{β:Type} (f:α->β) (b0:β) (i:Nat),i<ts.length->(ts.map f).getD i b0=f (ts.getD i a0):=λf b0 i hi=>by
   rw[zR,zR,zy,zd hi];rfl
  have J:(ls.map λi=>(ts.map enc).getD i .non)=(ls.map λi=>ts.getD i a0).map enc:=by
   rw[zK];exact vn λi hi=>g enc .non i (W i hi)
  have e2:(ls.map λi=>(ts.map key).getD i Xu)=(ls.map λi=>ts.getD i a0).map key:=by
   rw[zK];exact vn λi hi=>g key Xu i (W i hi)
  rw[e2,xF] at hs;rw[J];refine fin _ ?_ hs;have p2:=hp.map λi=>ts.getD i a0
  rwa [Jo] at p2
end
noncomputable def zQ9(N:Qq2)(p:Str)(sc:Scope):Bool:=
 ((sc.kind == .function&&(!sc.isCoroutine&&!sc.isGenerator))&&sc.names.all (λz=>z.2 != .cell&&(z.2 != .free||(N.drop 1).contains z.1)))&&((N[0]? == some p&&sc.names.lookup p == some .local)&&(N.drop 1).all (λx=>sc.names.lookup x == some .free))
def zL0(h:zQ9 N p sc=true)(J:∀x∈N.drop 1,∃c,clos.lookup x=some c):LamScope N p sc clos:=by
 unfold zQ9 at h;simp only[zW,Bool.or_eq_true,yJ,beq_iff_eq,bne_iff_ne,Bool.not_eq_true',List.contains_iff_mem] at h;obtain⟨⟨⟨h1,h2,h3⟩,h4⟩,⟨h5,h6⟩,h7⟩:=h;refine⟨h1,h2,h3,λx hx=>(h4 x hx).1,h5,h6,λx hx=>?_,λi x e=>?_⟩
 ·rcases (h4 _ (PySem.mem_of_lookup hx)).2 with z | z
  ·exact absurd rfl z
  ·exact J x z
 ·refine h7 x ?_
  exact zV (l:=N.drop 1) (i:=i) (by rw[wD];rw[Nat.add_comm];exact e)
def Caps.one{j:Nat}(hk:X.env.kindOf y=some .cell)(hj:X.N[j]?=some y)(J:X.env.cells.lookup y=some a):Caps X [p,y] [(y,a)] [j]:=by
 refine⟨rfl,λi x e=>?_,λx c e=>?_,λi x e=>?_⟩
 ·cases i with
  |zero=>cases e;exact⟨hk,j,rfl,hj⟩
  |succ i=>simp at e
 ·rw [xN] at e
  split at e
  ·rename_i h;cases e;rw[eq_of_beq h];exact J
  ·cases e
 ·cases i with
  |zero=>cases e;exact⟨a,by rw[xN,beq_self_eq_true]⟩
  |succ i=>simp at e
def zN8{p y:Str}{a:Addr}:∀x∈[p,y].drop 1,∃c,[(y,a)].lookup x=some c:=λx hx=>by
 have e:x=y:=by simpa using hx
 subst e
 exact⟨a,by rw[xN,beq_self_eq_true]⟩
def xe0{K:Qq5}{x:Str}{f c P:Addr}{o1 p1:Value}{o2 p2:QqE}{o4 Y:Array (Option Value)}{fd:Qqb}{J:Qq8}(a:W.nsIn K mainGlobals x=some (some (.ref f)))(l:K.lookup f=some ⟨o1,o2,.func fd,o4⟩)(le:fd.code=.ref c)(lc:K.lookup c=some ⟨p1,p2,.fields J,Y⟩)(lp:J[11]?=some (.ref P)) :
  W.tabIn K x=some (c,P):=by
 unfold W.tabIn;rw[a];simp only[l,le,lc,lp]
def zT5(K:Qq5)(P:Addr)(q q':Str)(h:qN K P q)(h':qN K P q'):q=q':=by
 obtain⟨x,hx,c,_,rfl⟩:=h;obtain⟨y,J,c',_,rfl⟩:=h'
 have e1:x = "_law_grown" := by simpa [qY] using hx
 have Y:y = "_law_grown" := by simpa [qY] using J
 rw[e1,Y]
section
variable {prog:Qq3}{w:Qqa}{A:Around}{R:Result->Shared->Prop}{s:Qq1}{elt tg1 it1 tg2 it2:Expr}{ifs1 ifs2:Qq9}{scope:Scope}{pos:Pos}{it acc:Value}{env:Env}
end
section
variable {X':Cx}{P5:QqL}{σ6:St}{H8:Hp}{s8:Qq1}{elt tg1 it1 tg2 it2:Expr}{ifs1 ifs2:Qq9}{scope:Scope}{pos:Pos}{g2:TG}{tt2:TT}{te:TE}
end
section
variable {X:Cx}{scope:Scope}{own M:Qq2}{pins:QqL}{σ:St}{H2:Hp}{s2:Qq1}{elt tg1 it1 tg2 it2:Expr}{ifs1 ifs2:Qq9}{pos:Pos}{g1 g2:TG}{tt1 tt2:TT}{te:TE}{wi2:TI}
end
section
variable {A:AC}{X:Cx}{elt tg1 it1 tg2 it2:Expr}{ifs1 ifs2:Qq9}{scope:Scope}{own M:Qq2}{pos:Pos}{i1 i2:TID}{g1 g2:TGD}{tt1 tt2:TBD}{te:TD}
end
section
variable {X:Cx}
end
section
variable {A:AC}{X:Cx}
end
section
variable {A:AC}{X:Cx}{e:Expr}{t1:TAD}{pos:Pos}
end
section
variable {A:AC}{X:Cx}
def VN{n:Nat}(J:Room n X.A):qy X (.builtin "repr") (λxs H Q=>(∃i:Int,xs=[.int i]/\i.natAbs.log2<1920/\Q (.str (toString i)) H)\/(xs=[.non]/\Q (.str "None") H)\/∃(y:V) (p:PyData),xs=[y]/\zC7 X H y p/\p.showable=true/\p.hasDict=false/\p.depth<=20/\p.shown.length<=sizeLine/\Q (.str p.shown) H):=by
 intro pins s σ H xs us Q I r h
 rcases h with ⟨i,rfl,hi,q⟩ |h
 ·obtain⟨u,rfl,hu⟩:=YI r;obtain⟨t,rfl⟩:=hu;exact PySem.P.repr_of_int hi ⟨.str (toString i),H,I.tok _,⟨_,rfl⟩,q⟩
 ·exact zn2 J pins s σ H xs us Q I r h
def zU2:D->Str
 |.int i=>toString i
 |d=>zp9 d
def xB4(d:D):Prop:=(∃i:Int,d=.int i/\i.natAbs.log2<1920)\/xB3 d
def zR5:List D->(D->Prop)->Prop:=λes k=>∃d,es=[d]/\xB4 d/\k (.str (zU2 d))
@[simp] theorem xr1{d k}:zR5 [d] k↔(xB4 d/\k (.str (zU2 d))):=⟨fun⟨_,e,h⟩=>by cases e;exact h,λh=>⟨_,rfl,h⟩⟩
def zh7(W:X.K=A.K):vV A (λxs H Q=>(∃i:Int,xs=[.int i]/\i.natAbs.log2<1920/\Q (.str (toString i)) H)\/(xs=[.non]/\Q (.str "None") H)\/∃(y:V) (p:PyData),xs=[y]/\zC7 X H y p/\p.showable=true/\p.hasDict=false/\p.depth<=20/\p.shown.length<=sizeLine/\Q (.str p.shown) H) zR5:=by
 rintro os n rho sg H ds vs es ws k Q I rs ⟨d,rfl,h,q⟩ J
 rcases h with ⟨i,rfl,hi⟩ |h
 ·obtain⟨v,rfl,r⟩:=qz rs;have e:v=.int i:=r.int_inv;subst e;exact .inl ⟨i,rfl,hi,J _ H _ ⟨os,I.push (Rep.ofS (d:=.str (toString i)) rfl)⟩ q⟩
 ·have e : zU2 d = zp9 d := by
   rcases h with rfl |⟨h,_⟩
   ·rfl
   ·cases d<;>first |rfl |(simp[xs3] at h;done)
  rw[e] at q;exact .inr (zN6 W os n rho sg H ds vs [d] ws k Q I rs ⟨d,rfl,h,q⟩ J)
end
section
variable {X:Cx}{A:AC}{a b:Expr}{ta tb:TD}{pos p:Pos}{g:Str}{ks:Qq2}{ds:List D}
end
section
variable {prog:Qq3}{w:Qqa}{A:Around}{E:QqV}{s:Qq1}
end
section
variable {X:Cx}
end
section
variable {A:AC}
end
theorem Jp{α β:Type}(f:α->β):∀(l:List α) (j:Nat),(l.eraseIdx j).map f=(l.map f).eraseIdx j
 |[],_=>rfl
 |_::_,0=>rfl
 |x::l,j+1=>congrArg (f x::·) (Jp f l j)
section
variable {κ:Type} [DecidableEq κ]
noncomputable def WK(xs:List (κ × Addr × Value))(k:κ):List (κ × Addr × Value):=xs.filter λx=>decide (x.1≠k)
theorem zh0:∀{xs:List (κ × Addr × Value)}{k:κ},k ∉ xs.map (·.1)->WK xs k=xs
 |[],_,_=>rfl
 |x::xs,k,h=>by
  have h1:x.1≠k:=λe=>h (by simp[e])
  have h2:WK xs k=xs:=zh0 λz=>h (zk _ z);show List.filter _ (x::xs)=_
  rw[xv (by simpa using h1)]
  exact congrArg _ h2
theorem JG:∀{xs:List (κ × Addr × Value)}{k:κ}{p:Addr × Value}{j:Nat},(xs.map (·.1)).Nodup->xs[j]?=some (k,p)->xs.eraseIdx j=WK xs k
 |[],_,_,_,_,h=>by simp at h
 |x::xs,k,p,0,J,h=>by
  have e:x=(k,p):=by simpa using h
  subst e;have hn':=xM.mp J;show xs=List.filter _ ((k,p)::xs)
  rw[xy (by simp)]
  exact(zh0 hn'.1).symm
 |x::xs,k,p,j+1,J,h=>by
  have h':xs[j]?=some (k,p):=by simpa using h
  have hn':=xM.mp J;have hx:x.1≠k:=λe=>hn'.1 (zo.mpr ⟨(k,p),zV h',e.symm⟩);show x::xs.eraseIdx j=List.filter _ (x::xs)
  rw[xv (by simpa using hx)]
  exact congrArg _ (JG hn'.2 h')
theorem JW:∀{xs:List (κ × Addr × Value)}{k:κ}{p:Addr × Value},atKey xs k=some p->∃j:Nat,xs[j]?=some (k,p)
 |[],_,_,h=>by simp[atKey] at h
 | x :: xs, k, p, h => by
  by_cases e:x.1=k
  ·refine⟨0,?_⟩;simp[atKey,wQ,e] at h;simp[<- h,<- e]
  ·obtain ⟨j, hj⟩ := JW (xs := xs) (k := k) (p := p) (by simpa [atKey, wQ, e] using h)
   exact⟨j+1,by simpa using hj⟩
variable {prog:Qq3}{w:Qqa}{knd:HeapKind prog w κ}{A:Around}{E:QqV}{s:Qq1}{d a:Addr}{k:κ}{xs:List (κ × Addr × Value)}{p:Addr × Value}
theorem zE7(hu:knd.room A)(Y:knd.is s.heap k a)(hm:s.heap.DictOfH knd d xs)(hp:atKey xs k=some p)(hsz:xs.length<=sizeLine)
  (hQ:∀h',h'.DictOfH knd d (WK xs k)->Heap.SameBut d s.heap h'->Q (some ⟨knd.hash k,.ref p.1,p.2⟩) { s with heap:=h',toks:=s.toks+knd.draws k }):wpAny (model prog w) A (Builtin.Dict.takeOut d (.ref a)) Q E s:=by
 obtain⟨o,es,ep,ho,hc,J,W,aa,hn⟩:=hm;unfold Builtin.Dict.takeOut;refine xJ (zb (knd.pyHash hu Y (zb (wpAny_dictFind_heap (s:={ s with toks:=s.toks+knd.draws k }) hu Y ho J W aa hn (λac=>?_) λj q hj=>?_))))
 ·rw[atKey_none_of_get ac] at hp;cases hp
 ·have eq : q = p := by rw [atKey_of_get hn hj] at hp; exact zD hp
  subst eq
  have e1:es[j]?=some ⟨knd.hash k,.ref q.1,q.2⟩:=by rw[entry_at W j,hj];rfl
  refine zb (wl (s:={ s with toks:=s.toks+knd.draws k }) ho J ?_);rw[e1]
  have e2:es.size<=sizeLine:=by rw[size_of_entries W];exact hsz
  have e3:(es.eraseIdxIfInBounds j).toList=(WK xs k).map (entryOfKey knd):=by
   rw[<- JG hn hj,Jp,<- W];obtain⟨l⟩:=es;simp
  have e4:((WK xs k).map (·.1)).Nodup:=hn.sublist (List.Sublist.map _ filter_sublist);refine zb (wpAny_updateDictKeys (hz:=e2) (s:={ s with toks:=s.toks+knd.draws k }) ho J (ze (hQ _ ⟨_,_,ep+1,we _ ho (Obj.isFreed_of_dict (Obj.data_mapDictKeys J _)),hc.mapDictKeys _,Obj.data_mapDictKeys J _,e3,λx hx=>?_,e4⟩ (Heap.SameBut.update ..))));exact knd.keeps (aa x (zB.mp hx).1) ho J (Heap.SameBut.update ..)
theorem xO6(hu:knd.room A.in1)(J:knd.is s.heap k a)(hm:s.heap.DictOfH knd d xs)(hp:atKey xs k=some p)(hsz:xs.length<=sizeLine)
  (hQ:∀h' t',h'.DictOfH knd d (WK xs k)->Heap.SameBut d s.heap h'->Q p.2 { s with heap:=h',toks:=t' }):wpAny (model prog w) A (call (.builtin "dict.pop") [.ref d,.ref a]) Q E s:=by
 refine call_meetsIn PySem.F.slot_dict_pop hm.typeIs PySem.F.entry_dict_pop (PySem.F.args_dict_pop_2 _ _) (S:=λB R s'=>s'=s/\B=A/\∀h',h'.DictOfH knd d (WK xs k)->Heap.SameBut d s.heap h'->R (.ok (.ret p.2)) { s with heap:=h',toks:=s.toks+knd.draws k }) (.of_wp ?_) ⟨rfl,rfl,λh' h1 h2=>hQ h' _ h1 h2⟩;rintro B R s' ⟨rfl,rfl,h⟩;obtain⟨o,es,ep,ho,hc,Y,W,ae,hn⟩:=id hm;obtain⟨j,hj⟩:=JW hp
 have aa:es.isEmpty=false:=by
  have:=size_of_entries W;have ad:j<xs.length:=(zu.mp hj).1
  cases es with
  |mk l=>cases l with
   |nil=>simp at this;lia
   |cons _ _=>rfl
 unfold Builtin.«dict.pop» Builtin.Dict.keyAndDefault;refine zb (zb (wpAny_notOrdered_dict hm.typeIs ?_));show wpAny _ _ (pure (d,Value.ref a,none)) _ _ _;refine ze ?_;have ac:(keyPart (Value.ref a)).isSome=false:=rfl;simp only[ac,zT,if_false];refine zb (wl ho Y (zb (ze ?_)));rw[aa];simp only[zT,if_false];refine zb (zE7 hu J hm hp hsz λh' h1 h2=>?_);simp only[Option.isNone_some,zT,if_false];exact zb (yQ (ze ⟨p.2,rfl,h h' h1 h2⟩))
noncomputable def kZ(xs ys:List (κ × Addr × Value)):List (κ × Addr × Value):=ys.foldl (λz y=>storedH z y.1 y.2.1 y.2.2) xs
theorem QW{xs ys:List (κ × Addr × Value)}{i:Nat}{y:κ × Addr × Value}(e:ys[i]?=some y):kZ xs (ys.take (i+1))=storedH (kZ xs (ys.take i)) y.1 y.2.1 y.2.2:=by
 unfold kZ;rw[xE,e,List.foldl_append];rfl
theorem zj5(xs:List (κ × Addr × Value))(k:κ)(a:Addr)(v:Value):(storedH xs k a v).length<=xs.length+1:=by
 unfold storedH
 split
 ·simp
 ·simp
theorem Wx:∀(ys xs:List (κ × Addr × Value)),(kZ xs ys).length<=xs.length+ys.length
 |[],xs=>zj _
 |y::ys,xs=>by
  have h1:=Wx ys (storedH xs y.1 y.2.1 y.2.2);have h2:=zj5 xs y.1 y.2.1 y.2.2;have h3:kZ xs (y::ys)=kZ (storedH xs y.1 y.2.1 y.2.2) ys:=rfl;rw[h3,zP];lia
theorem zi4{xs:List (κ × Addr × Value)}{k:κ}(h:k ∉ xs.map (·.1)):atKey xs k=none:=
 atKey_none_of_get λj p e=>h (zo.mpr ⟨(k,p),zV e,rfl⟩)
theorem VB:∀(ys xs:List (κ × Addr × Value)),((xs++ys).map (·.1)).Nodup->kZ xs ys=xs++ys
 |[],xs,_=>by simp[kZ]
 | y :: ys, xs, J => by
  have h0:y.1 ∉ xs.map (·.1):=by
   rw[zS,yh] at J
   exact λm=>J.2.2 _ m _ (by simp) rfl
  have h3:kZ xs (y::ys)=kZ (storedH xs y.1 y.2.1 y.2.2) ys:=rfl
  rw[h3,storedH_new (zi4 h0),VB ys (xs++[(y.1,y.2.1,y.2.2)]) (by simpa using J)]
  simp
theorem VH{α:Type}(f:α->Int)(c:Int):∀(l:List α),(l.map f).Nodup->(l.filter λx=>f x == c).length<=1
 |[],_=>by simp
 | x :: l, h => by
  obtain⟨h1,h2⟩:=xM.mp h
  by_cases e:f x=c
  ·have z : (l.filter λx => f x == c) = [] := by
    rw[List.filter_eq_nil_iff];intro y J t;exact h1 (zo.mpr ⟨y,J,(eq_of_beq t).trans e.symm⟩)
   rw[xv (by simpa using e),z]
   simp
  ·rw [xy (by simpa using e)]
   exact VH f c l h2
variable {prog:Qq3}{w:Qqa}{knd:HeapKind prog w κ}{A:Around}{E:QqV}{s:Qq1}{d o a:Addr}{k:κ}{v:Value}{xs ys:List (κ × Addr × Value)}
theorem zj8(hu:knd.room A)(aa:knd.is s.heap k a)(hm:s.heap.DictOfH knd d xs)(hsz:xs.length<=sizeLine)
  (hQ:∀h',h'.DictOfH knd d (storedH xs k a v)->Heap.SameBut d s.heap h'->Q () { s with heap:=h' }):wpAny (model prog w) A (dictSetHashed d (.ref a) (knd.hash k) v) Q E s:=by
 obtain⟨ob,es,ep,ho,hc,J,W,Y,hn⟩:=hm;unfold dictSetHashed;refine xJ (zb (wpAny_dictFind_heap hu aa ho J W Y hn (λac=>?_) λj q hj=>?_))
 ·have e0 := storedH_new (atKey_none_of_get ac) a v
  have e1:es.size<=sizeLine:=by rw[size_of_entries W];exact hsz
  refine zb (ym (wpAny_updateDictKeys (hz:=e1) ho J (hQ _ ⟨_,_,ep+1,we _ ho (Obj.isFreed_of_dict (Obj.data_mapDictKeys J _)),hc.mapDictKeys _,Obj.data_mapDictKeys J _,?_,λx hx=>?_,?_⟩ (Heap.SameBut.update ..))))
  ·rw[e0];simp[W,entryOfKey]
  ·rw [e0] at hx
   rcases xk.mp hx with m |m
   ·exact knd.keeps (Y x m) ho J (Heap.SameBut.update ..)
   ·cases zE.mp m;exact knd.keeps aa ho J (Heap.SameBut.update ..)
  ·rw [e0, zS, yh]
   refine⟨hn,by simp,λx hx y hy=>?_⟩
   have hy':y=k:=by simpa using hy
   subst hy';exact λz=>not_mem_keys_of_get ac (z ▸ hx)
 ·have e0 := storedH_old (atKey_of_get hn hj) a v;refine zb (ym (zb (wpAny_updateDict ho J (wpAny_point (hQ _ ⟨_,_,ep,we _ ho (Obj.isFreed_of_dict (Obj.data_mapDict J _)),hc.mapDict _,Obj.data_mapDict J _,?_,λx hx=>?_,?_⟩ (Heap.SameBut.update ..))))))
  ·rw [e0];have t:=modify_map_putAt (entryOfKey knd) (λe:DictEntry=>{ e with val:=v }) k v (λ_ _=>rfl) hn hj;rw[<- W] at t;cases es
   simpa using t
  ·rw [e0] at hx;obtain⟨y,hy,rfl⟩:=zo.mp hx;unfold putAt
   split
   ·exact knd.keeps (Y y hy) ho J (Heap.SameBut.update ..)
   ·exact knd.keeps (Y y hy) ho J (Heap.SameBut.update ..)
  ·rw[e0,keys_map_putAt];exact hn
theorem zy6{ep:Nat}(ho:s.heap.get? o=some ob)(W:ob.data=.dict es ep)(J:es.toList=ys.map (entryOfKey knd))
  (Y:∀y∈ys,s.TypeIs (.ref y.2.1) "tuple") (hh:(ys.map λy=>knd.hash y.1).Nodup) (hQ:Q es s):wpAny (model prog w) A (Builtin.Dict.entriesForEmpty nm o) Q E s:=by
 unfold Builtin.Dict.entriesForEmpty;refine zb (wl ho W (zb ?_));rw[<- Array.forIn_toList];refine wpAny_forIn_list _ (λrest _ s'=>s'=s/\∃l,es.toList=l++rest) _ ?_ ?_ _ _ ⟨rfl,[],rfl⟩
 ·rintro e rest b s' ⟨rfl, l, el⟩
  have hm:e∈es.toList:=by rw[el];simp
  rw[J] at hm;obtain⟨y,hy,rfl⟩:=zo.mp hm
  have one:(es.filter (·.hash == (entryOfKey knd y).hash)).size<=1:=by
   have t:=VH (λe:DictEntry=>e.hash) (entryOfKey knd y).hash es.toList (by rw[J,zK];exact hh)
   rw[<- zm,Array.toList_filter];exact t
  show wpAny _ _ (Builtin.Dict.quietEq (.ref y.2.1) >>= _) _ _ _;refine zb ?_;unfold Builtin.Dict.quietEq;refine zb (wpAny_specialOf (Y y hy) PySem.F.slot_tuple_eq.lookup (ze ?_))
  rw[if_pos q9,if_neg q5]
  exact ze ⟨rfl,l++[entryOfKey knd y],by rw[el];simp⟩
 ·rintro b s' ⟨rfl,_⟩;exact ze hQ
theorem zl6(hu:knd.room A)(ad:d≠o)(ar:(o == sysModules)=false)(hd:s.heap.DictOfH knd d xs)(ho:s.heap.DictOfH knd o ys)
  (ao:∀y∈ys,s.TypeIs (.ref y.2.1) "tuple") (hh:xs=[]->(ys.map λy=>knd.hash y.1).Nodup) (hsz:xs.length+ys.length<=sizeLine)
  (hQ:∀h',h'.DictOfH knd d (kZ xs ys)->Heap.SameBut d s.heap h'->Q () { s with heap:=h' }):wpAny (model prog w) A (Builtin.Dict.mergeDict nm d o) Q E s:=by
 obtain⟨od,aE,aA,Y,az,J,ax,aC,aB⟩:=id hd;obtain⟨oo,ae,aF,W,aD,hdo',aa,am,ah⟩:=id ho;have ac:ae.size=ys.length:=size_of_entries aa;have walk:∀(i:Nat) (h':Heap),i<=ys.length->h'.DictOfH knd d (kZ xs (ys.take i))->Heap.SameBut d s.heap h'->h'.get? o=some oo:=λi h' _ _ sb=>(sb.2 o (Ne.symm ad)).trans W;unfold Builtin.Dict.mergeDict
 rw[if_neg (by simpa using ad)]
 unfold Builtin.Dict.showsAll
 rw[if_neg (by rw[ar];exact xl)]
 refine zb (ze (zb (wl W hdo' ?_)));dsimp only
 split
 case' isTrue=>
  refine zb (wl Y J ?_)
  split
  case isTrue hemp=>
   have hx:xs=[]:=by
    have e0:=size_of_entries ax;rw[Array.isEmpty_iff.mp hemp] at e0;exact xo.mp e0.symm
   refine zb (zy6 W hdo' aa ao (hh hx) ?_)
   rw[hx,VB ys [] (by simpa using ah)] at hQ
   split
   ·have hz : ae.size <= sizeLine + 1 := by lia
    refine zb (wpAny_updateDictKeysTo Y J (ze (hQ _ ⟨_,_,aA+1,we _ Y (Obj.isFreed_of_dict (Obj.data_mapDictKeys J _)),az.mapDictKeys _,Obj.data_mapDictKeys J _,by simpa using aa,λx hm=>?_,by simpa using ah⟩ (Heap.SameBut.update ..))) hz)
    exact knd.keeps (am x (by simpa using hm)) Y J (Heap.SameBut.update ..)
   ·rename_i av
    have h0:ae=#[]:=Array.isEmpty_iff.mp (by simpa using av)
    have hy:ys=[]:=xo.mp (by rw[<- ac,h0];rfl)
    rw[hy] at hQ;rw[hx] at hd;exact ze (hQ _ hd (Heap.SameBut.refl _ _))
 all_goals
  refine zb (wpAny_dictEpoch W hdo' (zb (wl W hdo' (zb ?_))));rw[Std.Legacy.Range.forIn_eq_forIn_range'];simp only[Std.Legacy.Range.size,Nat.sub_zero,Nat.add_sub_cancel,Nat.div_one]
  refine wpAny_forIn_list _ (λrest _ s'=>∃h' i,s'={ s with heap:=h' }/\rest=List.range' i (ys.length-i)/\i<=ys.length/\h'.DictOfH knd d (kZ xs (ys.take i))/\Heap.SameBut d s.heap h') _ ?_ ?_ _ _ ⟨s.heap,0,rfl,by rw[ac];rfl,wq _,by simpa [kZ] using hd,Heap.SameBut.refl _ _⟩
  ·rintro x rest b s' ⟨h', i, rfl, hr, hi, hd', hs'⟩
   have aj:i<ys.length:=by
    rcases Nat.lt_or_ge i ys.length with h |h
    ·exact h
    ·rw[Nat.sub_eq_zero_of_le h] at hr;exact nomatch hr
   have e0:ys.length-i=(ys.length-(i+1))+1:=q5
   rw[e0,List.range'_succ] at hr;injection hr with aq ap;subst aq ap;have hoo':=walk x h' hi hd' hs';obtain⟨y,hy⟩:∃y,ys[x]?=some y:=⟨ys[x],zd aj⟩;refine zb (wl hoo' hdo' ?_);rw[entry_at aa x,hy];have ai:y∈ys:=zV hy;have ak:knd.is h' y.1 y.2.1:=knd.keeps (am y ai) Y J hs'
   have hm:(kZ xs (ys.take x)).length<=sizeLine:=by
    have q:=Wx (ys.take x) xs;rw[xr] at q;lia
   refine zb (xJ (zj8 (s:={ s with heap:=h' }) hu ak hd' hm λh2 ay af=>?_));have ag:h2.get? o=some oo:=(af.2 o (Ne.symm ad)).trans hoo';refine zb (wpAny_dictEpoch (s:={ s with heap:=h2 }) ag hdo' ?_)
   rw[if_neg (by simp)]
   exact ze ⟨h2,x+1,rfl,rfl,aj,by rw[QW hy];exact ay,hs'.trans af⟩
  ·rintro b s' ⟨h', i, rfl, hr, hi, hd', hs'⟩
   have aw:i=ys.length:=by
    rcases Nat.lt_or_ge i ys.length with h |h
    ·rw[show ys.length-i=(ys.length-(i+1))+1 by lia,List.range'_succ] at hr;exact nomatch hr
    ·exact Nat.le_antisymm hi h
   subst aw;rw[wW] at hd';exact ze (hQ h' hd' hs')
theorem zT4(hu:knd.room A.in1)(Y:d≠o)(W:(o == sysModules)=false)(hd:s.heap.DictOfH knd d xs)(ho:s.heap.DictOfH knd o ys)
  (J:∀y∈ys,s.TypeIs (.ref y.2.1) "tuple") (hh:xs=[]->(ys.map λy=>knd.hash y.1).Nodup) (hsz:xs.length+ys.length<=sizeLine)
  (hQ:∀h',h'.DictOfH knd d (kZ xs ys)->Heap.SameBut d s.heap h'->Q .none { s with heap:=h' }):wpAny (model prog w) A (call (.builtin "dict.update") [.ref d,.ref o]) Q E s:=by
 refine call_meetsIn PySem.F.slot_dict_update hd.typeIs PySem.F.entry_dict_update (PySem.F.args_dict_update_2 _ _) (S:=λB R s'=>s'=s/\B=A/\∀h',h'.DictOfH knd d (kZ xs ys)->Heap.SameBut d s.heap h'->R (.ok (.ret .none)) { s with heap:=h' }) (.of_wp ?_) ⟨rfl,rfl,λh' h1 h2=>hQ h' h1 h2⟩;rintro B R s' ⟨rfl,rfl,h⟩;unfold Builtin.«dict.update» Builtin.Dict.selfAndRest;refine zb (zb (wpAny_notOrdered_dict hd.typeIs ?_));show wpAny _ _ (pure (d,[Value.ref o])) _ _ s';refine ze ?_;show wpAny _ _ (Builtin.Dict.updateFrom "dict.update" d (.ref o) [] .none) _ _ s';unfold Builtin.Dict.updateFrom;refine zb (wpAny_typeOf ho.typeIs ?_)
 rw[if_neg q9]
 refine zb ?_;unfold Builtin.Dict.merge;refine zb ?_;unfold Builtin.Dict.readDirectly;refine zb (wpAny_isInstance ho.typeIs isSubtype_dict_dict ?_);simp only[Bool.not_true,zT,if_false];refine zb (wpAny_specialOf ho.typeIs F.slot_dict_iter.lookup (ze ?_));simp only[beq_self_eq_true,if_true];refine zb (ze (zl6 hu Y W hd ho J hh hsz λh' h1 h2=>?_));show wpAny _ _ (Builtin.Dict.addKeywords d [] >>= _) _ _ _;exact zb (ze (ze ⟨.none,rfl,h h' h1 h2⟩))
end
def KT.drop(r:KT H kvs xs)(k:List Key):KT H (Vo kvs k) (WK xs k):=by
 induction r with
 |nil=>exact .nil
 | @cons p q ps qs J t W =>
  by_cases e:p.1=k
  ·have e' : q.1 = k := J.1 ▸ e;unfold Vo WK
   rw[xy (by simpa using e),xy (by simpa using e')]
   exact W
  ·have e' : ¬ q.1 = k := J.1 ▸ e;unfold Vo WK
   rw[xv (by simpa using e),xv (by simpa using e')]
   exact .cons J W
def zS1(z:kvs.length<=sizeLine)(hd:(a == sysModules)=false)(J:KT H' kvs xs)(W:h'.DictOfH (tupleKind (vg P w)) a xs) :
  ObjOk P w H' h' a (.dT kvs):=let ⟨o,es,ep,h1,h2,h3,h4,_,h5⟩:=W;⟨z,hd,xs,J,o,es,ep,h1,h2,h3,h4,h5⟩
section
variable {X:Cx}{pins:QqL}{σ:St}{H:Hp}{s:Qq1}{a b:Addr}{A:Around}{E:QqV}{kvs more:List (List Key × V)}{k:List Key}{v:V}
def KT.over(e:H a=some (.dT kvs))(r:KT H l xs):KT (upd H a ob) l xs:=
 r.keeps λc ys q=>by rw[ww (λz=>by rw[z,e] at q;cases q)];exact q
def zR1(I:Inv X pins σ H s)(h:SqT X.K H b (k.map kV)):(tupleKind (vg X.prog X.w)).is s.heap k b:=by
 obtain⟨its,r,⟨o,h1,h2,n,h3⟩,_⟩:=I.tuple h
 exact⟨o,its.toArray,n,h1,h2,h3,by simpa using WE r⟩
def xn2(hu:A.units+1<cLine)(I:Inv X pins σ H s)(e:H a=some (.dT kvs))(eb:SqT X.K H b (k.map kV))(l:Xq kvs k=some v)
  (h:∀w' s',Inv X pins σ (upd H a (.dT (Vo kvs k))) s'->RelV v w'->Q w' s'):wpAny (model X.prog X.w) A (call (.builtin "dict.pop") [.ref a,.ref b]) Q E s:=by
 obtain⟨z,hd,xs,J,dd⟩:=zm5 I.hok e
 obtain⟨w',W,rw'⟩:=RelO.some_of (v:=v) (o:=(atKey xs k).map (·.2)) (by rw[<- l];exact J.val k)
 obtain⟨p,hp,rfl⟩:=Option.map_eq_some_iff.mp W
 refine xO6 (tupleKind_room_in1 hu) (zR1 I eb) dd hp (by rw[<- J.length];exact z) λh' t' d' hs=>h _ _ ?_ rw'
 have he:∃q,h'.get? a=some q:=let ⟨q,_,_,Y,_⟩:=d';⟨q,Y⟩
 exact zz6 I (by rw[e];exact True.intro) hs he (zS1 (zG (yM _ _) z) hd ((J.drop k).over e) d')
def KT.mem(r:KT H l xs):∀x∈xs,∃ks,H x.2.1=some (.tup ks):=by
 induction r with
 |nil=>intro x hx;cases hx
 |@cons p q ps qs W t J=>
  intro x hx
  rcases zn.mp hx with e |hx
  ·subst e;exact⟨_,W.2.1⟩
  ·exact J x hx
noncomputable def Xz(kvs more:List (List Key × V)):List (List Key × V):=more.foldl (λacc J=>zn7 acc J.1 J.2) kvs
def KT.merge(r:KT H more ys):∀{kvs:List (List Key × V)}{xs:List (List Key × Addr × Value)},KT H kvs xs->KT H (Xz kvs more) (kZ xs ys):=by
 induction r with
 |nil=>exact λq=>q
 |@cons p q ps qs W t J=>
  intro kvs xs r';obtain⟨k,v⟩:=p;obtain⟨k',b,u⟩:=q;obtain⟨rfl,h2,h3⟩:=W;exact J (r'.put k h2 h3)
def KT.keys(r:KT H l xs):l.map (·.1)=xs.map (·.1):=by
 induction r with
 |nil=>rfl
 |@cons p q ps qs W t J=>rw[zN,zN,J,W.1]
def zz2(hu:A.units+1<cLine)(I:Inv X pins σ H s)(e:H a=some (.dT kvs))(eb:H b=some (.dT more))(ac:a≠b)(hz:kvs.length+more.length<=sizeLine)
  (hh:kvs=[]->(more.map λY=>(tupleKind (vg X.prog X.w)).hash Y.1).Nodup) (h:∀s',Inv X pins σ (upd H a (.dT (Xz kvs more))) s'->Q .none s'):wpAny (model X.prog X.w) A (call (.builtin "dict.update") [.ref a,.ref b]) Q E s:=by
 obtain⟨z,hd,xs,W,dd⟩:=zm5 I.hok e;obtain⟨z2,aa,ys,J,ad⟩:=zm5 I.hok eb
 refine zT4 (tupleKind_room_in1 hu) ac aa dd ad (λy hy=>?_) (λq=>?_) (by rw[<- W.length,<- J.length];exact hz) λh' d' hs=>h _ ?_
 ·obtain⟨ks,hk⟩:=J.mem y hy;obtain⟨_,its,_,o,h1,h2,_⟩:=(show ObjOk X.prog X.w H s.heap y.2.1 (.tup ks) from I.hok _ _ hk);exact⟨o,h1,h2⟩
 ·have e0 : kvs = [] := xo.mp (by rw [W.length, q]; rfl)
  have t:=hh e0
  have k1:(more.map λY=>(tupleKind (vg X.prog X.w)).hash Y.1)=(more.map (·.1)).map (tupleKind (vg X.prog X.w)).hash:=by simp
  have k2:(ys.map λY=>(tupleKind (vg X.prog X.w)).hash Y.1)=(ys.map (·.1)).map (tupleKind (vg X.prog X.w)).hash:=by simp
  rw[k1,J.keys,<- k2] at t;exact t
 ·have he : ∃ q, h'.get? a = some q := let ⟨q, _, _, hq, _⟩ := d'; ⟨q, hq⟩
  have r3:=J.merge W
  refine zz6 I (by rw[e];exact True.intro) hs he (zS1 ?_ hd (r3.over e) d')
  rw[r3.length];have q:=Wx ys xs;rw[<- W.length,<- J.length] at q;lia
def xe6(K:Qq5)(td ty:TE):TE:=λσ H Q=>td σ H λx H1=>∃a,x=.ref a/\IsD H1 a/\ty σ H1 λy H2=>∃kvs k b v,H2 a=some (.dT kvs)/\y=.ref b/\SqT K H2 b (k.map kV)/\Xq kvs k=some v/\Q v (upd H2 a (.dT (Vo kvs k)))
def zH8(hu:X.A.units+1<cLine)(ho:PE X o td)(he:PE X e ty)(m:M1 X o "pop" apos e cpos):PE X (.Call (.Attribute o "pop" apos) [e] [] cpos) (xe6 X.K td ty):=by
 intro pins s σ H Q I h;refine wpAny_Call_method m.base m.few m.line PySem.F.plainAttrs_dict PySem.F.slot_dict_pop PySem.F.type_dict_pop (thn (ho pins s σ H _ I h) λu s1 ⟨x,H1,J,Y,a,ex,d,q1⟩=>?_);subst ex;cases(show u=Value.ref a from Y);obtain⟨t1,t2,_⟩:=zx4 J d;refine⟨t1,t2,?_⟩;rw[m.trees];refine Calls.callWith_builtin rfl (Calls.evalArgs_plain (Calls.spliced_cons (thn (he pins s1 σ H1 _ J q1) λiv s2 ⟨y,H2,I2,W,kvs,k,b,v,ea,ey,sq,l,q2⟩=>Calls.spliced_nil ?_)));subst ey;cases(show iv=Value.ref b from W);exact xn2 hu I2 ea sq l λw' s3 I3 rw'=>⟨v,_,I3,rw',q2⟩
def xe5(P:Qq3)(w:Qqa)(td ty:TE):TE:=λσ H Q=>td σ H λx H1=>∃a,x=.ref a/\IsD H1 a/\ty σ H1 λy H2=>∃kvs more b,H2 a=some (.dT kvs)/\y=.ref b/\a≠b/\H2 b=some (.dT more)/\kvs.length+more.length<=sizeLine /\
 (kvs=[]->(more.map λJ=>(tupleKind (vg P w)).hash J.1).Nodup)/\Q .non (upd H2 a (.dT (Xz kvs more)))
def zH7(hu:X.A.units+1<cLine)(ho:PE X o td)(he:PE X e ty)(m:M1 X o "update" apos e cpos):PE X (.Call (.Attribute o "update" apos) [e] [] cpos) (xe5 X.prog X.w td ty):=by
 intro pins s σ H Q I h;refine wpAny_Call_method m.base m.few m.line PySem.F.plainAttrs_dict PySem.F.slot_dict_update PySem.F.type_dict_update (thn (ho pins s σ H _ I h) λu s1 ⟨x,H1,W,rx,a,ex,d,q1⟩=>?_);subst ex;cases(show u=Value.ref a from rx);obtain⟨t1,t2,_⟩:=zx4 W d;refine⟨t1,t2,?_⟩;rw[m.trees];refine Calls.callWith_builtin rfl (Calls.evalArgs_plain (Calls.spliced_cons (thn (he pins s1 σ H1 _ W q1) λiv s2 ⟨y,H2,I2,Y,kvs,more,b,ea,ey,J,eb,hz,hh,q2⟩=>Calls.spliced_nil ?_)));subst ey;cases(show iv=Value.ref b from Y);exact zz2 hu I2 ea eb J hz hh λs3 I3=>⟨.non,_,I3,rfl,q2⟩
end
noncomputable def atP{α:Type}:List (Int × Int)->List α->Int × Int->Option α
 |k::ks,e::es,x=>if k=x then some e else atP ks es x
 |_,_,_=>none
def XJ(ks:List (Int × Int))(x:QqP):List (Int × Int):=ks.filter λk=>decide (k≠x)
noncomputable def dropE{α:Type}:List (Int × Int)->List α->Int × Int->List α
 |k::ks,e::es,x=>if k=x then dropE ks es x else e::dropE ks es x
 |_,_,_=>[]
def zg3(h:kP x=kP y):x=y:=by
 obtain⟨a,b⟩:=x;obtain⟨c,d⟩:=y;unfold kP at h;injection h with h1 h2;injection h2 with h2 _;injection h1 with h1;injection h2 with h2;simp only at h1 h2;rw[h1,h2]
theorem zb4:∀(ks:List (Int × Int)) (xs:List V) (x:QqP),Xq (qZ ks xs) (kP x)=atP ks xs x
 |[],_,_=>by simp[qZ,Xq,atP]
 |_::_,[],_=>by simp[qZ,Xq,atP]
 |k::ks,y::xs,x=>by
  have J:=zb4 ks xs x
  by_cases e:k=x
  ·subst e;simp[qZ,Xq,atP]
  ·have e':¬ kP k=kP x:=λz=>e (zg3 z);simp only[qZ,xY,Xq,wQ,xn e',atP,if_neg e];exact J
theorem JF:∀(ks:List (Int × Int)) (xs:List V) (x:QqP),Vo (qZ ks xs) (kP x)=qZ (XJ ks x) (dropE ks xs x)
 |[],_,_=>by simp[qZ,Vo,XJ]
 |_::_,[],_=>by simp[qZ,Vo,dropE]
 | k :: ks, y :: xs, x => by
  have J:=JF ks xs x
  by_cases e:k=x
  ·have e' : kP k = kP x := congrArg kP e;simp only[qZ,xY,Vo,XJ,dropE,if_pos e]
   rw[xy (by simpa using e'),xy (by simpa using e)]
   exact J
  ·have e' : ¬ kP k = kP x := λz => e (zg3 z);simp only[qZ,xY,Vo,XJ,dropE,if_neg e]
   rw[xv (by simpa using e'),xv (by simpa using e),xY]
   exact congrArg _ J
theorem JI{α:Type}:∀(ks:List (Int × Int)) (xs:List α) (x:QqP),ks.length=xs.length->(XJ ks x).length=(dropE ks xs x).length
  |[],[],_,_=>rfl
  | k :: ks, y :: xs, x, h => by
    have J:=JI ks xs x (by simpa using h)
    by_cases e:k=x
    · simp only [XJ, dropE, if_pos e]
      rw[xy (by simpa using e)]
      exact J
    · simp only [XJ, dropE, if_neg e]
      rw[xv (by simpa using e),zP,zP]
      exact congrArg (·+1) J
section
variable {K:Qq5}{G:QqE}{Z:QqA}{H:Hp}
theorem Reps.dropE:∀{ks:List (Int × Int)}{es:List D}{xs:List V} (x:QqP),Reps K G Z H es xs->Reps K G Z H (L2.dropE ks es x) (L2.dropE ks xs x)
 |[],es,xs,x,h=>by
  cases es<;>cases xs<;>exact .nil
 |k::ks,[],xs,x,h=>by rw[h.nil_inv];exact .nil
 |k::ks,e::es,xs,x,h=>by
  obtain⟨v,r,rfl,q,t⟩:=h.split;have J:=Reps.dropE (ks:=ks) x t
  by_cases c:k=x
  ·simp only[L2.dropE,if_pos c];exact J
  ·simp only[L2.dropE,if_neg c];exact .cons q J
theorem Reps.atP:∀{ks:List (Int × Int)}{es:List D}{xs:List V}{x:QqP}{d:D},Reps K G Z H es xs->L2.atP ks es x=some d->∃v,L2.atP ks xs x=some v/\Rep K G Z H d v
 |[],es,xs,x,d,_,e=>by simp[L2.atP] at e
 |k::ks,[],xs,x,d,_,e=>by simp[L2.atP] at e
 |k::ks,c::es,xs,x,d,h,e=>by
  obtain⟨v,r,rfl,q,t⟩:=h.split
  by_cases z:k=x
  ·simp only[L2.atP,if_pos z] at e ⊢;cases e;exact⟨v,rfl,q⟩
  ·simp only[L2.atP,if_neg z] at e ⊢;exact Reps.atP t e
end
section
variable {A:AC}{os:List (Nat × Addr)}{n:Nat}{rho:Rho}{sg:St}{H:Hp}{ds es:List D}{vs:List V}{i:Nat}{ks:List (Int × Int)}
def AmO.ownT(I:AmO A os n rho sg H ds vs)(hi:rho[i]?=some (some (.owT ks es))) :
  ∃a xs,sg[i]?=some (some (.ref a))/\H a=some (.dT (qZ ks xs))/\ks.length=xs.length/\Reps A.K A.G (Zof A os) H es xs /\
   ∀ks' es' xs',ks'.length=xs'.length->Reps A.K A.G (Zof A os) H es' xs'->AmO A os n (rho.set i (some (.owT ks' es'))) sg (upd H a (.dT (qZ ks' xs'))) ds vs:=by
 obtain⟨v,J,a,xs,rfl,Y,hH,hl,rs⟩:=I.slot i _ hi;have aa:i<rho.length:=(zu.mp hi).1;have za:Zof A os a:=.inr ⟨_,Y,rfl⟩
 have hf:∀(o:HO) b u,¬ Zof A os b->H b=some u->upd H a o b=some u:=λo b u nz e=>by
  rw[ww λz=>nz (by rw[z];exact za)];exact e
 have uniq:∀j,(j,a)∈os->j=i:=λj hj=>by
  by_cases W:j=i
  ·exact W
  ·have key : ∀ (l : List (Nat × Addr)), l.Pairwise (λp q => p.1 ≠ q.1 /\ p.2 ≠ q.2) -> (j, a) ∈ l -> (i, a) ∈ l -> False := by
    intro l
    induction l with
    |nil=>intro _ h;simp at h
    |cons c l ih=>
     intro hp h1 h2;obtain⟨p1,p2⟩:=wB.mp hp
     rcases zn.mp h1 with J |h1<;>rcases zn.mp h2 with e2 |h2
     ·rw[<- e2] at J;exact W (Prod.mk.inj J).1
     ·exact(p1 _ h2).2 (by rw[<- J])
     ·exact(p1 _ h1).2 (by rw[<- e2])
     ·exact ih p2 h1 h2
   exact(key os I.nd hj Y).elim
 obtain⟨ad,ac,ae⟩:=I.fresh _ Y
 refine⟨a,xs,J,hH,hl,rs,λks' es' xs' hl' r=>⟨by simp[I.len],λj c e=>?_,Reps.mono (λ_ _ z=>z) (hf _) _ _ I.pend,I.nd,λq hq=>?_,λb e=>?_,I.gz,λb u h e=>?_,I.z0⟩⟩
 ·by_cases hj : j = i
  ·subst hj;rw[xg aa] at e;cases e;exact⟨.ref a,J,a,xs',rfl,Y,yx,hl',Reps.mono (λ_ _ z=>z) (hf _) _ _ r⟩
  ·rw [xq (Ne.symm hj)] at e;obtain⟨u,e2,e3⟩:=I.slot j c e
   exact⟨u,e2,SlotR.mono (λ_ _ z=>z) (hf _) (λb ys m q=>⟨m,by rw[ww λz=>hj (uniq j (by rw[<- z];exact m))];exact q⟩) _ _ e3⟩
 ·obtain ⟨f1, f2, f3⟩ := I.fresh q hq;refine⟨f1,f2,?_⟩
  by_cases e:q.2=a
  ·rw[e,yx];exact Hot.dT
  ·rw[ww e];exact f3
 ·obtain ⟨x, y, z, q, rr⟩ := I.st b e
  exact⟨x,y,z,by rw[ww λw=>ac (by rw[<- w];exact I.gz b e)];exact q,rr⟩
 ·rw [ww λw => by rw [w, ad] at e; cases e]
  exact I.fr b u h e
end
theorem zg0:∀{ks:List (Int × Int)}{xs ys:List V},ks.length=xs.length->ks.length=ys.length->qZ ks xs=qZ ks ys->xs=ys
 |[],[],[],_,_,_=>rfl
 |k::ks,x::xs,y::ys,h1,h2,h=>by
  simp only[qZ,xY] at h;injection h with h3 h4;injection h3 with _ h3
  rw[h3,zg0 (by simpa using h1) (by simpa using h2) h4]
section
variable {A:AC}{X:Cx}{e:Expr}{te:TD}{pos:Pos}
def QI{K:Qq5}{G:QqE}{Z:QqA}{H:Hp}{v:V}{k:QqP}(r:Rep K G Z H (.tup [.int k.1,.int k.2]) v):∃b,v=.ref b/\SqT K H b ((kP k).map kV):=by
 obtain⟨b,ys,rfl,sq,rs⟩:=r.tup_inv;obtain⟨u1,u2,rfl,Y,J⟩:=KH rs;rw[Y.int_inv,J.int_inv] at sq;exact⟨b,rfl,sq.sq⟩
def zU4(i:Nat)(te:TD)(g:TGD):TSD:=λF rho n=>∃ks es,rho[i]?=some (some (.owT ks es))/\te rho n λd J=>∃(k:QqP) (c:D),d=.tup [.int k.1,.int k.2]/\atP ks es k=some c /\
 g c (rho.set i (some (.owT (XJ ks k) (dropE ks es k)))) λrho'=>F.nx rho' J
@[simp] theorem xw0{i te g F rho n}:zU4 i te g F rho n=∃ks es,rho[i]?=some (some (.owT ks es))/\te rho n λd J=>∃(k:QqP) (c:D),d=.tup [.int k.1,.int k.2]/\atP ks es k=some c /\
 g c (rho.set i (some (.owT (XJ ks k) (dropE ks es k)))) λrho'=>F.nx rho' J:=rfl
def zH1{i m l:Nat}{x:Str}{tg:Expr}{g:TGD}{px apos cpos:Pos}(hr:Room l X.A)(hK:X.K=A.K)(he:PD A X e te)(hg:PGD A X m tg g)(hN:X.N[i]?=some x:=by rfl)(hv:Vis X.env.scope x:=by first |exact Or.inl rfl |exact Or.inr (Or.inl rfl) |exact Or.inr (Or.inr rfl))(hd:(x == ("__debug__" : Str))=false:=by decide)
  (ad:(x == ("__classdict__" : Str))=false:=by decide) (mm:M1 X (.Name x px) "pop" apos e cpos:=by exact⟨rfl,rfl,rfl,rfl⟩)
  (hs:swapsWithSole [tg] (.Call (.Attribute (.Name x px) "pop" apos) [e] [] cpos) pos.line X.env=pure false:=by rfl) (hw:swappedStores [tg] (.Call (.Attribute (.Name x px) "pop" apos) [e] [] cpos) X.env=pure none:=by rfl)
  (h1:(assignEach [tg] X.env).map (·.2)=[assign tg X.env]:=by rfl):PSD A X (.Assign [tg] (.Call (.Attribute (.Name x px) "pop" apos) [e] [] cpos) pos) (zU4 i te g):=by
 exists (ze4 (zH8 (by have:=hr.un;lia) (jH hN hv hd ad) he mm) hg hs hw h1).imp λE sg H h=>by
   obtain⟨rho,n,F,ds,vs,⟨os,I⟩,⟨ks,es,hi,ht⟩,ok⟩:=h;obtain⟨a,xs,e1,hH,hl,rs,_⟩:=I.ownT hi;refine⟨.ref a,e1,a,rfl,.inr ⟨_,.inl hH⟩,rho,n,_,ds,vs,⟨os,I⟩,ht,λv H' n' d ⟨os',J⟩ k=>?_⟩;obtain⟨k,c,rfl,hc,k2⟩:=k;obtain⟨J1,r⟩:=J.pop;obtain⟨a',xs',e2,hH',hl',rs',_⟩:=J1.ownT hi;rw[e1] at e2;cases e2;obtain⟨b,rfl,sq⟩:=QI r;obtain⟨w,hw',rw'⟩:=rs'.atP hc
   refine⟨qZ ks xs',kP k,b,w,hH',rfl,by rw[hK];exact sq,by rw[zb4];exact hw',?_⟩
   obtain⟨a3,Y,e3,W,ac,aa,up⟩:=(J1.push rw').ownT hi;rw[e1] at e3;cases e3;rw[hH'] at W
   have hx:xs'=Y:=zg0 hl' ac (by injection W with z;injection z)
   subst hx;rw[JF];exact⟨_,n',_,c,ds,vs,⟨os',up _ _ _ (JI _ _ _ hl') (aa.dropE k)⟩,k2,λrho' sg' J' _ k'=>ok.nx _ _ _ _ J' k'⟩
end
section
variable {prog:Qq3}{w:Qqa}{A:Around}{E:QqV}{s:Qq1}{it d:Addr}{i ep:Nat}{od:Obj}{es:Array DictEntry}
def zQ3:Builtin.Dict_items.ownsTuple "dict_keyiterator" = false:=q9
def zl0(J:s.heap.IsKeyIter it d i es.size ep)(W:s.heap.get? d=some od)(aa:od.data=.dict es ep)(hi:i<es.size)
  (hQ:∀h',h'.IsKeyIter it d (i+1) es.size ep->Heap.SameBut it s.heap h'->Q (some es[i].key) { s with heap:=h' }):wpAny (model prog w) A (pyNext (.ref it)) Q E s:=by
 obtain⟨o,ho,hc,Y⟩:=id J
 have up:(s.heap.update it (Obj.mapFields (·.setIfInBounds 1 (rawInt ((i:Int)+1))))).IsKeyIter it d (i+1) es.size ep:=⟨_,we _ ho (Obj.isFreed_of_fields (Obj.data_mapFields Y _)),(Obj.cls_mapFields ..).trans hc,by rw[Obj.data_mapFields Y];simp[rawInt]⟩
 unfold pyNext;refine zb (wpAny_attempt (xR (name:=Str.ofString "__next__") J.typeIs F.slot_dict_keyiterator_next (wG F.slot_dict_keyiterator_next J.typeIs F.entry_dict_keyiterator_next (zb (ze (zb (zb ?_)))) (F.args_dict_keyiterator_next_1 _))))
 first |refine zb (yq J.typeIs (ze (zb (wpAny_fieldsOf ho Y ?_)))) |refine zb (yW J.typeIs (ze (zb (wpAny_fieldsOf ho Y ?_))))
 simp only[zQ3,zT,if_false]
 show wpAny _ _ (if (Value.ref d == Value.none)=true then _ else _) _ _ s
 rw[if_neg (show ¬ ((Value.ref d == Value.none)=true) from λz=>xl z)];refine zb (ze (zb (wl W aa ?_)))
 rw[if_neg (by simp)];refine zb (ze (zb (wpAny_dictEpoch W aa ?_)))
 rw[if_neg (by simp)];refine ze ?_
 simp only[show ¬ ((i:Int)<0) by lia,if_false,yA,xz hi]
 refine zb ?_
 first |refine zb (yq J.typeIs (ze (zb (wpAny_isOneOf_keyiter J.typeIs ?_)))) |refine zb (yW J.typeIs (ze (zb (wpAny_isOneOf_keyiter J.typeIs ?_))))
 show wpAny _ _ (setField (.ref it) 1 (rawInt ((i:Int)+1)) >>= _) _ _ s
 refine zb (wpAny_setField ho Y (by simp) (zb (xJ (zb (wpAny_isOneOf_keyiter (s:={ s with heap:=s.heap.update it (Obj.mapFields (·.setIfInBounds 1 (rawInt ((i:Int)+1)))) }) up.typeIs ?_)))))
 exact ze (ze ⟨_,rfl,ze (hQ _ up (Heap.SameBut.update ..))⟩)
def zu9(hh:A.handled=none)(J:s.heap.IsKeyIter it d es.size es.size ep)(W:s.heap.get? d=some od)(Y:od.data=.dict es ep)
  (hQ:∀h',Heap.ExtBut it s.heap h'->Q none { s with heap:=h' }):wpAny (model prog w) A (pyNext (.ref it)) Q E s:=by
 obtain⟨o,ho,hc,hf⟩:=id J;unfold pyNext;refine zb (wpAny_attempt (xR (name:=Str.ofString "__next__") J.typeIs F.slot_dict_keyiterator_next (wG F.slot_dict_keyiterator_next J.typeIs F.entry_dict_keyiterator_next (zb (ze (zb (zb ?_)))) (F.args_dict_keyiterator_next_1 _))))
 first |refine zb (yq J.typeIs (ze (zb (wpAny_fieldsOf ho hf ?_)))) |refine zb (yW J.typeIs (ze (zb (wpAny_fieldsOf ho hf ?_))))
 simp only[zQ3,zT,if_false]
 show wpAny _ _ (if (Value.ref d == Value.none)=true then _ else _) _ _ s
 rw[if_neg (show ¬ ((Value.ref d == Value.none)=true) from λz=>xl z)];refine zb (ze (zb (wl W Y ?_)))
 rw[if_neg (by simp)];refine zb (ze (zb (wpAny_dictEpoch W Y ?_)))
 rw[if_neg (by simp)];refine ze ?_
 simp only[show ¬ ((es.size:Int)<0) by lia,if_false,yA,wa (zj es.size)]
 refine zb ?_
 first |refine zb (yq J.typeIs (ze ?_)) |refine zb (yW J.typeIs (ze ?_))
 show wpAny _ _ (setField (.ref it) 0 .none >>= _) _ _ s
 refine zb (wpAny_setField ho hf (by simp) ?_)
 show wpAny _ _ (newExc (.type "StopIteration") [] >>= _) _ _ _;simp only[newExc,newTuple]
 refine zb (zb (xD (zb (m:=firstArgMember _ _) (wpAny_of_eq (a:=Value.none) (by first |rfl |(simp only[firstArgMember];rfl)) (xD ?_ (by size_fits)))) (by size_fits)))
 simp only[raiseNew];refine zb (wpAny_handled ?_);rw[show A.in1.handled=none from hh];refine zb (ze (wpAny_throw ?_));exact zb (wpAny_isInstance (T := "StopIteration") (b:=true) ⟨_,zr _ rfl,rfl⟩ isSubtype_stop (ze (hQ _ (((Heap.SameBut.update ..).extBut.push _).push _))))
end
def EntAt(h:Heap)(d:Addr)(es:Array DictEntry)(ep:Nat):Prop:=∃o,h.get? d=some o/\o.ExactDict/\o.data=.dict es ep
section
variable {prog:Qq3}{w:Qqa}{A:Around}{E:QqV}{s:Qq1}{d:Addr}{ep:Nat}{es:Array DictEntry}
def EntAt.at(x:EntAt h d es ep)(hk:∀o,h.get? d=some o->h'.get? d=some o):EntAt h' d es ep:=let ⟨o,ho,r⟩:=x;⟨o,hk o ho,r⟩
def EntAt.typeIs(x:EntAt s.heap d es ep):s.TypeIs (.ref d) "dict" := let ⟨o,ho,J,_⟩:=x;⟨o,ho,J.1⟩
def xd6(hh:A.handled=none)(I d:Addr)(Y:d≠I)(es:Array DictEntry)(ep:Nat) :
  Walks prog w A I [I,d] [I] es.size (λi v=>∃x,es[i]?=some x/\v=x.key) (λi h=>h.IsKeyIter I d i es.size ep/\EntAt h d es ep) where
 sub:=λb J=>by simp at J;simp[J]
 frame:=λ_ _ _ st hk=>⟨st.1.at λo e=>hk I (by simp) o e,st.2.at λo e=>hk d (by simp) o e⟩
 item:=λi s Q E hi st W=>by
  obtain⟨o,ho,hc,hd⟩:=id st.2
  exact zl0 st.1 ho hd hi λh' hit' hs'=>W _ h' s.toks ⟨es[i],xz hi,rfl⟩ ⟨hit',st.2.at λo e=>hs'.extBut d o Y e⟩ λb o J e=>hs'.extBut b o (λh=>J (by simp[h])) e
 done:=λs Q E st W=>by
  obtain⟨o,ho,hc,hd⟩:=id st.2
  exact zu9 hh st.1 ho hd λh' he'=>W h' s.toks λb o J e=>he' b o (λh=>J (by simp[h])) e
 self:=λ_ _ _ _ st W=>wpAny_pyIter_keyiter st.1 W
def xB9(hd:(d == sysModules)=false)(W:EntAt s.heap d es ep)
  (Y:Q (.ref s.heap.objs.size) { s with heap:=s.heap.push { cls:=.type "dict_keyiterator",data:=.fields #[.ref d,.int 0 0,.int es.size 0,.int ep 0] } }):wpAny (model prog w) A (pyIter (.ref d)) Q E s:=by
 obtain⟨o,ho,hc,J⟩:=id W;refine wpAny_pyIter_slot W.typeIs F.slot_dict_iter (wG F.slot_dict_iter W.typeIs F.entry_dict_iter ?_ (F.args_dict_iter_1 _));unfold Builtin.«dict.__iter__» Builtin.Dict.dictSlotNone;refine zb (zb (wpAny_notOrdered_dict W.typeIs ?_));show wpAny _ _ (pure (Value.ref d)) _ _ s;refine ze ?_;show wpAny _ _ (Builtin.Dict.showsAll d >>= _) _ _ s;unfold Builtin.Dict.showsAll
 rw[if_neg (by rw[hd];exact xl)]
 refine zb (ze (zb (wl ho J (zb (wpAny_dictEpoch ho J (zb (xD (ze ⟨_,rfl,"dict_keyiterator",_,⟨_,zr _ rfl,rfl⟩,F.slot_dict_keyiterator_next.lookup,?_⟩))))))))
 simpa [rawInt] using Y
def xL1(lo:(d == sysModules)=false):W.KdlSrc prog w "dict" d d es.size (λi v=>∃x,es[i]?=some x/\v=x.key) (λh=>EntAt h d es ep) where
 type:=λ_ J=>J.typeIs
 there:=λ_ J=>let ⟨_,ho,_⟩:=J;⟨zw ho,zw ho⟩
 keep:=λ_ _ J hk=>J.at λo e=>hk d (.inl rfl) o e
 notList:=q9
 notTuple:=q9
 hint:=λ_ _ _ _ J Y=>W.kdl_hint_dict J.typeIs Y
 iter:=λ_ _ hh J=>⟨_,_,(λ_ _ Y=>xB9 lo J Y),xd6 hh _ d (zJ (let ⟨_,ho,_⟩:=J;zw ho)) es ep,⟨⟨_,zr _ rfl,rfl,rfl⟩,J.at λo e=>zg _ e⟩⟩
end
noncomputable def KeyAts(H:Hp):List (List Key × V)->List Addr->Prop:=Paired λp b=>H b=some (.tup (p.1.map kV))
def KT.ats(r:KT H kvs xs):KeyAts H kvs (xs.map (·.2.1)):=by
 induction r with
 |nil=>exact .nil
 |@cons p q ps qs W t J=>exact .cons W.2.1 J
theorem Kj:∀(bs:Qqc),Vals (bs.map V.ref) (bs.map Value.ref)
 |[]=>.nil
 |b::bs=>.cons rfl (Kj bs)
section
variable {X:Cx}{A:AC}{pos p:Pos}
def zb2(hh:X.A.handled=none):qy X (.type "list") (λxs H Q=>∃a kvs,xs=[.ref a]/\H a=some (.dT kvs)/\∀l bs,H l=none->KeyAts H kvs bs->Q (.ref l) (upd H l (.lst (bs.map V.ref)))):=by
 intro pins s σ H xs us Q I r h;obtain⟨a,kvs,rfl,e,q⟩:=h;obtain⟨u,rfl,rx⟩:=YI r;cases rx;obtain⟨z,hd,ys,ac,dd⟩:=zm5 I.hok e;obtain⟨o,es,ep,ho,hc,ad,J,ae,hn⟩:=dd;have hsz:es.size=ys.length:=size_of_entries J;have hl:=ac.length
 refine W.kdl_call (xL1 (es:=es) (ep:=ep) hd) hh ⟨o,ho,hc,ad⟩ (by rw[hsz,<- hl];exact z) λh' tk acc c' hk hS Y=>?_
 have aa:acc.toList=(ys.map (·.2.1)).map Value.ref:=by
  refine ext_getElem? λj=>?_;rw[zL]
  rcases Nat.lt_or_ge j acc.size with hj |hj
  ·obtain ⟨x, hx, hv⟩ := Y.2 j acc[j] (xz hj);rw[xz hj,hv];rw[entry_at J j] at hx
   cases hy:ys[j]? with
   |none=>rw[hy] at hx;cases hx
   |some y=>
    rw[hy] at hx;cases hx;simp[hy,entryOfKey]
  ·rw[wa hj,List.getElem?_eq_none (by rw[Y.1,hsz] at hj;simpa using hj)]
 refine⟨.ref s.heap.objs.size,_,I.laid (t':=tk) (o:=.lst ((ys.map (·.2.1)).map V.ref)) hk (zj _) ?_,rfl,q _ _ (I.hok.fresh (zj _)) ac.ats⟩
 exact⟨by simp only[zf];rw[<- hl];exact z,acc.toList,c',by rw[aa];exact Kj _,by rw[vc];exact hS⟩
theorem KeyAts.reps{K:Qq5}{G:QqE}{Z:QqA}{H:Hp}(hz:∀b ys,H b=some (.tup ys)->¬ Z b):∀{ks:List (Int × Int)}{xs:List V}{bs:Qqc},ks.length=xs.length->KeyAts H (qZ ks xs) bs->Reps K G Z H (ks.map λk=>.tup [.int k.1,.int k.2]) (bs.map V.ref)
 |[],[],bs,_,h=>by
  unfold KeyAts qZ at h;cases h;exact .nil
 | k :: ks, x :: xs, bs, J, h => by
  unfold KeyAts qZ at h;rw[xY] at h
  cases h with
  |@cons _ b _ bs' h1 h2=>
   refine .cons (.tup_mk (.inl ⟨hz b _ h1,.inl h1⟩) ?_) (KeyAts.reps hz (by simpa using J) h2)
   exact .cons (Rep.ofS (d:=.int k.1) rfl) (.cons (Rep.ofS (d:=.int k.2) rfl) .nil)
def zS5(i:Nat):TD:=λrho n P=>∃ks es,rho[i]?=some (some (.owT ks es))/\P (.lst (ks.map λk=>.tup [.int k.1,.int k.2])) n
@[simp] theorem xr9{i rho n P}:zS5 i rho n P=∃ks es,rho[i]?=some (some (.owT ks es))/\P (.lst (ks.map λk=>.tup [.int k.1,.int k.2])) n:=rfl
def AmO.tupZ{os:List (Nat × Addr)}{n:Nat}{rho:Rho}{sg:St}{H:Hp}{ds:List D}{vs:List V}(I:AmO A os n rho sg H ds vs):∀b ys,H b=some (.tup ys)->¬ Zof A os b:=λb ys e z=>by
 obtain⟨u,e',t⟩:=I.zHot b z;rw[e] at e';cases e';exact t ys rfl
def zf2{i l:Nat}(hr:Room l X.A)(hm:X.mg "list" = none)(hN:X.N[i]?=some x:=by rfl)(Y:Vis X.env.scope x:=by first |exact Or.inl rfl |exact Or.inr (Or.inl rfl) |exact Or.inr (Or.inr rfl))(hd:(x == ("__debug__" : Str))=false:=by decide)
  (W:(x == ("__classdict__" : Str))=false:=by decide) (hg:Gl X "list" := by rfl)
  (he:starEach [.Name x px] X.env=(false,eval (.Name x px) X.env)::starEach [] X.env:=by rfl) (J:(backTo pos (starEach [] X.env)).any (·.1)=false:=by rfl):PD A X (.Call (.Name "list" p) [.Name x px] [] pos) (zS5 i):=by
 exists (KP (zb2 hr.hd) hg hm zB9 (jv (jH hN Y hd W) Xx he) q9 q9 he J).imp λsg H Q h=>by
   obtain⟨rho,n,P,ds,vs,⟨os,I⟩,⟨ks,es,hi,k⟩,hQ⟩:=h;obtain⟨a,xs,e1,hH,hl,rs,_⟩:=I.ownT hi;exact⟨.ref a,e1,a,_,rfl,hH,λl bs hl' hb=>hQ _ _ n _ ⟨os,I.newLst (hb.reps I.tupZ hl) hl'⟩ k⟩
def xO7{ep:Nat}(hd:(d == sysModules)=false)(W:EntAt s.heap d es ep)(Y:(es.size:Int)<2^63)
  (h:Q (.int es.size (s.toks+1)) { s with toks:=s.toks+1+1 }):wpAny (model prog w) B (call (.builtin "len") [.ref d]) Q E s:=by
 refine Calls.call_function_entry kind_len plain_len entry_len (args_len1 _) ?_;obtain⟨o,ho,hc,J⟩:=id W;unfold Builtin.«len»
 refine zb (m:=oneArg "len" _) (ze (zb (m:=callSpecial? (.ref d) (Str.ofString "__len__")) (xR (name:=Str.ofString "__len__") W.typeIs F.slot_dict_len
  (call_meetsIn F.slot_dict_len W.typeIs F.entry_dict_len (F.args_dict_len_1 _) (S:=λ_ R s'=>s'=s/\R (.ok (.ret (.int es.size s.toks))) { s with toks:=s.toks+1 }) (.of_wp ?_) ⟨rfl,?_⟩))))
 ·rintro C R s' ⟨rfl,q⟩;show wpAny _ _ (dictSize d >>= _) _ _ s';unfold dictSize;refine zb (zb (wl ho J (ze ?_)));show wpAny _ _ (Builtin.Dict.pendingCount d >>= _) _ _ s';refine zb (wpAny_pendingCount_other hd (wpAny_ret_mkInt ?_));rw[Nat.add_zero];exact q
 ·show wpAny _ _ _ _ _ { s with toks := s.toks + 1 };refine zb (xJ (ze (zb (yQ ?_))))
  show wpAny _ _ (if ((es.size:Nat):Int)<0 then _ else _) _ _ _
  rw[if_neg q5]
  show wpAny _ _ (if ((es.size:Nat):Int)>=2^63 then _ else _) _ _ _
  rw[if_neg q5]
  exact zb (wpAny_mkInt (ze ⟨_,rfl,h⟩))
def zn3:qy X (.builtin "len") (λxs H Q=>∃a kvs,xs=[.ref a]/\H a=some (.dT kvs)/\Q (.int kvs.length) H):=by
 intro pins s σ H xs us Q I r h;obtain⟨a,kvs,rfl,e,q⟩:=h;obtain⟨u,rfl,rx⟩:=YI r;cases rx;obtain⟨z,hd,ys,Y,o,es,ep,ho,hc,W,J,aa,hn⟩:=zm5 I.hok e
 have hsz:es.size=kvs.length:=by rw[size_of_entries J,Y.length]
 have hn:=VD
 exact xO7 hd ⟨o,ho,hc,W⟩ q5 ⟨.int kvs.length,H,I.tok _,⟨s.toks+1,by rw[hsz]⟩,q⟩
def xn7(i:Nat):TD:=λrho n P=>∃ks es,rho[i]?=some (some (.owT ks es))/\P (.int ks.length) n
@[simp] theorem xz1{i rho n P}:xn7 i rho n P=∃ks es,rho[i]?=some (some (.owT ks es))/\P (.int ks.length) n:=rfl
def UN(h:ks.length=xs.length):(qZ ks xs).length=ks.length:=by simp[qZ,h]
def zW7{i:Nat}(hm:X.mg "len" = none)(hN:X.N[i]?=some x:=by rfl)(Y:Vis X.env.scope x:=by first |exact Or.inl rfl |exact Or.inr (Or.inl rfl) |exact Or.inr (Or.inr rfl))(hd:(x == ("__debug__" : Str))=false:=by decide)
  (W:(x == ("__classdict__" : Str))=false:=by decide) (hg:Gl X "len" := by rfl)
  (he:starEach [.Name x px] X.env=(false,eval (.Name x px) X.env)::starEach [] X.env:=by rfl) (J:(backTo pos (starEach [] X.env)).any (·.1)=false:=by rfl):PD A X (.Call (.Name "len" p) [.Name x px] [] pos) (xn7 i):=by
 exists (UA zn3 hg hm kK (jv (jH hN Y hd W) Xx he) q9 q9 he J).imp λsg H Q h=>by
   obtain⟨rho,n,P,ds,vs,⟨os,I⟩,⟨ks,es,hi,k⟩,hQ⟩:=h;obtain⟨a,xs,e1,hH,hl,rs,_⟩:=I.ownT hi
   exact⟨.ref a,e1,a,_,rfl,hH,by rw[UN hl];exact hQ _ H n _ ⟨os,I.push (Rep.ofS (d:=.int ks.length) rfl)⟩ k⟩
end
section
variable {X:Cx}{pins:QqL}{σ:St}{H:Hp}{s:Qq1}{a b:Addr}{B:Around}{E:QqV}{kvs:List (List Key × V)}{k:List Key}{v:V}
def zm6(hu:B.units+1<cLine)(I:Inv X pins σ H s)(e:H a=some (.dT kvs))(eb:SqT X.K H b (k.map kV))(l:Xq kvs k=some v)
  (h:∀w' s',Inv X pins σ H s'->RelV v w'->Q w' s'):wpAny (model X.prog X.w) B (getItem (.ref a) (.ref b)) Q E s:=by
 obtain⟨z,hd,xs,J,dd⟩:=zm5 I.hok e
 obtain⟨w',W,rw'⟩:=RelO.some_of (v:=v) (o:=(atKey xs k).map (·.2)) (by rw[<- l];exact J.val k)
 obtain⟨p,Y,rfl⟩:=Option.map_eq_some_iff.mp W;exact wpAny_getItem_heap (tupleKind_room_in1 hu) (zR1 I eb) dd Y (h _ _ (I.tok _) rw')
def xe7(K:Qq5)(td ty:TE):TE:=λσ H Q=>td σ H λx H1=>ty σ H1 λy H2=>∃a b kvs k v,x=.ref a/\y=.ref b/\H2 a=some (.dT kvs)/\SqT K H2 b (k.map kV)/\Xq kvs k=some v/\Q v H2
def zH9(hu:X.A.units+1<cLine)(ho:PE X o td)(hi:PE X i ty)(hs:xp2 i):PE X (.Subscript o i pos) (xe7 X.K td ty):=by
 intro pins s σ H Q I h;refine zp5 PySem.F.slot_dict_getitem.lookup hs (thn (ho pins s σ H _ I h) λu s1 ⟨x,H1,I1,Y,q1⟩=>thn (hi pins s1 σ H1 _ I1 q1) λiv s2 ⟨y,H2,J,W,a,b,kvs,k,v,ex,ey,e,sq,l,q2⟩=>?_);subst ex ey;cases(show u=Value.ref a from Y);cases(show iv=Value.ref b from W);exact⟨(zx4 J (.inr ⟨_,.inl e⟩)).1,zm6 hu J e sq l λw' s3 I3 rw'=>⟨v,H2,I3,rw',q2⟩⟩
end
section
variable {A:AC}{X:Cx}{b:Expr}{tb:TD}{pos:Pos}
def xJ1(i:Nat)(tb:TD):TD:=λrho n P=>∃ks es,rho[i]?=some (some (.owT ks es))/\tb rho n λd J=>∃(k:QqP) (c:D),d=.tup [.int k.1,.int k.2]/\atP ks es k=some c/\P c J
@[simp] theorem xG7{i tb rho n P}:xJ1 i tb rho n P=∃ks es,rho[i]?=some (some (.owT ks es))/\tb rho n λd J=>∃(k:QqP) (c:D),d=.tup [.int k.1,.int k.2]/\atP ks es k=some c/\P c J:=rfl
def xi5{i l:Nat}{x:Str}{px:Pos}(hr:Room l X.A)(hK:X.K=A.K)(hb:PD A X b tb)(hs:xp2 b)(hN:X.N[i]?=some x:=by rfl)(hv:Vis X.env.scope x:=by first |exact Or.inl rfl |exact Or.inr (Or.inl rfl) |exact Or.inr (Or.inr rfl))(hd:(x == ("__debug__" : Str))=false:=by decide)
  (W:(x == ("__classdict__" : Str))=false:=by decide):PD A X (.Subscript (.Name x px) b pos) (xJ1 i tb):=by
 exists (zH9 (by have:=hr.un;lia) (jH hN hv hd W) hb hs).imp λsg H Q h=>by
   obtain⟨rho,n,P,ds,vs,⟨os,I⟩,⟨ks,es,hi,ht⟩,hQ⟩:=h;obtain⟨a,xs,e1,hH,hl,rs,_⟩:=I.ownT hi;refine⟨.ref a,e1,rho,n,_,ds,vs,⟨os,I⟩,ht,λv H' n' d ⟨os',J⟩ k=>?_⟩;obtain⟨k,c,rfl,hc,k2⟩:=k;obtain⟨J1,r⟩:=J.pop;obtain⟨a',xs',Y,hH',hl',rs',_⟩:=J1.ownT hi;rw[e1] at Y;cases Y;obtain⟨b',rfl,sq⟩:=QI r;obtain⟨w,hw',rw'⟩:=rs'.atP hc
   exact⟨a,b',_,kP k,w,rfl,rfl,hH',by rw[hK];exact sq,by rw[zb4];exact hw',hQ w H' n' c ⟨os',J1.push rw'⟩ k2⟩
end
abbrev TFT:=List D->Nat->(List (Int × Int)->List D->Nat->Prop)->Prop
def spT(K:Qq5)(k:Nat)(t:TFT):Sp:=λvs H Q _=>∃(G:QqE) (Z:QqA) (n:Nat) (P:List (Int × Int)->List D->Nat->Prop) (ds:List D),ds.length=k/\Reps K G Z H ds vs/\zD6 G n H/\(∀a,G=some a->Z a)/\ZOk K G Z H/\t ds n P /\
 ∀p H' n' ks es xs,(∀a o,G≠some a->H a=some o->H' a=some o)->zD6 G n' H'->H' p=none->ks.length=xs.length->Reps K G Z H' es xs->P ks es n'->Q (.ref p) (upd H' p (.dT (qZ ks xs)))
structure FnT(P:Qq3)(w:Qqa)(K:Qq5)(mg:QqM)(base:Heap)(x:Str)(kk k:Nat)(t:TFT):Prop where
 ex:∃f fd ps,FnOk P w K mg base CX0 kk f fd ps (spT K k t)/\mg x=some (.ref f)/\W.keepIn K (.ref f)=true/\Binds K fd ps []
section
variable {A:AC}{X:Cx}{e:Expr}{es:Qq9}{t1:TAD}{pos p pos2:Pos}
def AmO.setOwnT{os:List (Nat × Addr)}{n:Nat}{rho:Rho}{sg:St}{H:Hp}{ds es:List D}{vs xs:List V}{i:Nat}{p:Addr}{ks:List (Int × Int)}(I:AmO A os n rho sg H ds vs)(hi:i<rho.length)(W:H p=none)(hl:ks.length=xs.length)(r:Reps A.K A.G (Zof A os) H es xs) :
  ∃os',AmO A os' n (rho.set i (some (.owT ks es))) (sg.set i (some (.ref p))) (upd H p (.dT (qZ ks xs))) ds vs:=by
 have Y:∀a u,H a=some u->upd H p (.dT (qZ ks xs)) a=some u:=λa u e=>by rw[ww (yC e W)];exact e
 refine⟨(i,p)::os.filter λq=>decide (q.1≠i),?_⟩
 have zz:∀a,H a≠none->Zof A ((i,p)::os.filter λq=>decide (q.1≠i)) a->Zof A os a:=λa ha z=>by
  rcases z with z |⟨q,J,e⟩
  ·exact .inl z
  ·rcases zn.mp J with rfl | J
   ·exact absurd (by rw[<- e];exact W) ha
   ·exact .inr ⟨q,(zB.mp J).1,e⟩
 have h0:A.H0 p=none:=by
  cases q:A.H0 p with
  |none=>rfl
  |some o=>
   by_cases e:A.G=some p
   ·obtain⟨x,y,z,w,_⟩:=I.st p e;rw[w] at W;cases W
   ·have:=I.fr p o e q;rw[this] at W;cases W
 refine⟨by simp[I.len],λj c e=>?_,Reps.mono zz (λa u _ e=>Y a u e) _ _ I.pend,?_,λq J=>?_,λa e=>?_,I.gz,λa u h e=>Y a u (I.fr a u h e),I.z0⟩
 ·by_cases hj : j = i
  ·subst hj;rw[xg hi] at e;cases e
   exact⟨.ref p,xg (by rw[<- I.len];exact hi),p,xs,rfl,xj,yx,hl,Reps.mono zz (λa u _ e=>Y a u e) _ _ r⟩
  ·rw [xq (Ne.symm hj)] at e;obtain⟨u,e1,e2⟩:=I.slot j c e
   exact⟨u,by rw[xq (Ne.symm hj)];exact e1,SlotR.mono zz (λa u _ e=>Y a u e) (λa ys m q=>⟨zk _ (zB.mpr ⟨m,by simpa using hj⟩),Y a _ q⟩) _ _ e2⟩
 ·refine wB.mpr ⟨λq J => ?_, I.nd.filter _⟩;obtain⟨m1,m2⟩:=zB.mp J
  refine⟨λz=>by simp[<- z] at m2,λz=>(I.fresh q m1).2.2.ne ?_⟩
  have z':p=q.2:=z;rw[<- z'];exact W
 ·rcases zn.mp J with rfl | J
  ·exact⟨h0,λz=>(I.z0.1 p z).ne h0,by show Hot (upd H p _ p);rw[yx];exact Hot.dT⟩
  ·obtain⟨f1,f2,f3⟩:=I.fresh q (zB.mp J).1;exact⟨f1,f2,f3.of λu w=>Y _ _ w⟩
 ·obtain⟨x,y,z,q,rr⟩:=I.st a e;exact⟨x,y,z,Y _ _ q,rr⟩
def xf0(i k:Nat)(t:TFT)(t1:TAD):TSD:=λF rho n=>i<rho.length/\t1 rho n λes W=>es.length=k/\t es W λks vs J=>F.nx (rho.set i (some (.owT ks vs))) J
@[simp] theorem xv9{i k t t1 F rho n}:xf0 i k t t1 F rho n=(i<rho.length/\t1 rho n λes W=>es.length=k/\t es W λks vs J=>F.nx (rho.set i (some (.owT ks vs))) J):=rfl
def zH0{i kk k:Nat}(F:FnT X.prog X.w X.K X.mg X.base y kk k t)(hr:Room kk X.A)(hK:X.K=A.K)(hN:X.N.Nodup)(hi:X.N[i]?=some x)(hx:Loc X.env.scope x)(ha:PAD A X (e::es) t1)(hg:Gl X y:=by rfl)(ad:(y == ("__debug__" : Str))=false:=by decide)
  (he:starEach (e::es) X.env=(false,eval e X.env)::starEach es X.env:=by rfl) (Y:(backTo pos (starEach es X.env)).any (·.1)=false:=by rfl) (hf:X.fn x=true\/X.env.scope.names.lookup x=some .local:=by first |exact .inl rfl |exact .inr rfl |assumption)
  (hs:swapsWith (.Call (.Name y p) (e::es) [] pos) (some (.Name x pos')) pos2.line X.env=pure false:=by rfl):PSD A X (.Assign [.Name x pos'] (.Call (.Name y p) (e::es) [] pos) pos2) (xf0 i k t t1):=by
 obtain⟨f,fd,ps,F,hm,hk,hb⟩:=F.ex
 exists (ze3 hN hi hx (UB F hr hg hm hk hb .nil zI3 ha ad he Y) hs hf).imp λE sg H h=>by
   obtain⟨rho,n,R,ds,vs,I,⟨hl,ht⟩,ok⟩:=h;refine⟨rho,n,_,ds,vs,I,ht,λws H' n' es' ⟨os,J⟩ ac k=>?_⟩;obtain⟨W,rs⟩:=J.split ac;rw[wv,hK];exact⟨A.G,Zof A os,n',_,es',k.1,rs,W.st,λa z=>.inl (W.gz a z),W.zO,k.2,λp H2 n2 ks ae xs fr st hp aa r q=>ok.nx _ _ _ _ ((W.called fr st).setOwnT hl hp aa r) q⟩
end
noncomputable def Vl(k:QqP):Int:=reduceHash (Builtin.Tuple.tupleHashOf [hashInt k.1,hashInt k.2])
def zM1(k:QqP):(tupleKind (vg P w)).hash (kP k)=Vl k:=rfl
theorem Yo:∀{ks ks2:List (Int × Int)}{xs xs2:List V},ks.length=xs.length->qZ (ks++ks2) (xs++xs2)=qZ ks xs++qZ ks2 xs2
 |[],_,[],_,_=>rfl
 |k::ks,ks2,x::xs,xs2,h=>by
  have J:=Yo (ks:=ks) (ks2:=ks2) (xs:=xs) (xs2:=xs2) (by simpa using h)
  simp only[qZ,List.cons_append,xY] at J ⊢;rw[J]
theorem WB:∀{ks:List (Int × Int)}{xs:List V},ks.length=xs.length->(qZ ks xs).map (·.1)=ks.map kP
 |[],[],_=>rfl
 |k::ks,x::xs,h=>by
  have J:=WB (ks:=ks) (xs:=xs) (by simpa using h)
  simp only[qZ,xY,zN] at J ⊢;rw[J]
def zG5{kvs:List (List Key × V)}{k:List Key}{v:V}(h:k ∉ kvs.map (·.1)):zn7 kvs k v=kvs++[(k,v)]:=by
 unfold zn7;rw[if_neg];intro z;obtain⟨x,hx,e⟩:=List.any_eq_true.mp z
 exact h (zo.mpr ⟨x,hx,by simpa using e⟩)
theorem VA:∀(more kvs:List (List Key × V)),((kvs++more).map (·.1)).Nodup->Xz kvs more=kvs++more
 |[],kvs,_=>by simp[Xz]
 | m :: more, kvs, h => by
  have h0:m.1 ∉ kvs.map (·.1):=by
   rw[zS,yh] at h
   exact λz=>h.2.2 _ z _ (by simp) rfl
  have e:Xz kvs (m::more)=Xz (zn7 kvs m.1 m.2) more:=rfl
  rw[e,zG5 h0,VA more (kvs++[(m.1,m.2)]) (by simpa using h)]
  simp
def zJ9{ks:List (Int × Int)}(h:ks.Nodup):(ks.map kP).Nodup:=by
 induction ks with
 |nil=>exact nodup_nil
 |cons k ks J=>
  obtain⟨h1,h2⟩:=xM.mp h;refine xM.mpr ⟨λz=>?_,J h2⟩;obtain⟨y,W,e⟩:=zo.mp z;exact h1 (zg3 e ▸ W)
def zY9{α β γ:Type}(f:α->γ)(l:List (α × β)):(l.map λx=>f x.1)=(l.map (·.1)).map f:=by simp
def zZ0{α β γ:Type}(f:β->γ)(g:α->β)(h:α->γ)(e:∀x,f (g x)=h x)(l:List α):(l.map g).map f=l.map h:=by
 induction l with
 |nil=>rfl
 |cons x l J=>rw[zN,zN,zN,J,e]
def xm5(h:ks.length=xs.length):((qZ ks xs).map λJ=>(tupleKind (vg P w)).hash J.1)=ks.map Vl:=by
 rw[zY9 (tupleKind (vg P w)).hash (qZ ks xs),WB h];exact zZ0 _ _ _ zM1 ks
def zl5(nd:(ks++ks2).Nodup)(h:ks.length=xs.length)(h2:ks2.length=xs2.length):Xz (qZ ks xs) (qZ ks2 xs2)=qZ (ks++ks2) (xs++xs2):=by
 rw[VA _ _ (by rw[<- Yo h,WB (by rw[zF,zF,h,h2])];exact zJ9 nd),Yo h]
section
variable {A:AC}{X:Cx}{e:Expr}{es:Qq9}{t1:TAD}{pos p pos2:Pos}
def xe9(i k:Nat)(t:TFT)(t1:TAD):TSD:=λF rho n=>∃ks es,rho[i]?=some (some (.owT ks es))/\t1 rho n λas Y=>as.length=k/\t as Y λks2 J W=>(ks++ks2).Nodup/\ks.length+ks2.length<=sizeLine/\(ks=[]->(ks2.map Vl).Nodup) /\
 F.nx (rho.set i (some (.owT (ks++ks2) (es++J)))) W
@[simp] theorem xv8{i k t t1 F rho n}:xe9 i k t t1 F rho n=∃ks es,rho[i]?=some (some (.owT ks es))/\t1 rho n λas Y=>as.length=k/\t as Y λks2 J W=>(ks++ks2).Nodup/\ks.length+ks2.length<=sizeLine/\(ks=[]->(ks2.map Vl).Nodup) /\
 F.nx (rho.set i (some (.owT (ks++ks2) (es++J)))) W:=rfl
def zG9{i kk k:Nat}(F:FnT X.prog X.w X.K X.mg X.base y kk k t)(hr:Room kk X.A)(hK:X.K=A.K)(ha:PAD A X (e::es) t1)(hN:X.N[i]?=some x:=by rfl)(hv:Vis X.env.scope x:=by first |exact Or.inl rfl |exact Or.inr (Or.inl rfl) |exact Or.inr (Or.inr rfl))
  (hd:(x == ("__debug__" : Str))=false:=by decide) (ai:(x == ("__classdict__" : Str))=false:=by decide) (hg:Gl X y:=by rfl) (ah:(y == ("__debug__" : Str))=false:=by decide)
  (he:starEach (e::es) X.env=(false,eval e X.env)::starEach es X.env:=by rfl) (af:(backTo cp (starEach es X.env)).any (·.1)=false:=by rfl)
  (mm:M1 X (.Name x px) "update" apos (.Call (.Name y p) (e::es) [] cp) cpos:=by exact⟨rfl,rfl,rfl,rfl⟩)
  (ae:swapsWith (.Call (.Attribute (.Name x px) "update" apos) [.Call (.Name y p) (e::es) [] cp] [] cpos) none pos.line X.env=pure false:=by rfl) :
  PSD A X (.Expr (.Call (.Attribute (.Name x px) "update" apos) [.Call (.Name y p) (e::es) [] cp] [] cpos) pos) (xe9 i k t t1):=by
 obtain⟨f,fd,ps,F,hm,hk,hb⟩:=F.ex
 exists (zs1 (zH7 (by have:=hr.un;lia) (jH hN hv hd ai) (UB F hr hg hm hk hb .nil zI3 ha ah he af) mm) ae).imp λE sg H h=>by
   obtain⟨rho,n,R,ds,vs,⟨os,I⟩,⟨ks,es,hi,ht⟩,ok⟩:=h;obtain⟨a,xs,e1,hH,hl,rs,_⟩:=I.ownT hi;refine⟨.ref a,e1,a,rfl,.inr ⟨_,.inl hH⟩,rho,n,_,ds,vs,⟨os,I⟩,ht,λws H' n' es' ⟨os',J⟩ ag k=>?_⟩;obtain⟨J1,rs'⟩:=J.split ag;rw[wv,hK];refine⟨A.G,Zof A os',n',_,es',k.1,rs',J1.st,λa z=>.inl (J1.gz a z),J1.zO,k.2,λp H2 n2 ks2 am xs2 fr st hp W r q=>?_⟩;obtain⟨nd,hz,hh,q⟩:=q;have J2:=J1.called fr st;obtain⟨a4,ao,e4,ac,_⟩:=J2.ownT hi;obtain⟨a3,aa,e3,ak,Y,ad,up⟩:=(J2.grow (o:=.dT (qZ ks2 xs2)) hp).ownT hi;rw[e1] at e3 e4;cases e3;cases e4
   have aj:a≠p:=λz=>by rw[z,hp] at ac;cases ac
   have z1:=UN Y;have z2:=UN W
   refine⟨qZ ks aa,qZ ks2 xs2,p,ak,rfl,aj,yx,by rw[z1,z2];exact hz,λe0=>?_,?_⟩
   ·have e5 : ks = [] := xo.mp (by rw [<- z1, e0]; rfl)
    rw[xm5 W];exact hh e5
   ·rw [zl5 nd Y W]
    refine ok.nx _ _ _ _ ⟨os',up (ks++ks2) (es++am) (aa++xs2) (by rw[zF,zF,Y,W]) (ad.append ?_)⟩ q
    exact Reps.mono (λ_ _ z=>z) (λa u _ e=>by rw[ww (yC e hp)];exact e) _ _ r
end
noncomputable def xp1(acc:List (List Key × Addr × V)):List (List Key × V):=acc.map λx=>(x.1,x.2.2)
def xQ4(P:Qq3)(w:Qqa)(ob:Obj)(xs:List (List Key × Addr × Value)):Prop:=ob.ExactDict/\∃es ep,ob.data=.dict es ep/\es.toList=xs.map (entryOfKey (tupleKind (vg P w)))/\(xs.map (·.1)).Nodup
section
variable {X:Cx}{scope:Scope}{own M:Qq2}{pins:QqL}{σ:St}{H2:Hp}{s2:Qq1}{tg iter kx vx:Expr}{ifs:Qq9}{pos:Pos}{g:TG}{tt:TT}{tk tv:TE}
section
variable {κ:Type}{kf:κ->List Key}
noncomputable abbrev KF(kf:κ->List Key):List (κ × Addr × V)->List (List Key × Addr × Value)->Prop:=Paired λp q=>kf p.1=q.1/\p.2.1=q.2.1/\RelV p.2.2 q.2.2
def KF.back(r:KF kf acc xs):∀x∈xs,∃p∈acc,kf p.1=x.1/\p.2.1=x.2.1:=by
 induction r with
 |nil=>intro x hx;cases hx
 |@cons p q ps qs J t W=>
  intro x hx
  rcases zn.mp hx with e |hx
  ·subst e;exact⟨p,xj,J.1,J.2.1⟩
  ·obtain⟨p',h1,h2⟩:=W x hx;exact⟨p',zk _ h1,h2⟩
def KF.keys(r:KF kf acc xs):acc.map (λx=>kf x.1)=xs.map (·.1):=by
 induction r with
 |nil=>rfl
 |@cons p q ps qs W t J=>rw[zN,zN,J,W.1]
def KF.put(r:KF kf acc xs)(k:κ)(b:Addr)(h:RelV v u):KF kf (acc++[(k,b,v)]) (xs++[(kf k,b,u)]):=by
 induction r with
 |nil=>exact .cons ⟨rfl,rfl,h⟩ .nil
 |@cons p q ps qs W t J=>exact .cons W J
abbrev DtO(kf:κ->List Key)(P:Qq3)(w:Qqa)(acc:List (κ × Addr × V))(ob:Obj):Prop:=∃vs,xQ4 P w ob vs/\KF kf acc vs
def xb2{X':Cx}{pf:QqL}{D:Addr}{ob:Obj}{acc:List (κ × Addr × V)}{σ:St}{H:Hp}{s:Qq1}{v:V}{y ky:Value}{k:κ}{b:Addr}{z:V}{post:Shared->Prop}(inj:∀a b,kf a=kf b->a=b)(W:X'.A.units<cLine)(I:Inv X' ((D,ob)::pf) σ H s)(f:∀{H:Hp},H D=none->FpOk X' pf H D)(d:DtO kf X'.prog X'.w acc ob)(gz:acc.length<sizeLine)
  (tup:∀x∈acc++[(k,b,v)],(tupleKind (vg X'.prog X'.w)).is s.heap (kf x.1) x.2.1) (J:k ∉ acc.map (·.1)) (ek:z=.ref b) (rk:RelV z ky) (r:RelV v y)
  (c:∀{ob' s'},DtO kf X'.prog X'.w (acc++[(k,b,v)]) ob'->Inv X' ((D,ob')::pf) σ H s'->post s'):wpAny (model X'.prog X'.w) X'.A (dictSet D ky y) (λ_=>post) (λ_ _=>False) s:=by
 subst ek;cases(show ky=Value.ref b from rk);obtain⟨vs,⟨hc,es,ep,h1,h2,h3⟩,rv⟩:=d;have hl:=rv.length;have Y:=I.pinAt (.head _)
 have no:atKey vs (kf k)=none:=zi4 (by
  rw[<- rv.keys];intro z;obtain⟨x,hx,e⟩:=zo.mp z
  exact J (zo.mpr ⟨x,hx,inj _ _ e⟩))
 refine wpAny_dictSet_heap (hsz:=by lia) (knd:=tupleKind (vg X'.prog X'.w)) W (tup (k,b,v) (by simp)) ⟨ob,es,ep,Y.1,hc,h1,h2,λx hx=>?_,h3⟩ λh' dd' hs=>?_
 ·obtain⟨p,hp,e1,e2⟩:=rv.back x hx;rw[<- e1,<- e2];exact tup p (xu _ hp)
 ·obtain ⟨ob', es', ep', ho', hc', hd', he', hi', hn'⟩ := dd';rw[storedH_new no] at he' hi' hn'
  exact c ⟨_,⟨hc',es',ep',hd',he',hn'⟩,rv.put k b r⟩ (I.bump (t:=s.toks+(tupleKind (vg X'.prog X'.w)).draws (kf k)) (f Y.2) hs ho' λv z=>by rw[hd'] at z;cases z)
def zp3(KI:Hp->Addr->κ->Prop)(HD:Addr->List (κ × Addr × V)->HO)(wi:TI)(own:Nat)(g:TG)(tt:TT)(tk tv:TE):TE:=λσ H Q=>wi σ H λJ H1=>∃W:Nat->Nat->List (κ × Addr × V)->Hp->Prop,(∃m,W 0 m [] H1)/\(∀i m acc H,W i m acc H->∀x∈acc,KI H x.2.1 x.1)/\∀i m acc H,W i m acc H ->
 (J.stop i H/\acc.length<=sizeLine/\∀D,H D=none->Q (.ref D) (upd H D (HD D acc))) \/
 (J.go i H /\ acc.length < sizeLine /\ ∀ x H', J.yld i H x H' -> g x (List.replicate own none ++ σ) H' λY H2 => Y.drop own = σ /\ tt Y H2 λc H3 =>
  if c=true then tk Y H3 λy H4=>tv Y H4 λv H5=>∃k b m',y=.ref b/\k ∉ acc.map (·.1)/\m'<m/\W (i+1) m' (acc++[(k,b,v)]) H5 else ∃m',m'<m/\W (i+1) m' acc H3)
variable {X:Cx}{scope:Scope}{own M:Qq2}{tg iter kx vx:Expr}{ifs:Qq9}{pos:Pos}{g:TG}{tt:TT}{tk tv:TE}
def zs9{wi:TI}{KI:Hp->Addr->κ->Prop}{HD:Addr->List (κ × Addr × V)->HO}(inj:∀a b,kf a=kf b->a=b)(ad:∀{X':Cx} {pins σ H s b k},X'.K=X.K->Inv X' pins σ H s->KI H b k->(tupleKind (vg X'.prog X'.w)).is s.heap (kf k) b)
  (okD:∀{acc H D h ob},acc.length<=sizeLine->(∀x∈acc,KI H x.2.1 x.1)->(D == sysModules)=false->H D=none->h.get? D=some ob->DtO kf X.prog X.w acc ob->ObjOk X.prog X.w (upd H D (HD D acc)) h D (HD D acc))
  (ok:CompOk X scope M) (ae:X.A.units<cLine) (hc:X.calm=true) (hi:PI X tg iter wi) (hg:∀C s2 H2 fp,PG (yP X scope own M C s2 H2 fp) tg g) (ht:∀C s2 H2 fp,PTs (yP X scope own M C s2 H2 fp) ifs tt)
  (af:∀C s2 H2 fp,PE (yP X scope own M C s2 H2 fp) kx tk) (he:∀C s2 H2 fp,PE (yP X scope own M C s2 H2 fp) vx tv) (hs:∀x,foldedSetIterable iter X.env x=pure x:=by intro _;rfl) :
  PE X (.DictComp kx vx [⟨tg,iter,ifs,0⟩] scope pos) (zp3 KI HD wi own.length g tt tk tv):=by
 intro pins s σ H Q I h;rw[VI]
 refine yY (use:=none) rfl hs (XW (ok.cells I)) ok.kind (λx hx hl=>by rw[ok.uniq x hx,hl]) ?_
 refine thn (hi pins s σ H _ I h) λv s1 h1=>thn h1 λah s2 ⟨it,fp,tn,J,H2,e,I2,T,ac,f2,W,w0,wk,turn⟩=>?_;subst e;refine xD (Yk ?_);have aa:=(zh2 (P:=X.prog) (w:=X.w) (H:=H2) s2.heap I2.big).2.1;dsimp only;rw[wO]
 exact zb0 (ho:=HD) (DO:=DtO kf X.prog X.w) (λ_ _ ⟨_,⟨_,_,_,e,_⟩,_⟩ v z=>by rw[e] at z;cases z) ⟨[],⟨⟨rfl,rfl,rfl⟩,#[],0,rfl,rfl,nodup_nil⟩,.nil⟩ rfl ok hc (hg _ _ _ _) (ht _ _ _ _) (λ_=>qC) I2 T ac f2 w0 turn (λi m acc H ob h w hz d hn ho=>okD hz (wk _ _ _ _ w) aa hn ho d)
  (λR L turn n s h=>VL (kx:=kx) (vx:=vx) (iter:=iter) (scope:=scope) (pos:=pos) L turn n h) (λ_ _ h k=>codeAny_compStart_dict h (k _))
  (λpf σ6 H7 s7 i n acc ob I7 d gz fD kd q7 post fin => thn (af _ _ _ _ _ s7 σ6 H7 _ I7 q7) λy s8 ⟨v, H8, I8, r8, q8⟩ => thn (he _ _ _ _ _ s8 σ6 H8 _ I8 q8) λy2 s9 ⟨v2, H9, I9, r9, kk, b, m', ek, Y, hm, w8⟩ =>
   xb2 (X':=cxC X scope own M s2 H2 fp) inj ae I9 fD d gz (λx hx=>ad (X':=cxC X scope own M s2 H2 fp) rfl I9 (wk _ _ _ _ w8 x hx)) Y ek r8 r9 λd' I'=>fin hm w8 d' (qC kd) I') (λH' s' m IY q hm ag c2 c1 c3 c4=>⟨m,hm,λh' hs'=>⟨.ref s2.heap.objs.size,H',IY.turned (t':=s'.toks) (λb o hb e=>hs'.extBut b o hb e) ag c2 (.inr c1) c3 c4,rfl,q⟩⟩) rfl
end
section
variable {X:Cx}{scope:Scope}{own M:Qq2}{tg iter kx vx:Expr}{ifs:Qq9}{pos:Pos}{g:TG}{tt:TT}{tk tv:TE}
def xB7(r:KF id acc xs):(∀x∈acc,H x.2.1=some (.tup (x.1.map kV)))->KT H (xp1 acc) xs:=by
 induction r with
 |nil=>exact λ_=>.nil
 |@cons p q ps qs J t W=>exact λh=>.cons ⟨J.1,by rw[<- J.2.1];exact h p xj,J.2.2⟩ (W λx hx=>h x (zk _ hx))
abbrev zp2:=zp3 (κ:=List Key) (λH b k=>H b=some (.tup (k.map kV))) (λ_ acc=>.dT (xp1 acc))
def zs8(ok:CompOk X scope M)(W:X.A.units<cLine)(hc:X.calm=true)(hi:PI X tg iter wi)(hg:∀C s2 H2 fp,PG (yP X scope own M C s2 H2 fp) tg g)(ht:∀C s2 H2 fp,PTs (yP X scope own M C s2 H2 fp) ifs tt)
  (Y:∀C s2 H2 fp,PE (yP X scope own M C s2 H2 fp) kx tk) (he:∀C s2 H2 fp,PE (yP X scope own M C s2 H2 fp) vx tv) (hs:∀x,foldedSetIterable iter X.env x=pure x:=by intro _;rfl) :
  PE X (.DictComp kx vx [⟨tg,iter,ifs,0⟩] scope pos) (zp2 wi own.length g tt tk tv):=
 zs9 (kf:=id) (λ_ _ e=>e) (λ_ I e=>zg1 I.hok e) (λ{acc H D h ob} hz wk J hn ho ⟨vs,⟨hc,es,ep,h1,h2,h3⟩,rv⟩=>⟨by unfold xp1;rw[zf];exact hz,J,vs,xB7 rv λx hx=>by rw[ww (λz=>by have:=wk x hx;rw[z,hn] at this;cases this)];exact wk x hx,ob,es,ep,ho,hc,h1,h2,h3⟩) ok W hc hi hg ht Y he hs
end
end
abbrev TDT:=Rho->Nat->(List (Int × Int)->List D->Nat->Prop)->Prop
def xD4(A:AC)(t:TDT):TE:=λsg H Q=>∃rho n P ds vs,Am A n rho sg H ds vs/\t rho n P /\
 ∀p H' n' ks es xs os,AmO A os n' rho sg H' ds vs->Reps A.K A.G (Zof A os) H' es xs->H' p=none->ks.length=xs.length->P ks es n'->Q (.ref p) (upd H' p (.dT (qZ ks xs)))
@[irreducible] def PDT(A:AC)(X:Cx)(e:Expr)(t:TDT):Prop:=PE X e (xD4 A t)
noncomputable def zi9:List (Int × Int)->List Addr->List V->List (List Key × Addr × V)
 |k::ks,b::bs,x::xs=>(kP k,b,x)::zi9 ks bs xs
 |_,_,_=>[]
theorem zi7:∀{ks:List (Int × Int)}{bs:Qqc}{xs:List V},ks.length=bs.length->ks.length=xs.length->(zi9 ks bs xs).length=ks.length
 |[],[],[],_,_=>rfl
 |k::ks,b::bs,x::xs,h1,h2=>by
  show(zi9 ks bs xs).length+1=ks.length+1
  rw[zi7 (by simpa using h1) (by simpa using h2)]
theorem Qa:∀{ks:List (Int × Int)}{bs:Qqc}{xs:List V},ks.length=bs.length->ks.length=xs.length->(zi9 ks bs xs).map (·.1)=ks.map kP
 |[],[],[],_,_=>rfl
 |k::ks,b::bs,x::xs,h1,h2=>by
  show kP k::(zi9 ks bs xs).map (·.1)=kP k::ks.map kP
  rw[Qa (by simpa using h1) (by simpa using h2)]
theorem zi8:∀{ks:List (Int × Int)}{bs:Qqc}{xs:List V},ks.length=bs.length->ks.length=xs.length->xp1 (zi9 ks bs xs)=qZ ks xs
 |[],[],[],_,_=>rfl
 |k::ks,b::bs,x::xs,h1,h2=>by
  show(kP k,x)::xp1 (zi9 ks bs xs)=(kP k,x)::qZ ks xs
  rw[zi8 (by simpa using h1) (by simpa using h2)]
theorem JZ:∀{ks:List (Int × Int)}{bs:Qqc}{xs:List V} (k:QqP) (b:Addr) (x:V),ks.length=bs.length->ks.length=xs.length->zi9 (ks++[k]) (bs++[b]) (xs++[x])=zi9 ks bs xs++[(kP k,b,x)]
 |[],[],[],_,_,_,_,_=>rfl
 |k'::ks,b'::bs,x'::xs,k,b,x,h1,h2=>by
  show(kP k',b',x')::zi9 (ks++[k]) (bs++[b]) (xs++[x])=(kP k',b',x')::(zi9 ks bs xs++[(kP k,b,x)])
  rw[JZ k b x (by simpa using h1) (by simpa using h2)]
def Rep.prT_inv{K:Qq5}{G:QqE}{Z:QqA}{H:Hp}{v:V}{k:QqP}(h:Rep K G Z H (.prT k) v):∃b,v=.ref b/\¬ Z b/\H b=some (.tup [.int k.1,.int k.2]):=by unfold Rep at h;exact h
theorem zi6{K:Qq5}{G:QqE}{Z:QqA}{H:Hp}:∀{ks:List (Int × Int)}{bs:Qqc}{xs:List V},Reps K G Z H (ks.map D.prT) (bs.map V.ref)->∀x∈zi9 ks bs xs,H x.2.1=some (.tup (x.1.map kV))
 |[],_,_,_,x,hx=>by cases hx
 |_::_,[],_,_,x,hx=>by cases hx
 |_::_,_::_,[],_,x,hx=>by cases hx
 |k::ks,b::bs,y::xs,r,x,hx=>by
  obtain⟨v,r',e,q,t⟩:=Reps.split r;rw[zN] at e;cases e
  rcases zn.mp hx with e |hx
  ·subst e;obtain⟨b',e,_,h⟩:=q.prT_inv;cases e;exact h
  ·exact zi6 t x hx
def zh6(own:Nat)(g:TGD)(tt:TBD)(tk Y:TD)(rho:Rho)(P:List (Int × Int)->List D->Nat->Prop)(items:List D)(n1:Nat):Prop:=items.length<=sizeLine/\∃J:Nat->List (Int × Int)->List D->Nat->Prop,J 0 [] [] n1 /\
 (∀i d ks es n,items[i]?=some d->J i ks es n->g d (replicate own none++rho) λrho'=>rho'.drop own=rho/\tt rho' n λc W=>if c=true then tk rho' W λdk n3=>Y rho' n3 λdv n4=>∃k,dk=.prT k/\k ∉ ks/\J (i+1) (ks++[k]) (es++[dv]) n4 else J (i+1) ks es W) /\
 ∀ks es n,J items.length ks es n->P ks es n
def za5(it:TID)(own:Nat)(g:TGD)(tt:TBD)(W J:TD):TDT:=λrho n P=>it rho n (zh6 own g tt W J rho P)
section
variable {A:AC}{X:Cx}{it:TID}{g:TGD}{tt:TBD}{tk tv:TD}{tg iter kx vx:Expr}{ifs:Qq9}{scope:Scope}{own M:Qq2}{pos:Pos}
def zj4{sg:St}{H:Hp}{Q:VK}{m:Nat}(h:xD4 A (za5 it m g tt tk tv) sg H Q):zp2 (iOf A it) m (gOf A m g) (zj3 A tt) (tOf A tk) (tOf A tv) sg H Q:=by
 obtain⟨rho,n,P,ds,vs,I,ht,hQ⟩:=h;refine⟨rho,n,_,ds,vs,I,ht,λJ H' n' items es ws I1 hl hJ k=>?_⟩;obtain⟨hsz,W,w0,turn,fin⟩:=k
 refine⟨λi mm acc H=>mm=items.length-i/\i<=items.length/\∃ks bs Y xs n,acc=zi9 ks bs xs/\ks.length=bs.length/\ks.length=xs.length/\ks.length<=i/\xs.length=Y.length/\Am A n rho sg H (es++(ks.map D.prT++(Y++ds))) (ws++(bs.map V.ref++(xs++vs)))/\W i ks Y n,
  ⟨items.length,rfl,wq _,[],[],[],[],n',rfl,rfl,rfl,zj _,rfl,I1,w0⟩,?_,?_⟩
 ·rintro i mm acc H3 ⟨rfl, hi, ks, bs, Y, xs, n3, rfl, aa, ac, ao, ae, ⟨os, I3⟩, w3⟩ x hx;obtain⟨I4,r1⟩:=I3.split hl
  obtain⟨I5,r2⟩:=I4.split (by simpa using aa.symm)
  exact zi6 r2 x hx
 rintro i mm acc H3 ⟨rfl,hi,ks,bs,Y,xs,n3,rfl,aa,ac,ao,ae,⟨os,I3⟩,w3⟩;have aA:(zi9 ks bs xs).length=ks.length:=zi7 aa ac
 have ah:(bs.map V.ref).length=(ks.map D.prT).length:=by simpa using aa.symm
 obtain⟨j1,j2⟩:=hJ n3 rho sg H3 (ks.map D.prT++(Y++ds)) (bs.map V.ref++(xs++vs)) i ⟨os,I3⟩
 by_cases ad:i<items.length
 ·refine .inr ⟨(j1 items[i] (by simp [ad])).1, by lia, λx H4 y => ?_⟩
  obtain⟨az,I4⟩:=(j1 items[i] (by simp[ad])).2 x H4 y
  refine⟨replicate m none++rho,n3,_,items[i],_,_,⟨_,I4.front m⟩,turn i items[i] ks Y n3 (by simp[ad]) w3,λrho' sg' ⟨am,I5⟩ e5 k5=>?_⟩
  obtain⟨k5,k6⟩:=k5
  have e6:sg'.drop m=sg:=by rw[e5,va (by simp)]
  refine⟨e6,rho',n3,_,_,_,⟨am,I5⟩,k6,λc H6 n6 ⟨ak,I6⟩ k7=>?_⟩
  cases c with
  |false=>
   obtain⟨aj,I7⟩:=I6.back k5 e6
   exact⟨items.length-(i+1),q5,rfl,ad,ks,bs,Y,xs,n6,rfl,aa,ac,q5,ae,⟨aj,I7⟩,k7⟩
  | true =>
   rw[if_pos rfl] at k7 ⊢;refine⟨rho',n6,_,_,_,⟨ak,I6⟩,k7,λvk H8 n8 dk I8 k8=>?_⟩;refine⟨rho',n8,_,_,_,I8,k8,λv H9 n9 d ⟨ay,I9⟩ k9=>?_⟩;obtain⟨kk,rfl,ag,w9⟩:=k9;obtain⟨af,ax⟩:=I9.back k5 e6;obtain⟨aw,rv⟩:=ax.pop;obtain⟨av,rk⟩:=aw.pop;obtain⟨ar,r1⟩:=av.split hl;obtain⟨aq,r2⟩:=ar.split ah;obtain⟨ap,r3⟩:=aq.split ae;obtain⟨b,rfl,_⟩:=rk.prT_inv
   refine⟨kP kk,b,items.length-(i+1),rfl,?_,q5,rfl,ad,ks++[kk],bs++[b],Y++[d],xs++[v],n9,(JZ kk b v aa ac).symm,by simp[aa],by simp[ac],by simp;lia,by simp[ae],⟨af,?_⟩,w9⟩
   ·rw[Qa aa ac];intro z;obtain⟨y,hy,e⟩:=zo.mp z;exact ag (zg3 e ▸ hy)
   ·have ai : Reps A.K A.G (Zof A af) H9 ((ks ++ [kk]).map D.prT) ((bs ++ [b]).map V.ref) := by
     rw[zS,zS];exact r2.append (.cons rk .nil)
    exact((ap.join (r3.append (.cons rv .nil))).join ai).join r1
 ·have e : i = items.length := by lia
  subst e
  refine .inl ⟨j2 (zj _),q5,λp hp=>?_⟩
  obtain⟨I4,r1⟩:=I3.split hl;obtain⟨I5,r2⟩:=I4.split ah;obtain⟨I6,r3⟩:=I5.split ae;dsimp only;rw[zi8 aa ac];exact hQ p H3 n3 ks Y xs os I6 r3 hp ac (fin ks Y n3 w3)
def zt3{l:Nat}(W:Room l X.A)(ok:CompOk X scope M)(hc:X.calm=true)(hi:PID A X tg iter it)(Y:∀C J H2 fp,PGD A (yP X scope own M C J H2 fp) own.length tg g)(ht:∀C J H2 fp,PTs (yP X scope own M C J H2 fp) ifs (zj3 A tt))
  (hk:∀C J H2 fp,PD A (yP X scope own M C J H2 fp) kx tk) (he:∀C J H2 fp,PD A (yP X scope own M C J H2 fp) vx tv) (hs:∀x,foldedSetIterable iter X.env x=pure x:=by intro _;rfl):PDT A X (.DictComp kx vx [⟨tg,iter,ifs,0⟩] scope pos) (za5 it own.length g tt tk tv):=by exists (zs8 ok (by have:=W.un;lia) hc hi Y ht hk he hs).imp λ_ _ _=>zj4
end
section
variable {A:AC}{X:Cx}{es:Qq9}{t1:TAD}{pos:Pos}
def dPr(t:TAD):TD:=λrho n P=>t rho n λds J=>∃k:Int × Int,ds=[.int k.1,.int k.2]/\P (.prT k) J
@[simp] theorem xN6{t rho n P}:dPr t rho n P=t rho n λds J=>∃k:Int × Int,ds=[.int k.1,.int k.2]/\P (.prT k) J:=rfl
def xi4{x1}(h:PAD A X es t1):PD A X (.Tuple es x1 pos) (dPr t1):=by
 exists (zs6 h).imp λsg H Q h=>by
   obtain⟨rho,n,P,ds,vs,I,ht,hQ⟩:=h;refine⟨rho,n,_,ds,vs,I,ht,λws H' n' es' ⟨os,J⟩ hl k=>?_⟩;obtain⟨k,rfl,q⟩:=k;obtain⟨Y,rs⟩:=J.split hl;obtain⟨v1,v2,rfl,r1,r2⟩:=KH rs;have e1:=r1.int_inv;have e2:=r2.int_inv;subst e1 e2
   refine⟨yk (show 2<=1000 by decide),λp W=>hQ _ _ n' _ ⟨os,(Y.grow W).push ?_⟩ q⟩
   unfold Rep;exact⟨p,rfl,λz=>Y.zH p z W,yx⟩
end
section
variable {P:Qq3}{w:Qqa}{K:Qq5}{mg:QqM}{base:Heap}
def Fun.okT{x J:Str}{st:Stmt}{f:Addr}{fd:Qqb}{N ps:Qq2}{k:Nat}{t:TFT}{tb:TDT}{e:Expr}{pos:Pos}(F:Fun K x J st f fd)(S:FnScope N ps (xm st))(hb:ku st=[.Return (some e) pos])
  (body : ∀ (W : Value) (A0 : Around) (outer : List Env) (s : Shared) (H : Hp) (E : XK) (G : Option Addr) (Z : Addr -> Prop), Room k (A0.deeper (envOfC J (xm st) s.heap.objs.size f W)) ->
   PDT ⟨K,G,Z,H⟩ (zD5 CX0 P w K mg base N J (xm st) f W A0 outer s H E).nox e tb)
  (Y:∀ds n Q,ds.length=ps.length->t ds n Q->tb (startD N ds) n Q):FnOk P w K mg base CX0 (k+1) f fd ps (spT K ps.length t):=by
 exists (by
   refine F.ok S (λvs H Q E h=>?_) (λW A0 outer s H vs Q E hr h=>?_)
   ·obtain⟨G,Z,n,R,ds,hl,rs,_⟩:=h;rw[rs.length];exact hl
   ·obtain ⟨G, Z, n, R, ds, hl, rs, aa, gz, z0, ht, hQ⟩ := h;rw[hb];refine⟨_,Uv (zP7 (body W A0 outer s H E G Z hr)) zr8,startD N ds,n,R,[],[],⟨[],Zm rs aa gz z0⟩,Y ds n R hl ht,λp H' n' ks es xs os I r hp ac q=>?_⟩
    exact hQ p H' n' ks es xs I.fr I.st hp ac (Reps.mono (λa _ z=>.inl z) (λ_ _ _ e=>e) _ _ r) q)
end
section
variable {prog:Qq3}{w:Qqa}{A:Around}{R:Result->Shared->Prop}{I:Addr}{fp wr:Qqc}{n:Nat}{P:Nat->Value->Prop}{St:Nat->Heap->Prop}
def xd3(prog:Qq3)(w:Qqa)(A:Around)(P:Nat->Value->Prop)(St:Nat->Heap->Prop)(bt:Qq6):Prop:=
 ∀t i j vi vj (s:Qq1) (Q:QqV) (E:QqV),St t s.heap->P i vi->P j vj->Q (.bool (bt i j)) s->wpAny (model prog w) A (richCompare .Lt vi vj) Q E s
def Walks.more{bs:Qqc}{Ok:Heap->Prop}(W:Walks prog w A I fp wr n P St)(hb:∀b∈bs,b ∉ wr)(hk:∀h h',Ok h->(∀b∈bs,∀o,h.get? b=some o->h'.get? b=some o)->Ok h'):Walks prog w A I (fp++bs) wr n P (λi h=>St i h/\Ok h) where
 sub:=λb h=>xu _ (W.sub b h)
 frame:=λi h h' st k=>⟨W.frame i h h' st.1 λb m o e=>k b (xu _ m) o e,hk h h' st.2 λb m o e=>k b (xf _ m) o e⟩
 item:=λi s Q E hi st J=>W.item i s Q E hi st.1 λv h' Y hP st' k=>J v h' Y hP ⟨st',hk _ _ st.2 λb m o e=>k b o (hb b m) e⟩ k
 done:=λs Q E st J=>W.done s Q E st.1 J
 self:=λi s Q E st J=>W.self i s Q E st.1 J
def zv4(W:Walks prog w A.in1 I fp wr n P St)(bt:Qq6)(af:xd3 prog w A.in1 P St bt)(S:Addr)(ah:S ∉ fp):∀(k j:Nat) (s:Qq1) (vb:Value) (c:Nat),n-(j+1)=k->j+1<=n->St (j+1) s.heap->P (argBest bt j) vb ->
  s.heap.get? S=some (seqObj "list" #[vb,vb] c)->(∀v h' tk,P (argBest bt (n-1)) v->(∀b o,b ∉ wr->b≠S->s.heap.get? b=some o->h'.get? b=some o)->R (.ok (.ret v)) { s with heap:=h',toks:=tk }) ->
  codeAny (model prog w) A (.builtin "min.loop" ⟨[.ref I,.none,.ref S],[]⟩) R s:=by
 have ag:S ∉ wr:=λh=>ah (W.sub _ h)
 have nm:(toString "min" ++ toString ".loop" : String) = "min.loop" := by decide
 intro k
 induction k with
 |zero=>
  intro j s vb c hk hj ac aa hS hR
  have ae:j+1=n:=q5
  refine codeAny_builtin F.entry_min_loop ?_;rw[Around.under_plainId F.plain_min_loop _];refine zb (m:=seqItems? (.ref S)) (wL hS rfl (zb (m:=tryCatch (pyNext (.ref I)) _) (wpAny_tryCatch (W.done s _ _ (ae ▸ ac) λh' tk hk'=>?_))));have hS':=hk' S _ ag hS
  refine zb (m:=updateSeq S (λ_=>#[])) (wpAny_updateSeq hS' rfl (zb (yQ (ze (hR vb _ tk (by rw[<- ae];exact aa) λb o J Y e=>(wH _ _ (Ne.symm Y)).trans (hk' b o J e))))))
 | succ k ih =>
  intro j s vb c hk hj ac aa hS hR
  have ad:j+1<n:=q5
  refine codeAny_builtin F.entry_min_loop ?_;rw[Around.under_plainId F.plain_min_loop _];refine zb (m:=seqItems? (.ref S)) (wL hS rfl (zb (m:=tryCatch (pyNext (.ref I)) _) (wpAny_tryCatch (W.item (j+1) s _ _ ad ac λv h' tk hP hst' hk'=>?_))));have hS':=hk' S _ ag hS;refine zb (m:=tryCatch (holding [v,v] (richCompare .Lt v vb >>= _)) _) (wpAny_tryCatch (xJ (zb (af (j+1+1) (j+1) (argBest bt j) v vb _ _ _ hst' hP aa (zb (xJ (ye (zb (yQ (ze ?_))))))))))
  cases hb:bt (j+1) (argBest bt j) with
  |true=>
   simp only[if_true];refine zb (wpAny_updateSeq hS' rfl (zb (yQ ?_)));rw[nm]
   refine ze ⟨plainId_quiet F.plain_min_loop _,ih (j+1) _ v _ q5 ad (W.frame _ _ _ hst' λb ai o e=>(wH _ _ (λh:S=b=>ah (by rw[h];exact ai))).trans e) (by simp only[argBest,hb,if_true];exact hP) (we _ hS' rfl) λv' h'' tk'' hP' hk''=>?_⟩
   exact hR v' h'' tk'' hP' λb o J Y e=>hk'' b o J Y ((wH _ _ (Ne.symm Y)).trans (hk' b o J e))
  |false=>
   simp only[zT,if_false];refine zb (yQ ?_);rw[nm]
   refine ze ⟨plainId_quiet F.plain_min_loop _,ih (j+1) _ vb c q5 ad hst' (by simp only[argBest,hb,zT,if_false];exact aa) hS' λv' h'' tk'' hP' hk''=>?_⟩
   exact hR v' h'' tk'' hP' λb o J Y e=>hk'' b o J Y (hk' b o J e)
def zl4(W:Walks prog w A.in1 I fp wr n P St)(bt:Qq6)(Y:xd3 prog w A.in1 P St bt)(S:Addr)(J:S ∉ fp)(hn:0<n){c:Nat}(ad:St 0 s.heap)(hS:s.heap.get? S=some (seqObj "list" #[] c))
  (hR:∀v h' tk,P (argBest bt (n-1)) v->(∀b o,b ∉ wr->b≠S->s.heap.get? b=some o->h'.get? b=some o)->R (.ok (.ret v)) { s with heap:=h',toks:=tk }):codeAny (model prog w) A (.builtin "min.loop" ⟨[.ref I,.none,.ref S],[]⟩) R s:=by
 have af:S ∉ wr:=λh=>J (W.sub _ h)
 have nm:(toString "min" ++ toString ".loop" : String) = "min.loop" := by decide
 refine codeAny_builtin F.entry_min_loop ?_;rw[Around.under_plainId F.plain_min_loop _];refine zb (m:=seqItems? (.ref S)) (wL hS rfl (zb (m:=tryCatch (pyNext (.ref I)) _) (wpAny_tryCatch (W.item 0 s _ _ hn ad λv h' tk hP hst' hk'=>?_))));have hS':=hk' S _ af hS;refine zb (m:=updateSeq S (λ_=>#[v,v])) (wpAny_updateSeq hS' rfl ?_);rw[nm]
 refine ze ⟨plainId_quiet F.plain_min_loop _,zv4 W bt Y S J _ 0 _ v _ rfl hn (W.frame _ _ _ hst' λb ae o e=>(wH _ _ (λh:S=b=>J (by rw[h];exact ae))).trans e) hP (we _ hS' rfl) λv' h'' tk'' hP' hk''=>?_⟩
 exact hR v' h'' tk'' hP' λb o aa ac e=>hk'' b o aa ac ((wH _ _ (Ne.symm ac)).trans (hk' b o aa e))
def zv3
  (h : wpAny (model prog w) A.in1 (pyIter x) (λit J => ∃ I fp wr n P St bt, it = .ref I /\ Walks prog w A.in1 I fp wr n P St /\ St 0 J.heap /\ (∀ b ∈ fp, b < J.heap.objs.size) /\ 0 < n /\ xd3 prog w A.in1 P St bt /\
   ∀v h' tk,P (argBest bt (n-1)) v->(∀b o,b ∉ wr->J.heap.get? b=some o->h'.get? b=some o)->Q v { J with heap:=h',toks:=tk }) E s):wpAny (model prog w) A (call (.builtin "min") [x]) Q E s:=by
 have nm:(toString "min" ++ toString ".loop" : String) = "min.loop" := by decide
 refine call_function_tree F.kind_min F.plain_min F.entry_min (F.args_min1 _) ?_;refine zb (m:=Builtin.Builtins.bindParams "min" ["key","default"] 0 ⟨[],[]⟩) (wpAny_of_eq (show Builtin.Builtins.bindParams "min" ["key","default"] 0 ⟨[],[]⟩=pure [none,none] from rfl) (zb (ze (zb (wV h (λit J h₂=>?_) λ_ _ e=>e)))));obtain⟨I,fp,wr,n,P,St,bt,rfl,W,aa,ac,hn,Y,hQ⟩:=h₂;refine zb (xD ?_);rw[nm];refine ze ⟨plainId_quiet F.plain_min_loop _,zl4 W bt Y J.heap.objs.size (λhm=>wf _ (ac _ hm)) hn (W.frame _ _ _ aa λb _ o e=>zg _ e) (zr _ rfl) λv h' tk hP hk=>?_⟩;exact hQ v h' tk hP λb o ad e=>hk b o ad (zJ (zw e)) (zg _ e)
end
def ltP(a b:QqP):Bool:=HT.qA [a.1,a.2] [b.1,b.2]
def qv:ltP a b=true↔a.1<b.1\/(a.1=b.1/\a.2<b.2):=by
 unfold ltP HT.qA HT.qA HT.qA
 by_cases h:a.1=b.1
 ·by_cases h2 : a.2 = b.2
  ·simp[h,h2]
  ·simp[h,h2]
 ·simp[h]
def Wy(a:QqP):ltP a a=false:=by
 cases h:ltP a a with
 |false=>rfl
 |true=>rw[qv] at h;lia
def Jr(h1:ltP a b=true)(h2:ltP b c=true):ltP a c=true:=by
 rw[qv] at *;lia
theorem WU(hi:∀a,bt a a=false)(ht:∀a b c,bt a b=true->bt b c=true->bt a c=true):∀k,argBest bt k<=k/\∀i,i<=k->bt i (argBest bt k)=false
 |0=>⟨zj _,λi h=>by
  have e:i=0:=q5
  subst e;exact hi 0⟩
 | k + 1 => by
  obtain⟨h1,h2⟩:=WU hi ht k
  cases J:bt (k+1) (argBest bt k) with
  | true =>
   have e:argBest bt (k+1)=k+1:=by simp only[argBest,J,if_true]
   rw[e];refine⟨zj _,λi h=>?_⟩
   by_cases hk:i=k+1
   ·subst hk;exact hi _
   ·cases W : bt i (k + 1) with
    |false=>rfl
    |true=>
     have z:=ht _ _ _ W J
     rw[h2 i q5] at z
     cases z
  |false=>
   have e:argBest bt (k+1)=argBest bt k:=by simp only[argBest,J,zT,if_false]
   rw[e]
   refine⟨q5,λi h=>?_⟩
   by_cases hk:i=k+1
   ·subst hk;exact J
   ·exact h2 i q5
section
variable {X:Cx}{A:AC}
def Kb(h:Heap)(ks:List (Int × Int))(bs:Qqc):Prop:=∀(i:Nat) (k:QqP) (b:Addr),ks[i]?=some k->bs[i]?=some b->∃its:List Value,IsTup h b its.toArray/\Vals [.int k.1,.int k.2] its
def zB7(hc:X.calm=true)(hu:X.A.units+1<cLine):qy X (.builtin "min") (λxs H Q=>∃(p:Addr) (ks:List (Int × Int)) (bs:Qqc),xs=[.ref p]/\SqL X.K H p (bs.map V.ref)/\0<ks.length/\bs.length=ks.length /\
  (∀(i:Nat) (k:QqP) (b:Addr),ks[i]?=some k->bs[i]?=some b->SqT X.K H b [.int k.1,.int k.2])/\∀(j:Nat) (k:QqP) (b:Addr),ks[j]?=some k->bs[j]?=some b->(∀k'∈ks,ltP k' k=false)->Q (.ref b) H):=by
 intro pins s σ H xs us Q I r h;obtain⟨p,ks,bs,rfl,hq,hn,J,ae,q⟩:=h
 cases r with
 | cons r rr =>
  cases rr;cases r;obtain⟨its,rv,pl,_⟩:=I.list hq;have hl:=pl.isList
  have af:p<s.heap.objs.size:=by obtain⟨_,e,_⟩:=hl;exact zw e
  have hsz:its.length=bs.length:=by have:=rv.length;simpa using this.symm
  have ac:∀(i:Nat) (v:Value),its[i]?=some v->∃b,bs[i]?=some b/\v=.ref b:=λi v e=>by
   have hi:i<bs.length:=by rw[<- hsz];exact(zu.mp e).1
   obtain⟨u,W,e2⟩:=rv.get (i:=i) (x:=V.ref bs[i]) (by simp[hi])
   rw[e] at W;cases W;exact⟨bs[i],zd hi,e2⟩
  have ad:Kb s.heap ks bs:=λi k b W e2=>by
   obtain⟨aa,r2,p2,_⟩:=I.tuple (ae i k b W e2);exact⟨aa,p2,r2⟩
  have Y:∀{h h':Heap},Kb h ks bs->(∀b∈bs,∀o,h.get? b=some o->h'.get? b=some o)->Kb h' ks bs:=λ{h h'} ok kp i k b W e2=>by
   obtain⟨aa,⟨o,ho,t⟩,r2⟩:=ok i k b W e2;exact⟨aa,⟨o,kp b (zV e2) o ho,t⟩,r2⟩
  have bsz:∀b∈bs,b<s.heap.objs.size:=λb hb=>by
   obtain⟨i,hi⟩:=yp.mp hb
   have hi':i<ks.length:=by rw[<- J];exact(zu.mp hi).1
   obtain⟨_,⟨o,ho,_⟩,_⟩:=ad i ks[i] b (zd hi') hi;exact zw ho
  refine zv3 (vd hl ⟨s.heap.objs.size,[s.heap.objs.size,p]++bs,[s.heap.objs.size],its.toArray.size,_,_,λi j=>ltP (ks[i]?.getD (0,0)) (ks[j]?.getD (0,0)),rfl,
   Walks.more (bs:=bs) (Ok:=λh=>Kb h ks bs) (Walks.list (A:=X.A.in1) (I.ok.hd hc) _ p (zJ af) _) (λb hb z=>by rw[zE.mp z] at hb;exact wf _ (bsz _ hb)) (λh h' ok kp=>Y ok kp),
   ⟨⟨⟨_,zr _ rfl,rfl,rfl⟩,hl.push _⟩,Y ad λb _ o e=>zg _ e⟩,λb hb=>?_,?_,λt i j vi vj s' Q' E' st hi hj hQ=>?_,λv h' tk hP hk=>?_⟩)
  ·rcases xk.mp hb with hb | hb
   ·simp only [zn, xb, or_false] at hb
    rcases hb with rfl |rfl
    ·simp[Heap.push]
    ·exact yt af (by simp[Heap.push])
   ·exact yt (bsz b hb) (by simp[Heap.push])
  ·rw[zt,hsz,J];exact hn
  ·obtain ⟨b1, W, rfl⟩ := ac i vi (by simpa using hi)
   obtain⟨b2,e2,rfl⟩:=ac j vj (by simpa using hj)
   have h1:i<ks.length:=by rw[<- J];exact(zu.mp W).1
   have h2:j<ks.length:=by rw[<- J];exact(zu.mp e2).1
   obtain⟨i1,p1,r1⟩:=st.2 i ks[i] b1 (zd h1) W;obtain⟨i2,p2,r2⟩:=st.2 j ks[j] b2 (zd h2) e2;dsimp only at hQ;rw[zd h1,zd h2] at hQ;exact(HT.VC (ns:=[ks[i].1,ks[i].2]) (ms:=[ks[j].1,ks[j].2]) p1 p2 (qf r1) (qf r2) hu hQ:wpAny (model X.prog X.w) X.A.in1 (compareOp .Lt _ _) Q' E' s')
  ·obtain ⟨m1, m2⟩ := WU (bt := λi j => ltP (ks[i]?.getD (0, 0)) (ks[j]?.getD (0, 0))) (λa => Wy _) (λa b c x y => Jr x y) (its.toArray.size - 1)
   obtain⟨b,W,rfl⟩:=ac _ v (by simpa using hP)
   generalize argBest (λi j=>ltP (ks[i]?.getD (0,0)) (ks[j]?.getD (0,0))) (its.toArray.size-1)=m at *
   have h1:m<ks.length:=by rw[<- J];exact(zu.mp W).1
   refine⟨.ref b,H,I.kept (zf3 hk),rfl,q m ks[m] b (zd h1) W λk' hk'=>?_⟩;obtain⟨i,hi,rfl⟩:=List.mem_iff_getElem.mp hk'
   have z:=m2 i (by rw[zt,hsz,J];lia)
   rw[zd hi,zd h1] at z;exact z
def Vt{K:Qq5}{G:QqE}{Z:QqA}{H:Hp}:∀{ks:List (Int × Int)}{xs:List V},Reps K G Z H (ks.map λk=>.tup [.int k.1,.int k.2]) xs->∃bs:List Addr,xs=bs.map V.ref/\bs.length=ks.length /\
  ∀(i:Nat) (k:QqP) (b:Addr),ks[i]?=some k->bs[i]?=some b->Rep K G Z H (.tup [.int k.1,.int k.2]) (.ref b)
 |[],xs,h=>⟨[],h.nil_inv,rfl,λi k b e _=>by simp at e⟩
 | k :: ks, xs, h => by
  obtain⟨v,r,rfl,q,t⟩:=Reps.split h;obtain⟨bs,rfl,hl,hb⟩:=Vt t;obtain⟨b,ys,rfl,sq,rs⟩:=q.tup_inv
  refine⟨b::bs,rfl,by rw[zP,zP,hl],λi k' b' Y J=>?_⟩
  cases i with
  |zero=>
   rw[List.getElem?_cons_zero] at Y J;cases Y;cases J;exact .tup_mk sq rs
  |succ i=>
   rw[List.getElem?_cons_succ] at Y J;exact hb i k' b' Y J
noncomputable def xB8:List D->(D->Prop)->Prop:=λes k=>∃ks:List (Int × Int),es=[.lst (ks.map λk=>.tup [.int k.1,.int k.2])]/\0<ks.length/\∀m∈ks,(∀k'∈ks,ltP k' m=false)->k (.tup [.int m.1,.int m.2])
def xb8:vV A (λxs H Q=>∃(p:Addr) (ks:List (Int × Int)) (bs:Qqc),xs=[.ref p]/\SqL A.K H p (bs.map V.ref)/\0<ks.length/\bs.length=ks.length /\
  (∀(i:Nat) (k:QqP) (b:Addr),ks[i]?=some k->bs[i]?=some b->SqT A.K H b [.int k.1,.int k.2])/\∀(j:Nat) (k:QqP) (b:Addr),ks[j]?=some k->bs[j]?=some b->(∀k'∈ks,ltP k' k=false)->Q (.ref b) H) xB8:=by
 rintro os n rho sg H ds vs es ws k Q I rs ⟨ks,rfl,hn,q⟩ hQ;obtain⟨v,rfl,r⟩:=qz rs;obtain⟨a,xs,rfl,sq,rr⟩:=r.lst_inv;obtain⟨bs,rfl,hl,Y⟩:=Vt rr;refine⟨a,ks,bs,rfl,sq.sq,hn,hl,λi k b J W=>?_,λj k b J W hm=>hQ _ _ _ ⟨os,I.push (Y j k b J W)⟩ (q k (zV J) hm)⟩;obtain⟨b',e,sq'⟩:=QI (Y i k b J W);cases e;exact sq'
end
def Qj(x:Nat):Nat:=(x*2147483648)%18446744073709551616+x/8589934592
def zq6{x:Nat}(h:x<18446744073709551616):Qj x<18446744073709551616:=by
 unfold Qj;lia
def zF4{x y:Nat}(hx:x<18446744073709551616)(hy:y<18446744073709551616)(h:Qj x=Qj y):x=y:=by
 unfold Qj at h;have e1:(x*2147483648)%18446744073709551616=(x%8589934592)*2147483648:=Nat.mul_mod_mul_right 2147483648 x 8589934592;have Y:(y*2147483648)%18446744073709551616=(y%8589934592)*2147483648:=Nat.mul_mod_mul_right 2147483648 y 8589934592;rw[e1,Y] at h
 have h1:x/8589934592<2147483648:=q5
 have h2:y/8589934592<2147483648:=q5
 generalize hq:x/8589934592=q at *;generalize hq':y/8589934592=q' at *;generalize hr:x%8589934592=r at *;generalize hr':y%8589934592=r' at *
 have W:x=8589934592*q+r:=q5
 have J:y=8589934592*q'+r':=q5
 omega +splitDisjunctions
def zv1{a b:Nat}(ha:a<18446744073709551616)(W:b<18446744073709551616)(h:a*11400714785074694791%18446744073709551616=b*11400714785074694791%18446744073709551616):a=b:=by
 have key:∀c,c<18446744073709551616->(c*11400714785074694791%18446744073709551616)*614540362697595703%18446744073709551616=c:=λc J=>by
  rw[Nat.mod_mul_mod,Nat.mul_assoc]
  have e:11400714785074694791*614540362697595703=18446744073709551616*(11400714785074694791*614540362697595703/18446744073709551616)+1:=q9
  rw[e,Nat.mul_add,Nat.mul_one,<- Nat.mul_assoc,Nat.mul_comm c,Nat.mul_assoc,Nat.mul_add_mod];exact Nat.mod_eq_of_lt J
 rw[<- key a ha,<- key b W,h]
noncomputable def Zd(acc h:Nat):Nat:=Qj ((acc+h*14029467366897019727)%18446744073709551616)*11400714785074694791%18446744073709551616
def UM(acc h:Nat):Zd acc h<18446744073709551616:=yI _ q9
def zw4{a b h g:Nat}(e:Zd a h=Zd b g):(a+h*14029467366897019727)%18446744073709551616=(b+g*14029467366897019727)%18446744073709551616:=
 zF4 (yI _ q9) (yI _ q9) (zv1 (zq6 (yI _ q9)) (zq6 (yI _ q9)) e)
def zK8(m p1 p2 W J:Nat)(a h:Nat):Nat:=(((a+h*p2)%m*W)%m+(a+h*p2)%m/J)*p1%m
noncomputable def zm4(m J:Nat)(a:Nat):Int:=if a == m-1 then 1546275796 else if a<J then a else(a:Int)-m
noncomputable def xD0(m p1 p2 p5 Y W J x:Nat)(hs:Qq4):Int:=zm4 m J ((hs.foldl (λa h=>zK8 m p1 p2 Y W a (h%(m:Int)).toNat) p5+(hs.length ^^^ (p5 ^^^ x)))%m)
def zE5(m p1 p2 p5 W J Y x:Nat)(h g:Int):xD0 m p1 p2 p5 W J Y x [h,g]=zm4 m Y ((zK8 m p1 p2 W J (zK8 m p1 p2 W J p5 (h%(m:Int)).toNat) (g%(m:Int)).toNat+(2 ^^^ (p5 ^^^ x)))%m):=rfl
def zE4(hs:Qq4):Builtin.Tuple.tupleHashOf hs=xD0 (2^64) 11400714785074694791 14029467366897019727 2870177450012600261 (2^31) (2^33) (2^63) 3527539 hs:=rfl
def zw5(a h:Nat):zK8 18446744073709551616 11400714785074694791 14029467366897019727 2147483648 8589934592 a h=Zd a h:=rfl
def zO4(h g:Int):Builtin.Tuple.tupleHashOf [h,g]=zm4 18446744073709551616 9223372036854775808 ((Zd (Zd 2870177450012600261 (h%18446744073709551616).toNat) (g%18446744073709551616).toNat+2870177450013471924)%18446744073709551616):=by
 rw[zE4,zE5,<- zw5,<- zw5]
 have e1:(2^64:Nat)=18446744073709551616:=q9
 have e2:(2^31:Nat)=2147483648:=q9
 have e3:(2^33:Nat)=8589934592:=q9
 have Y:(2^63:Nat)=9223372036854775808:=q9
 rw[e1,e2,e3,Y]
 have W:((18446744073709551616:Nat):Int)=18446744073709551616:=q9
 have J:2 ^^^ (2870177450012600261 ^^^ 3527539)=2870177450013471924:=q9
 rw[W,J]
def zM6{a b:Nat}(ha:a<18446744073709551616)(Y:b<18446744073709551616)(h:zm4 18446744073709551616 9223372036854775808 a=zm4 18446744073709551616 9223372036854775808 b):a=b\/a=18446744073709551615\/b=18446744073709551615:=by
 unfold zm4 at h
 by_cases h1:a=18446744073709551615
 ·exact .inr (.inl h1)
 ·by_cases h2 : b = 18446744073709551615
  ·exact .inr (.inr h2)
  ·have W : (a == 18446744073709551616 - 1) = false := by simpa using h1
   have J:(b == 18446744073709551616-1)=false:=by simpa using h2
   rw[W,J] at h;simp only[zT,if_false] at h
   split at h<;>split at h<;>lia
def Mid(h:Int):Prop:=-1000000000000000000<h/\h<1000000000000000000
def zq7{x:Nat}(hx:x<18446744073709551616):Qj x=(x%8589934592)*2147483648+x/8589934592:=by
 unfold Qj;rw[show(x*2147483648)%18446744073709551616=(x%8589934592)*2147483648 from Nat.mul_mod_mul_right 2147483648 x 8589934592]
def zl8{x y:Nat}(hx:x<18446744073709551616)(hy:y<18446744073709551616){r:Int}(h0:0<=r)(h1:r<18446744073709551616)(h:∃k:Int,(Qj x:Int)-Qj y=r+18446744073709551616*k) :
  ∃c1 Y:Int,(c1=0\/c1=1)/\(Y=0\/Y=1)/\∃k:Int,(x:Int)-y=8589934592*(r%2147483648)+r/2147483648+c1-8589934592*Y+18446744073709551616*k:=by
 obtain⟨k,h⟩:=h;rw[zq7 hx,zq7 hy] at h
 have hr:r=2147483648*(r/2147483648)+r%2147483648:=q5
 have r1:0<=r%2147483648/\r%2147483648<2147483648:=q5
 have r2:0<=r/2147483648/\r/2147483648<8589934592:=q5
 generalize r/2147483648=B at *;generalize r%2147483648=A at *
 have ex:(x:Int)=8589934592*(x/8589934592:Nat)+(x%8589934592:Nat):=q5
 have ey:(y:Int)=8589934592*(y/8589934592:Nat)+(y%8589934592:Nat):=q5
 have x1:x/8589934592<2147483648:=q5
 have y1:y/8589934592<2147483648:=q5
 have x2:x%8589934592<8589934592:=q5
 have y2:y%8589934592<8589934592:=q5
 generalize x/8589934592=xa at *;generalize y/8589934592=ya at *;generalize x%8589934592=W at *;generalize y%8589934592=J at *
 have e:(W:Int)*2147483648+xa-(J*2147483648+ya)=2147483648*B+A+18446744073709551616*k:=q5
 obtain⟨u,hu⟩:∃u:Int,(xa:Int)-ya-A=2147483648*u:=⟨B+8589934592*k-(W-J),q5⟩
 have aa:u=0\/u=-1:=q5
 have hb:(W:Int)-J=B+8589934592*k-u:=q5
 have ac:k=0\/k=-1:=q5
 exact⟨-u,-k,q5,q5,u,q5⟩
def Xe(N M:Nat):∃q:Int,(N:Int)=M*q+((N%M:Nat):Int):=⟨((N/M:Nat):Int),by
 have:=Nat.div_add_mod N M
 rw[<- Int.natCast_mul,<- Int.natCast_add,this]⟩
def zK6{a b n m M p1 p2:Nat}(h:(a*p1%M+n*p2)%M=(b*p1%M+m*p2)%M):∃k:Int,((a:Int)-b)*p1=((m:Int)-n)*p2+M*k:=by
 obtain⟨q3,e3⟩:=Xe (a*p1) M;obtain⟨q4,e4⟩:=Xe (b*p1) M;obtain⟨Y,J⟩:=Xe (a*p1%M+n*p2) M;obtain⟨W,e6⟩:=Xe (b*p1%M+m*p2) M;rw[h] at J;simp only[Int.natCast_add,Int.natCast_mul] at e3 e4 J e6;generalize ((a*p1%M:Nat):Int)=ra at *;generalize ((b*p1%M:Nat):Int)=rb at *;generalize (((b*p1%M+m*p2)%M:Nat):Int)=rc at *
 exact⟨q3-q4+Y-W,by grind⟩
def zx6{d p M k t i q:Int}(h:d*p=t+M*k)(hi:i*p=M*q+1):∃k,d=t*i+M*k:=⟨i*k-q*d,by grind⟩
def zZ5{J g h p2 M:Nat}{z k:Int}(e:(((J+g*p2)%M:Nat):Int)-((J+h*p2)%M:Nat)=z+M*k):∃k:Int,((g:Int)-h)*p2=z+M*k:=by
 obtain⟨Y,e3⟩:=Xe (J+g*p2) M;obtain⟨W,e4⟩:=Xe (J+h*p2) M;simp only[Int.natCast_add,Int.natCast_mul] at e3 e4;generalize (((J+g*p2)%M:Nat):Int)=ra at *;generalize (((J+h*p2)%M:Nat):Int)=rb at *
 exact⟨k+Y-W,by grind⟩
def zo4{d z M k:Int}(h:d=z+M*k):d%M=z%M:=by rw[h,Int.add_mul_emod_self_left]
noncomputable def xo6(t:Int):Int:=(t*14029467366897019727*614540362697595703)%18446744073709551616
noncomputable def XM(t W J:Int):Int:=((8589934592*(xo6 t%2147483648)+xo6 t/2147483648+W-8589934592*J)*839798700976720815)%18446744073709551616
def Wz{g h n m:Nat}(e:Zd (Zd 2870177450012600261 g) n=Zd (Zd 2870177450012600261 h) m):∃W J:Int,(W=0\/W=1)/\(J=0\/J=1)/\((g:Int)-h)%18446744073709551616=XM ((m:Int)-n) W J:=by
 have e1:=zw4 e;obtain⟨k,e2⟩:=zK6 (a:=Qj ((2870177450012600261+g*14029467366897019727)%18446744073709551616)) (b:=Qj ((2870177450012600261+h*14029467366897019727)%18446744073709551616)) (n:=n) (m:=m) (M:=18446744073709551616) (p1:=11400714785074694791) (p2:=14029467366897019727) e1
 obtain⟨k2,e3⟩:=zx6 (i:=614540362697595703) (q:=379806830464837242) e2 q9
 have e4:=zo4 e3
 have r0:0<=xo6 ((m:Int)-n)/\xo6 ((m:Int)-n)<18446744073709551616:=⟨wR _ q9,yv _ q9⟩
 obtain⟨W,J,Y,hc2,k3,e5⟩:=zl8 (yI _ q9) (yI _ q9) r0.1 r0.2 ⟨_,by
  have z:=Int.emod_add_mul_ediv ((Qj ((2870177450012600261+g*14029467366897019727)%18446744073709551616):Int)-Qj ((2870177450012600261+h*14029467366897019727)%18446744073709551616)) 18446744073709551616;rw[show(Qj ((2870177450012600261+g*14029467366897019727)%18446744073709551616)-Qj ((2870177450012600261+h*14029467366897019727)%18446744073709551616):Int)%18446744073709551616=xo6 ((m:Int)-n) from e4] at z
  exact z.symm⟩
 obtain⟨k4,e6⟩:=zZ5 (M:=18446744073709551616) e5
 obtain⟨k5,e7⟩:=zx6 (i:=839798700976720815) (q:=638699622168397319) e6 q9
 exact⟨W,J,Y,hc2,zo4 e7⟩
def xt9(e:Int):Int:=if e<9223372036854775808 then e else e-18446744073709551616
noncomputable def okC(e:Int):Bool:=decide (20000<(xt9 (e%18446744073709551616)+10000)%1000000000000000)
noncomputable def xo0(k:Nat):Bool:=okC (XM k 0 0)&&okC (XM k 0 1)&&okC (XM k 1 0)&&okC (XM k 1 1)
noncomputable def xn9(k:Nat):Bool:=okC (XM (-k) 0 0+926380684836714815)&&okC (XM (-k) 0 1+926380684836714815)&&okC (XM (-k) 1 0+926380684836714815)&&okC (XM (-k) 1 1+926380684836714815)
def xo9(f:Nat->Bool):Nat->Bool
 |0=>true
 |n+1=>f n&&xo9 f n
theorem zb8:∀{n k:Nat},xo9 f n=true->k<n->f k=true
 |0,k,_,h=>by lia
 |n+1,k,e,h=>by
  unfold xo9 at e;rw[zW] at e
  by_cases hk:k=n
  ·rw[hk];exact e.1
  ·exact zb8 e.2 q5
def zY1:xo9 (λk=>xo0 (k+1)) 2000=true:=w5
def zY0:xo9 xn9 2000=true:=w5
def QD{k:Int}(h:Mid k):rawHash k=if k=-1 then -2 else k:=by
 obtain⟨h1,h2⟩:=h
 have e:((k.natAbs:Nat):Int)%((2^61-1:Nat):Int)=(k.natAbs:Int):=Int.emod_eq_of_lt q5 q5
 unfold rawHash;rw[e];dsimp only
 have J:(if k<0 then -(k.natAbs:Int) else(k.natAbs:Int))=k:=by split<;>lia
 rw[J]
 by_cases hk:k=-1
 ·rw[if_pos (by simpa using hk),if_pos hk]
 ·rw[if_neg (by simpa using hk),if_neg hk]
def WG{k:Int}(h:Mid k):hashInt k=if k=-1 then -2 else k:=by
 unfold hashInt;rw[QD h]
 by_cases hk:k=-1
 ·rw[if_pos hk];rfl
 ·rw[if_neg hk,if_neg (by simpa using hk)]
def zq8{a:Nat}(ha:a<18446744073709551616):reduceHash (zm4 18446744073709551616 9223372036854775808 a)=zm4 18446744073709551616 9223372036854775808 a:=by
 have b:-9223372036854775808<=zm4 18446744073709551616 9223372036854775808 a/\zm4 18446744073709551616 9223372036854775808 a<9223372036854775808/\zm4 18446744073709551616 9223372036854775808 a≠-1:=by
  unfold zm4
  by_cases h1:a=18446744073709551615
  ·rw[if_pos (by simpa using h1)];decide
  ·rw [if_neg (by simpa using h1)]
   split<;>lia
 generalize zm4 18446744073709551616 9223372036854775808 a=x at b;unfold reduceHash
 have J:(decide (-(2^63:Int)<=x)&&decide (x<2^63))=true:=by
  rw[zW,yf,yf];lia
 rw[if_pos J,if_neg (by simpa using b.2.2)]
def FormK(k:Int):Prop:=(∃a e:Int,k=1000000000000000*a+e/\-4500<=e/\e<=4500)/\-900000000000000000<k/\k<900000000000000000
def zy5{h E a e:Int}(h1:h=1000000000000000*a+e)(h2:-10000<=e)(h3:e<=10000)(h4:-9000000000000000000<h)(h5:h<9000000000000000000)(J:h%18446744073709551616=E%18446744073709551616)(ok:okC E=true):False:=by
 have o:=of_decide_eq_true ok;rw[<- J] at o
 have W:xt9 (h%18446744073709551616)=h:=by unfold xt9;split<;>lia
 rw[W] at o;lia
def zK7{a b:Nat}(ha:a<18446744073709551616)(J:b<18446744073709551616)(h:(a+2870177450013471924)%18446744073709551616=(b+2870177450013471924)%18446744073709551616):a=b:=q5
def FormK.hash{k:Int}(h:FormK k):∃a e:Int,hashInt k=1000000000000000*a+e/\-4501<=e/\e<=4501/\-900000000000000001<hashInt k/\hashInt k<900000000000000001:=by
 obtain⟨⟨a,e,h1,h2,h3⟩,h4,h5⟩:=h
 rw[WG ⟨q5,q5⟩]
 by_cases hk:k=-1
 ·rw [if_pos hk]
  exact⟨0,-2,q5,q5,q5,q5,q5⟩
 ·rw [if_neg hk]
  exact⟨a,e,h1,q5,q5,q5,q5⟩
def Jl{n:Int}(h0:0<=n)(h1:n<2000):(((hashInt n)%18446744073709551616).toNat:Int)=n:=by
 rw[WG ⟨q5,q5⟩,if_neg q5]
 lia
def zB6{g h:Nat}{t:Nat}{x y:Int}(hx:(g:Int)=x%18446744073709551616)(hy:(h:Int)=y%18446744073709551616){c1 Y:Int}(aa:c1=0\/c1=1)(hc2:Y=0\/Y=1)(e:((g:Int)-h)%18446744073709551616=XM ((t+1:Nat):Int) c1 Y)(ht:t<2000)
  {a b W J:Int} (h1:x=1000000000000000*a+W) (h2:-4501<=W) (h3:W<=4501) (h4:-900000000000000001<x) (h5:x<900000000000000001) (g1:y=1000000000000000*b+J) (g2:-4501<=J) (g3:J<=4501) (g4:-900000000000000001<y) (g5:y<900000000000000001):False:=by
 have o:=zb8 zY1 ht;unfold xo0 at o;simp only[zW] at o;obtain⟨⟨⟨o1,o2⟩,o3⟩,o4⟩:=o
 have ok:okC (XM ((t+1:Nat):Int) c1 Y)=true:=by
  rcases aa with rfl |rfl<;>rcases hc2 with rfl |rfl
  ·exact o1
  ·exact o2
  ·exact o3
  ·exact o4
 refine zy5 (h:=x-y) (a:=a-b) (e:=W-J) q5 q5 q5 q5 q5 ?_ ok
 rw[<- e,hx,hy];lia
def zy0{k l n m:Int}(hk:FormK k)(hl:FormK l)(n0:0<=n)(n1:n<2000)(m0:0<=m)(m1:m<2000)(ac:n≠m):Vl (k,n)≠Vl (l,m):=λe=>by
 obtain⟨a,Y,h1,h2,h3,h4,h5⟩:=hk.hash;obtain⟨b,eb,g1,g2,g3,g4,g5⟩:=hl.hash;have e':reduceHash (Builtin.Tuple.tupleHashOf [hashInt k,hashInt n])=reduceHash (Builtin.Tuple.tupleHashOf [hashInt l,hashInt m]):=e
 rw[zO4,zO4,zq8 (yI _ q9),zq8 (yI _ q9)] at e'
 have en:=Jl n0 n1;have em:=Jl m0 m1
 have ek:((((hashInt k)%18446744073709551616).toNat:Nat):Int)=hashInt k%18446744073709551616:=Int.toNat_of_nonneg (wR _ q9)
 have el:((((hashInt l)%18446744073709551616).toNat:Nat):Int)=hashInt l%18446744073709551616:=Int.toNat_of_nonneg (wR _ q9)
 generalize (hashInt n%18446744073709551616).toNat=n' at *;generalize (hashInt m%18446744073709551616).toNat=m' at *;generalize (hashInt k%18446744073709551616).toNat=k' at *;generalize (hashInt l%18446744073709551616).toNat=l' at *
 have aa:∀(g W:Nat) (x:Int) (a Y:Int),(g:Int)=x%18446744073709551616->W<2000->x=1000000000000000*a+Y->-4501<=Y->Y<=4501->-900000000000000001<x->x<900000000000000001->(Zd (Zd 2870177450012600261 g) W+2870177450013471924)%18446744073709551616=18446744073709551615->False:=λg W x a Y hx hn i1 i2 i3 i4 i5 z=>by
  have z1:Zd (Zd 2870177450012600261 g) W=15576566623696079691:=by
   have:=UM (Zd 2870177450012600261 g) W;lia
  have z2:Zd (Zd 2870177450012600261 926380684836714815) 0=15576566623696079691:=w5
  obtain⟨c1,c2,J,hc2,z3⟩:=Wz (z1.trans z2.symm);have o:=zb8 zY0 hn;unfold xn9 at o;simp only[zW] at o;obtain⟨⟨⟨o1,o2⟩,o3⟩,o4⟩:=o
  have et:((0:Nat):Int)-(W:Int)=-(W:Int):=q5
  rw[et] at z3
  have ok:okC (XM (-(W:Int)) c1 c2+926380684836714815)=true:=by
   rcases J with rfl |rfl<;>rcases hc2 with rfl |rfl
   ·exact o1
   ·exact o2
   ·exact o3
   ·exact o4
  refine zy5 i1 q5 q5 q5 q5 ?_ ok
  rw[<- z3,<- hx]
  have:((926380684836714815:Nat):Int)=926380684836714815:=q9
  rw[this];lia
 rcases zM6 (yI _ q9) (yI _ q9) e' with z |z |z
 ·have z1 := zK7 (UM ..) (UM ..) z
  rcases Int.lt_or_gt_of_ne ac with ad |ae
  ·obtain ⟨c1, c2, J, hc2, z3⟩ := Wz z1
   obtain⟨t,ht⟩:∃t:Nat,(m':Int)-n'=((t+1:Nat):Int):=⟨(m-n-1).toNat,q5⟩
   rw[ht] at z3
   exact zB6 ek el J hc2 z3 q5 h1 h2 h3 h4 h5 g1 g2 g3 g4 g5
  ·obtain ⟨c1, c2, J, hc2, z3⟩ := Wz z1.symm
   obtain⟨t,ht⟩:∃t:Nat,(n':Int)-m'=((t+1:Nat):Int):=⟨(n-m-1).toNat,q5⟩
   rw[ht] at z3
   exact zB6 el ek J hc2 z3 q5 g1 g2 g3 g4 g5 h1 h2 h3 h4 h5
 ·exact aa k' n' _ a Y ek q5 h1 h2 h3 h4 h5 z
 ·exact aa l' m' _ b eb el q5 g1 g2 g3 g4 g5 z
end L2
namespace HT
section
open PySem.SeqAt
open PySem.AutoSeq1 (wpAny_loadPart')
open PySem.MeetsSeq PySem.MeetsSeq2 PySem.MeetsSeq3
end
section
variable {prog:Qq3}{w:Qqa}{A:Around}{E:QqV}{s:Qq1}
end
end HT
namespace L2
section
variable {X:Cx}{A:AC}
end
end L2
namespace L2
open PySem PySem.Spec PyProof.Rows PySem.SeqAt
section
variable {A:AC}{X:Cx}{pos:Pos}
end
section
variable {X:Cx}{A:AC}
noncomputable def zd9(X:Cx):List V->Hp->VK->Prop:=λxs H Q=>∃(p:Addr) (ns:Qq4),xs=[.ref p]/\SqT X.K H p (ns.map V.int)/\ns.length<2000/\∀ms:List Int,ms.Perm ns->ms.Pairwise (·<=·)->∀l,H l=none->Q (.ref l) (upd H l (.lst (ms.map V.int)))
def JL:qy X (.builtin "sorted") (zd9 X):=by
 intro pins s σ H xs us Q I r h;obtain⟨p,ns,rfl,hq,hn,q⟩:=h
 cases r with
 |cons r Y=>
  cases Y;cases r;obtain⟨its,rv,pl,_⟩:=I.tuple hq
  have hsz:its.length=ns.length:=by have:=rv.length;simpa using this.symm
  refine Ks (λ_ _ _ hz h=>Srt.za8 pl h hz) (qf rv) q5 λJ ms hi W hs=>?_
  obtain⟨e,he⟩:=sortedAll_at s.heap its J;have aa:ms.length=ns.length:=W.length_eq;have hf:H (s.heap.objs.size+1)=none:=I.hok.fresh (wt _);refine⟨.ref (s.heap.objs.size+1),_,I.laid (t':=s.toks) (o:=.lst (ms.map V.int)) (λb u e=>sortedAll_old e) (wt _) ?_,rfl,q ms W hs _ hf⟩
  exact⟨by rw[zf];exact zG (show ms.length<=2000 by lia) q9,J.toList,e,jK hi,he⟩
noncomputable def zL7:List D->(D->Prop)->Prop:=λes k=>∃ns:List Int,es=[.tup (ns.map D.int)]/\ns.length<2000/\∀ms:List Int,ms.Perm ns->ms.Pairwise (·<=·)->k (.lst (ms.map D.int))
def zm9(hK:X.K=A.K):vV A (zd9 X) zL7:=by
 rintro os n rho sg H ds vs es ws k Q I rs ⟨ns,rfl,W,q⟩ hQ;obtain⟨v,rfl,r⟩:=qz rs;obtain⟨a,xs,rfl,sq,J⟩:=r.tup_inv;have e:=kJ J;subst e;rw[hK.symm] at sq;exact⟨a,ns,rfl,sq.sq,W,λms h1 h2 l Y=>hQ _ _ _ ⟨os,I.newLst jU Y⟩ (q ms h1 h2)⟩
end
section
variable {A:AC}{X:Cx}{pos:Pos}
def zO9(i j k:Nat)(ta tb:TD):TSD:=λF rho n=>i<rho.length/\j<rho.length/\k<rho.length/\ta rho n λd1 W=>tb rho W λd2 J=>F.nx (((rho.set k (some (.own []))).set j (some d2)).set i (some d1)) J
@[simp] theorem xq2{i j k ta tb F rho n}:zO9 i j k ta tb F rho n=(i<rho.length/\j<rho.length/\k<rho.length/\ta rho n λd1 W=>tb rho W λd2 J=>F.nx (((rho.set k (some (.own []))).set j (some d2)).set i (some d1)) J):=rfl
def zs0{i j k:Nat}{x y z:Str}{a b:Expr}{ta tb:TD}{px py J pt pl:Pos}{Y k2 W}(hK:X.K=A.K)(hc:X.calm=true)(hN:X.N.Nodup)(hi:X.N[i]?=some x)(hj:X.N[j]?=some y)(ad:X.N[k]?=some z)(ai:i≠j)(ah:i≠k)(af:j≠k)
  (hx:Loc X.env.scope x) (hy:Loc X.env.scope y) (hz:Loc X.env.scope z) (pa:PD A X a ta) (pb:PD A X b tb)
  (fx:X.fn x=true\/X.env.scope.names.lookup x=some .local:=by first |exact .inl rfl |exact .inr rfl) (fy:X.fn y=true\/X.env.scope.names.lookup y=some .local:=by first |exact .inl rfl |exact .inr rfl) (fz:X.fn z=true\/X.env.scope.names.lookup z=some .local:=by first |exact .inl rfl |exact .inr rfl)
  (hn:(assignEach [Expr.Name x px,.Name y py,.Name z J] X.env).length=3:=by rfl) (aa:(assignEach [Expr.Name x px,.Name y py,.Name z J] X.env).findIdx? (·.1)=none:=by rfl) (sa:qp a=false:=by rfl) (sb:qp b=false:=by rfl)
  (hs:swapsWithSole [.Tuple [.Name x px,.Name y py,.Name z J] Y pt] (.Tuple [a,b,.List [] pl] k2 W) pos.line X.env=pure false:=by rfl) (hw:swappedStores [.Tuple [.Name x px,.Name y py,.Name z J] Y pt] (.Tuple [a,b,.List [] pl] k2 W) X.env=pure none:=by rfl)
  (h1:(assignEach [.Tuple [.Name x px,.Name y py,.Name z J] Y pt] X.env).map (·.2)=[assign (.Tuple [.Name x px,.Name y py,.Name z J] Y pt) X.env]:=by rfl) :
  PSD A X (.Assign [.Tuple [.Name x px,.Name y py,.Name z J] Y pt] (.Tuple [a,b,.List [] pl] k2 W) pos) (zO9 i j k ta tb):=by
 exists (by
   refine(ze4 (zs6 (jv pa (jv pb (jv (ze8 Xx) Xx (sE rfl)) (sE sb)) (sE sa))) (zQ0 (n:=3) hc (XR (Uy hN hi hx fx) (XR (Uy hN hj hy fy) (XR (Uy hN ad hz fz) zs5))) hn aa) hs hw h1).imp λE sg H h=>?_;obtain⟨rho,n,F,ds,vs,⟨os,I⟩,⟨ag,ae,ac,ht⟩,ok⟩:=h;refine⟨rho,n,_,ds,vs,⟨os,I⟩,ht,λv1 H1 n1 d1 I1 h1=>⟨rho,n1,_,_,_,I1,h1,λv2 H2 n2 d2 ⟨ak,I2⟩ h2=>?_⟩⟩
   refine⟨wq _,λp hp=>⟨yk (by show 3<=_;decide),λq hq=>⟨q,_,rfl,.inl (.inl yx),rfl,_,_,rfl,_,_,rfl,_,_,rfl,rfl,?_⟩⟩⟩
   obtain⟨aj,J1⟩:=I2.setOwn (es:=[]) (xs:=[]) ac hp .nil
   have J2:=((J1.grow (o:=.tup [v1,v2,.ref p]) hq).set (i:=j) (by simpa using ae)).set (i:=i) (by simpa using ag)
   have e:((sg.set k (some (V.ref p))).set j (some v2)).set i (some v1)=((sg.set i (some v1)).set j (some v2)).set k (some (.ref p)):=by
    rw[set_comm _ _ (Ne.symm af),set_comm _ _ (Ne.symm ah),set_comm _ _ (Ne.symm ai)]
   exact e ▸ ok.nx _ _ _ _ ⟨_,J2⟩ h2)
end
end L2
namespace L2
open PySem PySem.Spec PyProof.Rows PyProof
def zy7(S1 J:List Stmt)(env:Env):execs (S1++J) env=(do match <- execs S1 env with |.next=>execs J env |f=>pure f):=by
 induction S1 with
 |nil=>rw[wC,execs_nil,pure_bind]
 |cons s S1 W=>
  rw[List.cons_append,execs_cons,W,execs_cons,bind_assoc]
  congr 1
  funext f
  cases f<;>simp only[pure_bind]
def XX{M:Model}{A:Around}{env:Env}{E:QqV}{s:Qq1}{S1 W:List Stmt}{Q:Flow->Shared->Prop}(h:wpAny M A (execs S1 env) (λf s'=>match f with |.next=>wpAny M A (execs W env) Q E s' |f=>Q f s') E s):wpAny M A (execs (S1++W) env) Q E s:=λΓ p J=>by
 rw[zy7,Sem.wp_bind'];refine Sem.wp_mono M Γ _ (λf p' s' h'=>?_) (λ_ _ _ h'=>h') _ _ (h Γ p J)
 cases f<;>first |exact h' Γ p' J |exact h'
def zV6{X:Cx}{S1 J:List Stmt}{t u:TS}(h1:PSs X S1 t)(h2:PSs X J u):PSs X (S1++J) (xD3 t u):=by
 intro pins s σ H D I h;refine XX (thn (h1 pins s σ H { D with nx:=u D } I h) λf s1 q=>?_)
 cases f with
 |next=>
  obtain⟨σ',H',I',q⟩:=q;exact h2 pins s1 σ' H' D I' q
 |ret v=>exact q
 |brk=>exact q
 |cont=>exact q
def zr7{A:AC}{X:Cx}{a b:Stmt}{rest:List Stmt}{t u:TSD}(h1:Ql A X [a,b] t)(h2:Ql A X rest u):Ql A X (a::b::rest) (Qi t u):=by
 exists (zV6 (S1:=[a,b]) h1 h2).imp λE sg H h=>by
   obtain⟨rho,n,F,ds,vs,I,ht,ok⟩:=h;exact⟨rho,n,{ F with nx:=u F },ds,vs,I,ht,⟨λrho' n' sg' H' I' k=>⟨rho',n',F,ds,vs,I',k,ok⟩,ok.rt,ok.bk,ok.ct⟩⟩
end L2
open L2
namespace K41
abbrev qZ0:List Str:=["one","other"]
abbrev qZ1:List Str:=["house"]
abbrev qZ2:List Str:=["_law_left_here","_law_house_here"]
abbrev qZ3:List Str:=["_law_left_here"]
abbrev qZ4:List Str:=["_law_left_here","_law_d","_law_things","_law_turn"]
abbrev qZ5:List Str:=["by_name","names","i"]
abbrev qZ6:List Str:=["by_name","names"]
abbrev qZ7:List Str:=["d","by_name","names","i"]
abbrev qZ8:List Str:=["by_name","trees","plain","kind"]
abbrev qZ9:List Str:=["house","tree","box","kind","k"]
abbrev xA1:List Str:=["_law_found","_law_due"]
abbrev xA0:List Str:=["_law_plain_here","_law_place"]
abbrev xz9:List Str:=["_law_edges","_law_place"]
abbrev xz8:List Str:=["_law_left_here","_law_house_here","_law_i"]
abbrev xz7:List Str:=["gone","house","tree","box","kind","k"]
abbrev xz6:List Str:=["_law_house_here","_law_plain_here","_law_kind_here"]
noncomputable def top(i:Nat):Stmt:=PySem.Challenge.pw_boxlayers_k41_nearest_and_best.main.body.getD i (.Pass ⟨0,0,0,0⟩)
abbrev End:=Option (Int × Bool)
abbrev Span:=End × End
def qJ:End->D
 |none=>.non
 |some (n,s)=>.tup [.int n,.bl s]
def Vm:Option Int->D
 |none=>.non
 |some i=>.int i
def ja(s:Span):D:=.tup [qJ s.1,qJ s.2]
def vW(b:List Span):D:=.tup (b.map ja)
def wz(p:Qq4):D:=.tup (p.map D.int)
def Jv:End->Option Int
 |none=>none
 |some (n,s)=>some (if s then n else n+1)
def zg8:End->Option Int
 |none=>none
 |some (n,s)=>some (if s then n else n-1)
noncomputable def liesT(lo hi:Option Int)(x:Int):Bool:=(match lo with |none=>true |some l=>decide (l<=x))&&(match hi with |none=>true |some g=>decide (x<=g))
@[simp] theorem xs5:qJ none=.non:=rfl
@[simp] theorem xs4{n:Int}{s:Bool}:qJ (some (n,s))=.tup [.int n,.bl s]:=rfl
def Wr(e:End):wj (qJ e)=true:=by rcases e with _ |⟨n,s⟩<;>rfl
section
variable {P:Qq3}{w:Qqa}{K:Qq5}{mg:QqM}{base:Heap}{f:Addr}{fd:Qqb}
abbrev YU:Stmt:=top 2
abbrev zn5:List Str:=["low","number","shut"]
def ZP:FnScope zn5 ["low"] (xm YU):=⟨rfl,rfl,rfl,w5,rfl,w5,w5⟩
def YL:TF:=λds n Q=>∃e:End,ds=[qJ e]/\Q (Vm (Jv e)) n
def QM(F:Fun K "least_of" "least_of" YU f fd):FnOk P w K mg base CX0 1 f fd ["low"] (spD K 1 YL):=by
 refine Fun.okD F ZP (λJ A0 outer s H E G Z W=>(zI (kj (yj jY jV (zh 0) vN (yE _)) (zZ (xQ vN)) yT)
  (zI (Yg (m:=3) (zh 0) (vS (k:=2) rfl rfl (xt (xh (i:=1) ZP.nd rfl (lo rfl) q9) (xt (xh (i:=2) ZP.nd rfl (lo rfl) q9) vh))))
  (zZ (xQ (KU (Ye (zh 2)) (zh 1) (km (zh 1) zA))))))) ?_
 rintro ds n Q Y ⟨e,rfl,q⟩
 rcases e with _ |⟨m,s⟩
 ·simp[startD,qJ];exact q
 ·cases s<;>(simp[startD,qJ];exact q)
abbrev jn:Stmt:=top 3
abbrev Kd:List Str:=["high","number","shut"]
def qV:FnScope Kd ["high"] (xm jn):=⟨rfl,rfl,rfl,w5,rfl,w5,w5⟩
def jj:TF:=λds n Q=>∃e:End,ds=[qJ e]/\Q (Vm (zg8 e)) n
def WY(F:Fun K "greatest_of" "greatest_of" jn f fd):FnOk P w K mg base CX0 1 f fd ["high"] (spD K 1 jj):=by
 refine Fun.okD F qV (λJ A0 outer s H E G Z W=>(zI (kj (yj jY jV (zh 0) vN (yE _)) (zZ (xQ vN)) yT)
  (zI (Yg (m:=3) (zh 0) (vS (k:=2) rfl rfl (xt (xh (i:=1) qV.nd rfl (lo rfl) q9) (xt (xh (i:=2) qV.nd rfl (lo rfl) q9) vh))))
  (zZ (xQ (KU (Ye (zh 2)) (zh 1) (jI (zh 1) zA))))))) ?_
 rintro ds n Q Y ⟨e,rfl,q⟩
 rcases e with _ |⟨m,s⟩
 ·simp[startD,qJ];exact q
 ·cases s<;>(simp[startD,qJ];exact q)
abbrev Wg:Stmt:=top 4
abbrev zD0:List Str:=["span","low","high"]
def YQ:FnScope zD0 ["span"] (xm Wg):=⟨rfl,rfl,rfl,w5,rfl,w5,w5⟩
def XZ:TF:=λds n Q=>∃s:Span,ds=[ja s]/\Q (.tup [Vm (Jv s.1),Vm (zg8 s.2)]) n
def zk6(F:Fun K "pair_of" "pair_of" Wg f fd)(F_least_of:Fn P w K mg base "least_of" 1 1 YL)(F_greatest_of:Fn P w K mg base "greatest_of" 1 1 jj):FnOk P w K mg base CX0 2 f fd ["span"] (spD K 1 XZ):=by
 refine Fun.okD F YQ (λW A0 outer s H E G Z J=>(zI (Yg (m:=3) (zh 0) (vS (k:=2) rfl rfl (xt (xh (i:=1) YQ.nd rfl (lo rfl) q9) (xt (xh (i:=2) YQ.nd rfl (lo rfl) q9) vh))))
  (zZ (xQ (yU (zc (wy F_least_of (J.mono q9) rfl (zc (zh 1) zi)) (zc (wy F_greatest_of (J.mono q9) rfl (zc (zh 2) zi)) zi))))))) ?_
 rintro ds n Q Y ⟨s,rfl,q⟩;simp[startD,ja,Wr];exact⟨s.1,rfl,s.2,rfl,q⟩
end
def zP9{k:Int}(h0:0<=k)(h1:k<es.length)(h:∀d∈es,R d):KM (.lst es) (.int k) R:=by
 obtain⟨d,e,m⟩:=zC3 h0 h1;exact zV0.mpr ⟨d,e,h d m⟩
def zk2{js:Qq4}{k:Int}{R:D->Prop}(lo hi:Int)(h0:0<=k)(h1:k<js.length)(J:∀j∈js,lo<=j/\j<=hi)(h:∀j:Int,lo<=j->j<=hi->R (.int j)):KM (.lst (js.map D.int)) (.int k) R:=by
 refine zP9 h0 (by simpa using h1) λd hd=>?_
 obtain⟨j,hj,rfl⟩:=zo.mp hd;exact h j (J j hj).1 (J j hj).2
def qE(c:Nat):(zd7 0 c).length=c:=by unfold zd7;rw[zf,vI]
def Wh{c i:Nat}(h:(zd7 0 c)[i]?=some d):i<c/\d=.int (i:Int):=by
 have hi:i<c:=by have:=(zu.mp h).1;rw[qE] at this;exact this
 refine⟨hi,?_⟩;unfold zd7 at h;rw[zy,vo hi] at h;have:=zD h;rw[<- this];simp
def WM{own:Nat}(items:List D)(J:Nat)(Good:D->D->Prop)(hz:items.length<=sizeLine)
  (he:∀(i:Nat) (d:D),items[i]?=some d->∀Q:D->Nat->Prop,(∀e,Good d e->Q e J)->g d (replicate own none++rho) λrho'=>rho'.drop own=rho/\te rho' J Q)
  (hP:∀es,Paired Good items es->P (.lst es) J):zB0 own g xo4 te rho P items J:=by
 refine⟨hz,λi acc n=>Paired Good (items.take i) acc/\n=J,⟨.nil,rfl⟩,?_,?_⟩
 ·rintro i d acc n e ⟨h1,rfl⟩;refine he i d e (λe W=>Paired Good (items.take (i+1)) (acc++[e])/\W=n) λc Y=>⟨?_,rfl⟩;rw[xE,e];exact Paired.snoc h1 Y
 ·rintro acc n ⟨h1,rfl⟩;rw[wW] at h1;exact hP acc h1
section
variable {P:Qq3}{w:Qqa}{K:Qq5}{mg:QqM}{base:Heap}{f:Addr}{fd:Qqb}
abbrev ZZ:Stmt:=top 32
abbrev zc6:List Str:=["_law_script","_law_k","_law_cell","_law_digits"]
def qP:FnScope zc6 ["_law_script","_law_k"] (xm ZZ):=⟨rfl,rfl,rfl,w5,rfl,w5,w5⟩
def zo8:TF:=λds n Q=>∃(ns:Qq4) (j:Int),ds=[wI ns,.int j]/\ns.length<=63/\0<=j/\j<1000/\∀x y:Int,0<=x->0<=y->y<2147483647->Q (.lst [.int x,.int y,.int 0]) n
def zX8(T:Blt mg)(F:Fun K "_law_left" "_law_left" ZZ f fd):FnOk P w K mg base CX0 1 f fd ["_law_script","_law_k"] (spD K 2 zo8):=by
 refine Fun.okD F qP (λad A0 outer s H E G Z hr=>(zI (yo (i:=2) qP.nd rfl (lo rfl) zA)
  (zI (kj (yj UC Uq (wc wA qa T.len kK (zc (zh 0) zi)) zA (yE _)) (zZ (yo (i:=2) qP.nd rfl (lo rfl) (yG wu yF (zh 0) (jX (zh 1) (wc wA qa T.len kK (zc (zh 0) zi))) (λ_ _=>rfl)))) yT)
  (zI (yo (i:=3) qP.nd rfl (lo rfl) (YA (jX (wc zi2 zS7 T.abs zS9 (zc (zh 2) zi)) (KR zA zA)) (yr WP za7 T.int zC0 (zc (Vx xB1 xu5 (wc zi2 zS7 T.abs zS9 (zc (zh 2) zi)) (KR zA zA) (yE _)) zi))))
  (zZ (xQ (kr (zc (zh 3) (zc (jX (YA (km (km (jX (zh 2) zA) (YA (YA zA (zh 1)) (zh 1))) zA) zA) zA) (zc zA zi)))))))))) ?_
 rintro ds n Q hl ⟨ns,j,rfl,aa,J,ac,q⟩;have Y:∀{i j:Int},(-(2^64)<i/\i<2^64)->CMul i j:=λh=>.inl h;have cm':∀{i j:Int},(-(2^64)<j/\j<2^64)->CMul i j:=λh=>.inr h
 have h7:0<=7919*j*j:=Int.mul_nonneg q5 J
 have h8:7919*j*j<=7919*j*1000:=Int.mul_le_mul_of_nonneg_left q5 q5
 generalize hS:Qi (zq3 3 _) _=S
 have cont:∀(x:Int) (F:EndsD),F.rt=Q->S F [some (wI ns),some (.int j),some (.int x),none] n:=λx F hF=>by
  subst hS;simp[hF]
  have ab:0<=(if x<0 then -x else x):=by split<;>lia
  have W:∀c:Prop,[Decidable c]->(0:Int)<=(if c then 1 else 0)/\(if c then 1 else 0)<(2:Int):=λc _=>by split<;>lia
  refine⟨⟨q9,q9,q9⟩,⟨q9,q9,q9⟩,cm' ⟨?_,?_⟩,Y ⟨q9,q9⟩,Y ⟨q5,q5⟩,cm' ⟨q9,q9⟩,q _ _ (Int.mul_nonneg (wR _ q9) (W _).1) (wR _ q9) (yv _ q9)⟩
  ·have:=(W (1000000000000000000<=if x<0 then -x else x)).1;lia
  ·have:=(W (1000000000000000000<=if x<0 then -x else x)).2;lia
 simp[startD,wI]
 split
 ·rename_i h
  refine⟨q5,?_⟩
  obtain⟨d,e,m⟩:=zC3 (xs:=ns.map D.int) (i:=j%ns.length) (wR _ q5) (by simpa using yv j q5)
  obtain⟨x,_,rfl⟩:=zo.mp m;exact⟨_,e,cont x _ rfl⟩
 ·exact cont 0 _ rfl
abbrev ZY:Stmt:=top 33
abbrev zc5:List Str:=["_law_left_here","_law_many","_law_digit"]
def Xr:FnScope zc5 ["_law_left_here","_law_many"] (xm ZY):=⟨rfl,rfl,rfl,w5,rfl,w5,w5⟩
def jL:TF:=λds n Q=>∃m:Int,ds=[.st,.int m]/\n=3/\0<m/\m<10000000/\∀k:Int,0<=k->k<m->Q (.int k) n
def zX7(F:Fun K "_law_pick" "_law_pick" ZY f fd):FnOk P w K mg base CX0 1 f fd ["_law_left_here","_law_many"] (spD K 2 jL):=by
 refine Fun.okD F Xr (λac A0 outer s H E G Z hr=>(zI (kj (yj UC Uq (jW (i:=0) zA (λ_ _=>rfl)) zA (yE _)) (zI (yo (i:=2) Xr.nd rfl (lo rfl) (jX (jW (i:=0) zA (λ_ _=>rfl)) (zh 1)))
  (zI (Wk (i:=0) (KW (jW (i:=0) zA (λ_ _=>rfl)) (zh 1)) zA)
  (zZ (xQ (zh 2))))) yT)
  (zI (Wk (i:=0) (km (jW (i:=0) zA (λ_ _=>rfl)) zA) zA)
  (zI (Wk (i:=0) (jX (km (km (YA (jW (i:=0) zA (λ_ _=>rfl)) zA) zA) (jW (i:=0) zA (λ_ _=>rfl))) zA) zA)
  (zZ (xQ (jX (KW (jX (YA (jW (i:=0) zA (λ_ _=>rfl)) (jW (i:=0) zA (λ_ _=>rfl))) zA) zA) (zh 1)))))))) ?_
 rintro ds n Q hl ⟨m,rfl,rfl,J,aa,q⟩;have cm:∀{i j:Int},(-(2^64)<i/\i<2^64)->CMul i j:=λh=>.inl h;simp[startD];intro z0 h0
 split
 ·intro z hz
  exact⟨J,λz1 W=>⟨⟨J,q5⟩,Int.ediv_nonneg W q5,q _ (wR _ q5) (yv _ J)⟩⟩
 ·intro z hz
  refine⟨q5,λy hy Y=>⟨cm ⟨q5,q5⟩,λx hx=>⟨wR _ q9,yv _ q9,λy hy Y z1 h1 h1'=>⟨cm ⟨q5,q5⟩,⟨q9,q9⟩,J,q _ (wR _ q5) (yv _ J)⟩⟩⟩⟩
def xO{m:Int}(h0:0<m)(h1:m<10000000)(h:∀k:Int,0<=k->k<m->Q (.int k) 3):jL [.st,.int m] 3 Q:=⟨m,rfl,rfl,h0,h1,h⟩
end
abbrev Thing:=Int × List Int × Int
abbrev Qqd:=List Thing
def xx(t:Thing):D:=.tup [.int t.1,wz t.2.1,.int t.2.2]
def wU(d:Nat)(ts:Qqd):D:=.tup [.int d,.tup (ts.map xx)]
def zD2(m x:Int):Prop:=∃a e:Int,x=1000000000000000*a+e/\-m<=e/\e<=m
def small(x:Int):Prop:=(-100000000000000000<=x/\x<=100000000000000000)/\zD2 500 x
def worth(x:Int):Prop:=(-100000000000000000<=x/\x<=100000000000000000)/\zD2 1000 x
def small.worth{x:Int}(h:small x):worth x:=⟨h.1,let ⟨a,e,h1,h2,h3⟩:=h.2;⟨a,e,h1,q5,q5⟩⟩
def zl2(x:Int):Prop:=(-100000000000000002<=x/\x<=100000000000000002)/\zD2 502 x
structure GoodT(d:Nat)(ts:Qqd)(top:Int):Prop where
 each:∀t∈ts,0<=t.1/\t.1<top/\t.2.1.length=d/\(∀x∈t.2.1,small x)/\worth t.2.2
 up:ts.Pairwise λa b=>a.1<b.1
def GoodT.nil(d:Nat)(top:Int):GoodT d [] top:=⟨by simp,.nil⟩
def GoodT.snoc{d:Nat}{ts:Qqd}{x top:Int}(h:GoodT d ts x)(hx:0<=x)(ht:x<top){p:Qq4}(Y:p.length=d)(hs:∀x∈p,small x){y:Int}(W:worth y):GoodT d (ts++[(x,p,y)]) top:=by
 refine⟨λt J=>?_,?_⟩
 ·rcases xk.mp J with J | J
  ·have := h.each t J
   exact⟨this.1,q5,this.2.2⟩
  ·rw[zE.mp J];exact⟨hx,ht,Y,hs,W⟩
 ·rw [yZ]
  refine⟨h.up,by simp,λa ha b hb=>?_⟩
  rw[zE.mp hb];exact(h.each a ha).2.1
def GoodT.more{d:Nat}{x top:Int}(h:GoodT d ts x)(ht:x<=top):GoodT d ts top:=⟨λt J=>by have:=h.each t J;exact⟨this.1,q5,this.2.2⟩,h.up⟩
def GoodT.nodup{d:Nat}{x:Int}(h:GoodT d ts x):(ts.map λt=>t.1).Nodup:=xF.mpr (h.up.imp λ{a b} h=>by lia)
theorem qS{S:Int->Prop}:∀{l es:List D},Paired (λ_ e=>∃x:Int,S x/\e=.int x) l es->∃xs:List Int,es=xs.map D.int/\∀x∈xs,S x
 |_,_,.nil=>⟨[],rfl,by simp⟩
 |_,_,.cons r t=>by
  obtain⟨x,hx,rfl⟩:=r;obtain⟨xs,rfl,h⟩:=qS t
  exact⟨x::xs,rfl,λy J=>by rcases zn.mp J with rfl |J;exact hx;exact h y J⟩
def Qb(s:Int):Prop:=s=1\/s=3\/s=1000000000000000
def zv0{a s:Int}(h1:-40<=a)(h2:a<=40)(hs:Qb s):small (a*s):=by
 rcases hs with rfl |rfl |rfl
 ·exact⟨⟨q5,q5⟩,0,a,q5,q5,q5⟩
 ·exact⟨⟨q5,q5⟩,0,a*3,q5,q5,q5⟩
 ·exact⟨⟨q5,q5⟩,a,0,q5,q5,q5⟩
def xh6{js:Qq4}{k:Int}{R:D->Prop}(h0:0<=k)(h1:k<js.length)(h:∀j∈js,R (.int j)):KM (.lst (js.map D.int)) (.int k) R:=by
 refine zP9 h0 (by simpa using h1) λd hd=>?_
 obtain⟨j,hj,rfl⟩:=zo.mp hd;exact h j hj
def zu5(p:Qq4)(k:Nat):okE (wz p) (k+1)=true:=Wq.mpr λd hd=>by
 obtain⟨x,_,rfl⟩:=zo.mp hd;exact Xc
def zu4(t:Thing)(k:Nat):okE (xx t) (k+2)=true:=by
 refine Wq.mpr λd hd=>?_;simp only[zn,xb,or_false] at hd
 rcases hd with rfl |rfl |rfl
 ·exact Xc
 ·exact zu5 _ _
 ·exact Xc
def QO(ts:Qqd):okE (.lst (ts.map xx)) 20=true:=zY4.mpr λd hd=>by
 obtain⟨t,_,rfl⟩:=zo.mp hd;exact zu4 t 17
def zg6{d:Nat}(h:R (.int d)):KM (wU d ts) (.int 0) R:=⟨_,0,_,.inr (.inl rfl),rfl,rfl,h⟩
def zg5{d:Nat}(h:R (.tup (ts.map xx))):KM (wU d ts) (.int 1) R:=⟨_,1,_,.inr (.inl rfl),rfl,rfl,h⟩
def kO(d:Nat)(ts:Qqd):wj (wU d ts)=true:=id rfl
structure JHs(d:Nat)(wd sc:Int)(i:Nat)(rho:Rho)(n:Nat):Prop where
 e:n=3
 r:∃(ts:Qqd) (x:Int) (a b c:Option D),ts.length=i/\0<=x/\x<=2+41*i/\GoodT d ts x/\rho=[some .st,some (.int d),some (.int wd),some (.int sc),some (.own (ts.map xx)),some (.int x),a,b,c]
section
variable {P:Qq3}{w:Qqa}{K:Qq5}{mg:QqM}{base:Heap}{f:Addr}{fd:Qqb}
abbrev jT:Stmt:=top 34
noncomputable abbrev Zq:List Str:=["_law_left_here","_law_d","_law_wide","_law_scale","_law_things","_law_name","_law_k","_law_place","_law_far"]
def vy:FnScope Zq qZ3 (xm jT):=⟨rfl,rfl,rfl,w5,rfl,w5,w5⟩
def Wu:("_law_i" :: Zq:Qq2).Nodup:=w5
def Qq:TF:=λds n Q=>ds=[.st]/\n=3/\∀(d:Nat) (ts:Qqd),1<=d->d<=4->GoodT d ts 2000->ts.length<=30->Q (wU d ts) 3
def zJ2(T:Blt mg)(F:Fun K "_law_house" "_law_house" jT f fd)(Y_pick:Fn P w K mg base "_law_pick" 1 2 jL):FnOk P w K mg base CX0 2 f fd qZ3 (spD K 1 Qq):=by
 refine Fun.okD F vy (λaC A0 outer s H E G Z J=>(zI (yo (i:=1) vy.nd rfl (lo rfl) (yG wu yF (kr (zc zA (zc zA (zc zA (zc zA (zc zA (zc zA zi))))))) (wy Y_pick (J.mono q9) rfl (zc (zh 0) (zc zA zi))) (λ_ _=>rfl)))
  (zI (Yg (m:=9) (yU (zc (yG wu yF (kr (zc zA (zc zA (zc zA (zc zA (zc zA (zc zA zi))))))) (wy Y_pick (J.mono q9) rfl (zc (zh 0) (zc zA zi))) (λ_ _=>rfl)) (zc (yG wu yF (kr (zc zA (zc zA (zc zA (zc (KR zA zA) zi))))) (wy Y_pick (J.mono q9) rfl (zc (zh 0) (zc zA zi))) (λ_ _=>rfl)) zi))) (vS (k:=2) rfl rfl (xt (xh (i:=2) vy.nd rfl (lo rfl) q9) (xt (xh (i:=3) vy.nd rfl (lo rfl) q9) vh))))
  (zI (zH2 (i:=4) (j:=5) rfl vy.nd rfl rfl q9 rfl rfl (λZ1 H1=>(wy Y_pick (J.mono q9) rfl (zc (zh 0) (zc zA zi)))))
  (zI (qc (m:=9) PassesOwn.never rfl (qW T.range (zc (yG wu yF (kr (zc zA (zc zA (zc zA (zc zA (zc zA (zc zA (zc zA (zc zA (zc zA (zc zA zi))))))))))) (wy Y_pick (J.mono q9) rfl (zc (zh 0) (zc zA zi))) (λ_ _=>rfl)) zi)) (xh (i:=6) vy.nd rfl (lo rfl) q9)
  (zI (yo (i:=7) vy.nd rfl (lo rfl) (yr wo vL T.tuple vM (zc (vO (own:=["_law_i"]) (M:=Zq) (vX (by rfl)) rfl (qW T.range (zc (zh 1) zi)) (λ_ _ _ _=>(xh (i:=0) Wu rfl (lo rfl) q9)) (λ_ _ _ _=>yz) (λ_ _ _ _=>(YA (jI (wy Y_pick (J.mono q9) rfl (zc (zh 1) (zc (km (YA zA (zh 3)) zA) zi))) (zh 3)) (zh 4)))) zi)))
  (zI (kj (PWD.pt (Yd (zr5 (i:=4) J rfl) (Zs (yj UD Ur (wy Y_pick (J.mono q9) rfl (zc (zh 0) (zc zA zi))) zA (yE _))))) (zZ (yo (i:=7) vy.nd rfl (lo rfl) (yG wu yF (zI1 (i:=4) (wy Y_pick (J.mono q9) rfl (zc (zh 0) (zc (KS (i:=4) T.len rfl) zi))) (λ_ _=>rfl)) zA (λ_ _=>rfl)))) yT)
  (zI (yo (i:=8) vy.nd rfl (lo rfl) (yG wu yF (kr (zc (KR zA zA) (zc (zt0 (KR zA zA)) zi))) (wy Y_pick (J.mono q9) rfl (zc (zh 0) (zc zA zi))) (λ_ _=>rfl)))
  (zI (qd (i:=4) (zc (yU (zc (zh 5) (zc (zh 7) (zc (yG wu yF (kr (zc (jI (wy Y_pick (J.mono q9) rfl (zc (zh 0) (zc zA zi))) zA) (zc (jI (wy Y_pick (J.mono q9) rfl (zc (zh 0) (zc zA zi))) zA) (zc (zh 8) zi)))) (wy Y_pick (J.mono q9) rfl (zc (zh 0) (zc zA zi))) (λ_ _=>rfl)) zi)))) zi) rfl)
  (zZ (yo (i:=5) vy.nd rfl (lo rfl) (km (km (zh 5) zA) (yG wu yF (kr (zc zA (zc zA (zc zA (zc zA (zc zA zi)))))) (wy Y_pick (J.mono q9) rfl (zc (zh 0) (zc zA zi))) (λ_ _=>rfl))))))))))
  (zZ (Yi 4 (xQ (yU (zc (zh 1) (zc (yr wo vL T.tuple vM (zc (zh 4) zi)) zi))))))))))) ?_
 rintro ds n Q hl ⟨rfl,rfl,q⟩;simp[startD]
 refine xO q9 q9 λk h0 h1=>zk2 (js:=[1,2,2,3,3,4]) 1 4 h0 (by simpa using h1) q9 λdd az ay=>?_
 obtain⟨d,rfl⟩:=xT (show 0<=dd by lia)
 refine xO q9 q9 λk2 h2 h3=>zk2 (js:=[1,2,3,5,9,40]) 1 40 h2 (by simpa using h3) q9 λwd aq ap=>⟨⟨q9,q9,q9⟩,?_⟩
 refine xO q9 q9 λk3 h4 h5=>xh6 (js:=[1,1,3,1000000000000000]) h4 (by simpa using h5) λsc ai=>⟨rfl,?_⟩
 have aa:Qb sc:=by
  simp only[zn,xb,or_false] at ai;unfold Qb;lia
 have av:1<=sc:=by unfold Qb at aa;lia
 have ar:sc<=1000000000000000:=by unfold Qb at aa;lia
 refine xO q9 q9 λx0 ae am=>⟨yk q9,?_⟩
 refine xO q9 q9 λk4 h6 h7=>zk2 (js:=[0,1,2,3,4,6,8,12,20,30]) 0 30 h6 (by simpa using h7) q9 λc aB aA=>?_
 refine⟨c,rfl,q5,q5,JHs d wd sc,⟨rfl,[],x0,none,none,none,rfl,ae,q5,GoodT.nil d _,rfl⟩,?_,?_⟩
 ·rintro i d' rho n' e ⟨rfl, ts, x, u, v, z, ac, af, ad, hg, rfl⟩;obtain⟨hi,rfl⟩:=Wh e;generalize hS:Qi (zq3 8 _) _=S
  have cont:∀(p:Qq4) (F:EndsD),F.nx=JHs d wd sc (i+1)->p.length=d->(∀y∈p,small y) ->
    S F [some .st,some (.int d),some (.int wd),some (.int sc),some (.own (ts.map xx)),some (.int x),some (.int i),some (wz p),z] 3:=λp F hF hp W=>by
   subst hS;have np:wj (wz p)=true:=id rfl;simp[np,hF]
   refine⟨⟨q9,q9,q9⟩,xO q9 q9 λj1 g0 g1=>xh6 (js:=[100000000000000000,-100000000000000000]) g0 (by simpa using g1) λfr ag=>⟨lt_size q5,?_⟩⟩
   refine xO q9 q9 λw1 g2 g3=>?_
   simp
   refine xO q9 q9 λw2 g4 g5=>?_
   simp
   refine xO q9 q9 λw3 g6 g7=>?_
   have aj:∀R:D->Prop,(∀y:Int,small y->R (.int y))->KM (.lst [.int (w1-2),.int (w2-500),.int fr]) (.int w3) R:=λR hR=>zP9 g6 (by simpa using g7) λdd ah=>by
    simp only[zn,xb,or_false] at ah
    rcases ah with rfl |rfl |rfl
    ·exact hR _ ⟨⟨q5,q5⟩,0,w1-2,q5,q5,q5⟩
    ·exact hR _ ⟨⟨q5,q5⟩,0,w2-500,q5,q5,q5⟩
    ·simp only [zn, xb, or_false] at ag
     rcases ag with rfl |rfl
     ·exact hR _ ⟨⟨q9,q9⟩,100,0,q9,q9,q9⟩
     ·exact hR _ ⟨⟨q9,q9⟩,-100,0,q9,q9,q9⟩
   refine aj _ λy hy=>?_
   refine xO q9 q9 λw4 g8 g9=>zk2 (js:=[0,0,1,7,40]) 0 40 g8 (by simpa using g9) q9 λm ax aw=>?_
   simp
   exact⟨rfl,ts++[(x,p,y)],x+1+m,_,_,_,by simp[ac],q5,q5,hg.snoc af q5 hp W hy.worth,by rw[zS];rfl⟩
  simp
  refine⟨q5,WM (zd7 0 d) 3 (λ_ e=>∃x:Int,small x/\e=.int x) (by rw[qE];exact yk q5) (λj d2 e2 Q' hQ'=>?_) (λes hp=>?_)⟩
  ·simp
   refine⟨.inl ⟨q9,q9⟩,xO q5 q5 λk g0 g1=>?_⟩
   simp
   exact⟨.inl ⟨q5,q5⟩,hQ' _ ⟨_,zv0 q5 q5 aa,rfl⟩⟩
  ·have Y := hp.length;rw[qE] at Y;obtain⟨ps,rfl,W⟩:=qS hp;rw[zf] at Y;simp;refine⟨QO ts,?_⟩
   split
   ·exact cont ps _ rfl q5 W
   ·rename_i ak
    have ao:0<ts.length:=by
     cases ts with
     |nil=>exact absurd rfl ak
     |cons t r=>simp
    refine xO q9 q9 λk g0 g1=>?_
    simp
    split
    ·refine xO q5 q5 λk4 g5 g6 => ?_
     obtain⟨y,ey,my⟩:=zC3 (xs:=ts.map xx) (i:=k4) g5 (by simp;lia)
     obtain⟨⟨y1,p1,w1⟩,ht',rfl⟩:=zo.mp my;have he:=hg.each _ ht';refine⟨_,rfl,_,ey,?_⟩;refine⟨_,_,wz p1,.inr (.inl rfl),rfl,rfl,?_⟩;exact cont p1 _ rfl he.2.2.1 he.2.2.2.1
    ·exact cont ps _ rfl q5 W
 ·rintro rho n' ⟨rfl, ts, x, u, v, z, ac, af, ad, hg, rfl⟩;rw[qE] at ac ad;simp
  exact q d ts q5 q5 (hg.more q5) q5
abbrev jq:Stmt:=top 35
abbrev jF:List Str:=["_law_left_here","_law_house_here","_law_i","_law_numbers"]
def ZC:FnScope jF xz8 (xm jq):=⟨rfl,rfl,rfl,w5,rfl,w5,w5⟩
def XD:("_law_thing" :: jF:Qq2).Nodup:=w5
def Yy:TF:=λds n Q=>∃(d i:Nat) (ts:Qqd),ds=[.st,wU d ts,.int i]/\n=3/\i<d/\GoodT d ts 2000/\ts.length<=256/\∀x:Int,zl2 x->Q (.int x) 3
def zt9(T:Blt mg)(F:Fun K "_law_number" "_law_number" jq f fd)(Y_pick:Fn P w K mg base "_law_pick" 1 2 jL):FnOk P w K mg base CX0 2 f fd xz8 (spD K 3 Yy):=by
 refine Fun.okD F ZC (λai A0 outer s H E G Z Y=>(zI (yo (i:=3) ZC.nd rfl (lo rfl) (Wn zQ5 zP0 (vO (own:=["_law_thing"]) (M:=jF) (vX (by rfl)) rfl (vq rfl (yG wu yF (zh 1) zA (λ_ _=>rfl))) (λC W H2 fp=>(xh (i:=0) XD rfl (lo rfl) q9)) (λC W H2 fp=>yz) (λC W H2 fp=>(yG wu yF (yG wu yF (zh 0) zA (λ_ _=>rfl)) (zh 3) (λ_ _=>rfl)))) (kr (zc zA zi))))
  (zZ (xQ (km (yG wu yF (zh 3) (wy Y_pick (Y.mono q9) rfl (zc (zh 0) (zc (wc wA qa T.len kK (zc (zh 3) zi)) zi))) (λ_ _=>rfl)) (yG wu yF (kr (zc zA (zc zA (zc zA (zc zA (zc (zt0 zA) (zc zA zi))))))) (wy Y_pick (Y.mono q9) rfl (zc (zh 0) (zc zA zi))) (λ_ _=>rfl))))))) ?_
 rintro ds n Q hl ⟨d,i,ts,rfl,rfl,hi,hg,hz,q⟩;have nh:=kO d ts;simp[startD,nh];refine zg5 ?_;simp
 refine wK xx (λt=>.int (t.2.1[i]?.getD 0)) ts (yk q5) (λt ht R hR=>?_) ?_
 ·have nt : wj (xx t) = true := id rfl;have he:=hg.each t ht;simp[nt];refine⟨_,1,_,.inr (.inl rfl),rfl,rfl,?_⟩
  exact⟨_,_,_,.inr (.inl rfl),rfl,qM (by rw[zy,zd q5];rfl),by simpa [zd (show i<t.2.1.length by lia)] using hR⟩
 ·simp
  refine⟨yk q5,xO q5 q5 λk h0 h1=>zP9 h0 (by simpa using h1) λdd J=>?_⟩
  obtain⟨x,hx,rfl⟩:∃x:Int,small x/\dd=.int x:=by
   rcases xk.mp J with h |h
   ·obtain ⟨t, ht, rfl⟩ := zo.mp h;have he:=hg.each t ht;refine⟨_,?_,rfl⟩
    rw[zd (show i<t.2.1.length by lia)]
    exact he.2.2.2.1 _ (wZ _)
   ·rw[zE.mp h];exact⟨0,⟨⟨q9,q9⟩,0,0,q9,q9,q9⟩,rfl⟩
  refine xO q9 q9 λk2 h2 h3=>zk2 (js:=[0,0,0,1,-1,2]) (-1) 2 h2 (by simpa using h3) q9 λm ae ad=>?_
  simp;obtain⟨⟨ac,aa⟩,fa,fe,ah,ag,af⟩:=hx
  exact q _ ⟨⟨q5,q5⟩,fa,fe+m,q5,q5,q5⟩
def jZ{d i:Nat}{ts:Qqd}{Q:D->Nat->Prop}(hi:i<d)(J:GoodT d ts 2000)(hz:ts.length<=256)(h:∀x:Int,zl2 x->Q (.int x) 3):Yy [.st,wU d ts,.int i] 3 Q:=⟨d,i,ts,rfl,rfl,hi,J,hz,h⟩
def zY6(e:End):Prop:=∀x s,e=some (x,s)->zl2 x
def xk5(b:List Span):Prop:=∀s∈b,zY6 s.1/\zY6 s.2
structure JBx(d:Nat)(ts:Qqd)(i:Nat)(rho:Rho)(n:Nat):Prop where
 e:n=3
 r:∃(b:List Span) (u v y z:Option D),b.length=i/\xk5 b/\rho=[some .st,some (wU d ts),some (.own (b.map ja)),u,v,y,z]
abbrev YV:Stmt:=top 36
noncomputable abbrev zn6:List Str:=["_law_left_here","_law_house_here","_law_spans","_law_i","_law_one","_law_other","_law_low"]
def qb:FnScope zn6 qZ2 (xm YV):=⟨rfl,rfl,rfl,w5,rfl,w5,w5⟩
def zT7:TF:=λds n Q=>∃(d:Nat) (ts:Qqd),ds=[.st,wU d ts]/\n=3/\d<=4/\GoodT d ts 2000/\ts.length<=256/\∀b:List Span,b.length=d->xk5 b->Q (vW b) 3
def ze6{x k:Int}(hx:zl2 x)(h0:0<=k)(h1:k<4)(h:∀e:End,zY6 e->R (qJ e)):KM (.lst [.non,.tup [.int x,.bl true],.tup [.int x,.bl false],.tup [.int x,.bl true]]) (.int k) R:=
 zP9 h0 (by simpa using h1) λW J=>by
  simp only[zn,xb,or_false] at J
  rcases J with rfl |rfl |rfl |rfl
  ·exact h none λx s e=>by cases e
  ·exact h (some (x,true)) λx s e=>by cases e;exact hx
  ·exact h (some (x,false)) λx s e=>by cases e;exact hx
  ·exact h (some (x,true)) λx s e=>by cases e;exact hx
def xj8(T:Blt mg)(F:Fun K "_law_box" "_law_box" YV f fd)(Y_pick:Fn P w K mg base "_law_pick" 1 2 jL)(Y_number:Fn P w K mg base "_law_number" 2 3 Yy):FnOk P w K mg base CX0 3 f fd qZ2 (spD K 2 zT7):=by
 refine Fun.okD F qb (λae A0 outer s H E G Z hr=>(zI (Wm (i:=2) qb.nd rfl (lo rfl) zi)
  (zI (qc (m:=7) PassesOwn.never rfl (qW T.range (zc (yG wu yF (zh 1) zA (λ_ _=>rfl)) zi)) (xh (i:=3) qb.nd rfl (lo rfl) q9)
  (zI (Uw (i:=4) (j:=5) rfl qb.nd rfl rfl q9 rfl rfl (zc (wy Y_number (hr.mono q9) rfl (zc (zh 0) (zc (zh 1) (zc (zh 3) zi)))) (zc (wy Y_number (hr.mono q9) rfl (zc (zh 0) (zc (zh 1) (zc (zh 3) zi)))) zi)))
  (zI (kj (PWD.pt (Yd (yj UC Uq (zh 4) (zh 5) (yE _)) (Zs (yj UC Uq (wy Y_pick (hr.mono q9) rfl (zc (zh 0) (zc zA zi))) zA (yE _))))) (zZ (Uw (i:=4) (j:=5) rfl qb.nd rfl rfl q9 rfl rfl (zc (zh 5) (zc (zh 4) zi)))) yT)
  (zI (yo (i:=6) qb.nd rfl (lo rfl) (yG wu yF (kr (zc vN (zc (yU (zc (zh 4) (zc XB zi))) (zc (yU (zc (zh 4) (zc XB zi))) (zc (yU (zc (zh 4) (zc XB zi))) zi))))) (wy Y_pick (hr.mono q9) rfl (zc (zh 0) (zc zA zi))) (λ_ _=>rfl)))
  (zZ (qd (i:=2) (zc (yU (zc (zh 6) (zc (yG wu yF (kr (zc vN (zc (yU (zc (zh 5) (zc XB zi))) (zc (yU (zc (zh 5) (zc XB zi))) (zc (yU (zc (zh 5) (zc XB zi))) zi))))) (wy Y_pick (hr.mono q9) rfl (zc (zh 0) (zc zA zi))) (λ_ _=>rfl)) zi))) zi) rfl))))))
  (zZ (Yi 2 (xQ (yr wo vL T.tuple vM (zc (zh 2) zi)))))))) ?_
 rintro ds n Q hl ⟨d,ts,rfl,rfl,ad,hg,hz,q⟩;have nh:=kO d ts;simp[startD,nh];refine zg6 ?_
 refine⟨d,rfl,q5,q5,JBx d ts,⟨rfl,[],none,none,none,none,rfl,λs hs=>by simp at hs,rfl⟩,?_,?_⟩
 ·rintro i d' rho n' e ⟨rfl, b, u, v, y, z, hb, hn, rfl⟩;obtain⟨hi,rfl⟩:=Wh e
  replace hi:i<d:=by simpa using hi
  generalize hS:Qi (zq3 6 _) _=S
  have cont:∀(W J:Int) (F:EndsD),F.nx=JBx d ts (i+1)->zl2 W->zl2 J ->
    S F [some .st,some (wU d ts),some (.own (b.map ja)),some (.int i),some (.int W),some (.int J),z] 3:=λW J F hF h1 h2=>by
   subst hS;simp[hF]
   refine xO q9 q9 λk g0 g1=>ze6 h1 g0 g1 λe1 n1=>?_
   have ac:=Wr e1;simp[ac]
   refine⟨lt_size q5,xO q9 q9 λk g0 g1=>ze6 h2 g0 g1 λe2 n2=>?_⟩
   refine⟨rfl,b++[(e1,e2)],_,_,_,_,by simp[hb],λs hs=>?_,by rw[zS];rfl⟩
   rcases xk.mp hs with h |h
   ·exact hn s h
   ·rw[zE.mp h];exact⟨n1,n2⟩
  simp[nh];refine jZ hi hg hz λW aa=>?_;refine jZ hi hg hz λJ Y=>?_;simp
  split
  ·refine xO q9 q9 λk g0 g1 => ?_
   simp
   split
   ·exact cont J W _ rfl Y aa
   ·exact cont W J _ rfl aa Y
  ·exact cont W J _ rfl aa Y
 ·rintro rho n' ⟨rfl, b, u, v, y, z, hb, hn, rfl⟩;rw[qE] at hb;simp
  exact q b (by simpa using hb) hn
end
abbrev Pair:=Option Int × Option Int
abbrev Qqe:=List Pair
def xU(p:Pair):D:=.tup [Vm p.1,Vm p.2]
def xB(ps:Qqe):D:=.tup (ps.map xU)
def wP:Pair->Bool
 |(some l,some g)=>decide (g<l)
 |_=>false
def emptyP:Pair:=(some 1,some 0)
def ko(ps:Qqe):List Pair:=if ps.any wP then ps.map (λ_=>emptyP) else ps
def Yj(s:Span):Pair:=(Jv s.1,zg8 s.2)
def kY(b:List Span):List Pair:=ko (b.map Yj)
@[simp] theorem xn0:Vm none=.non:=rfl
@[simp] theorem xm9{i:Int}:Vm (some i)=.int i:=rfl
section
variable {P:Qq3}{w:Qqa}{K:Qq5}{mg:QqM}{base:Heap}{f:Addr}{fd:Qqb}
abbrev jO:Stmt:=top 5
abbrev Qc:List Str:=["pair","least","greatest"]
def jm:FnScope Qc ["pair"] (xm jO):=⟨rfl,rfl,rfl,w5,rfl,w5,w5⟩
def qO:TF:=λds n Q=>∃p:Pair,ds=[xU p]/\Q (.bl (wP p)) n
def UE(F:Fun K "is_crossed" "is_crossed" jO f fd):FnOk P w K mg base CX0 1 f fd ["pair"] (spD K 1 qO):=by
 refine Fun.okD F jm (λJ A0 outer s H E G Z W=>(zI (Yg (m:=3) (zh 0) (vS (k:=2) rfl rfl (xt (xh (i:=1) jm.nd rfl (lo rfl) q9) (xt (xh (i:=2) jm.nd rfl (lo rfl) q9) vh))))
  (zZ (xQ (zt2 (Vx Xb YY (zh 1) vN (yE _)) (zt2 (Vx Xb YY (zh 2) vN (yE _)) (zQ1 (Vx UC Uq (zh 1) (zh 2) (yE _))))))))) ?_
 rintro ds n Q Y ⟨⟨lo,hi⟩,rfl,q⟩
 rcases lo with _ |lo<;>rcases hi with _ |hi<;>simp[startD,xU]<;>exact q
abbrev Wf:Stmt:=top 6
abbrev Zn:List Str:=["pairs"]
def zj9:FnScope Zn ["pairs"] (xm Wf):=⟨rfl,rfl,rfl,w5,rfl,w5,w5⟩
def Jk:("pair" :: Zn:Qq2).Nodup:=w5
def Jj:("pair" :: Zn:Qq2).Nodup:=w5
def Yx:TF:=λds n Q=>∃(ps:Qqe) (d:D),ds=[d]/\(d=.lst (ps.map xU)\/d=xB ps)/\ps.length<=1000/\Q (xB (ko ps)) n
def zk5(T:Blt mg)(G_EMPTY_PAIR:xp4 K mg "EMPTY_PAIR" (.tup [.int 1,.int 0]))(F:Fun K "settled" "settled" Wf f fd)(F_is_crossed:Fn P w K mg base "is_crossed" 1 1 qO):FnOk P w K mg base CX0 2 f fd ["pairs"] (spD K 1 Yx):=by
 refine Fun.okD F zj9 (λaa A0 outer s H E G Z hr=>(zI (kj (Ye (wc (zO0 rfl) xn8 T.any xo1 (zc (vO (own:=["pair"]) (M:=Zn) (vX (by rfl)) rfl (vq rfl (zh 0)) (λC J H2 fp=>(xh (i:=0) Jk rfl (lo rfl) q9)) (λC J H2 fp=>yz) (λC J H2 fp=>(wy F_is_crossed (hr.mono q9) rfl (zc (zh 0) zi)))) zi))) (zZ (xQ (yr wo vL T.tuple vM (zc (vO (own:=["pair"]) (M:=Zn) (vX (by rfl)) rfl (vq rfl (zh 0)) (λC J H2 fp=>(xh (i:=0) Jj rfl (lo rfl) q9)) (λC J H2 fp=>yz) (λC J H2 fp=>(zW8 G_EMPTY_PAIR rfl))) zi)))) yT)
  (zZ (xQ (yr wo vL T.tuple vM (zc (zh 0) zi)))))) ?_
 rintro ds n Q hl ⟨ps,d,rfl,hd,hz,q⟩
 have Y:wj d=true:=by rcases hd with rfl |rfl<;>rfl
 have hsz:ps.length<=sizeLine:=yk hz;have W:∀R:List D->Prop,R (ps.map xU)->∃es,(d=.lst es\/d=.tup es)/\R es:=λR h=>⟨_,hd,h⟩;simp[startD,Y];refine W _ (wK xU (λp=>.bl (wP p)) ps hsz (λx hx R hR=>?_) ?_)
 ·simp[xU];exact⟨x,rfl,hR⟩
 ·refine ⟨ps.map wP, by rw [zK]; rfl, ?_⟩
  simp;unfold ko at q
  by_cases h:ps.any wP
  ·simp only [h, if_true];rw[if_pos h] at q;refine W _ (wK xU (λp=>.tup [.int 1,.int 0]) ps hsz (λx hx R hR=>?_) ?_)
   ·simp;exact hR
   ·simp
    have e:xB (ps.map λ_=>emptyP)=.tup (ps.map λ_=>.tup [.int 1,.int 0]):=by unfold xB;rw[zK];rfl
    rw[e] at q
    simpa using q
  ·rw [if_neg h] at q;simp only[h]
   rcases hd with rfl |rfl
   ·simp;exact q
   ·unfold xB;simp;exact q
abbrev ZQ:Stmt:=top 7
abbrev Ys:List Str:=["box"]
def Kv:FnScope Ys ["box"] (xm ZQ):=⟨rfl,rfl,rfl,w5,rfl,w5,w5⟩
def Vd:("span" :: Ys:Qq2).Nodup:=w5
def ZG:TF:=λds n Q=>∃b:List Span,ds=[vW b]/\b.length<=1000/\Q (xB (kY b)) n
def KY(F:Fun K "plain_box" "plain_box" ZQ f fd)(F_pair_of:Fn P w K mg base "pair_of" 2 1 XZ)(F_settled:Fn P w K mg base "settled" 2 1 Yx):FnOk P w K mg base CX0 3 f fd ["box"] (spD K 1 ZG):=by
 refine Fun.okD F Kv (λaa A0 outer s H E G Z W=>(zZ (xQ (wy F_settled (W.mono q9) rfl (zc (vO (own:=["span"]) (M:=Ys) (vX (by rfl)) rfl (vq rfl (zh 0)) (λC J H2 fp=>(xh (i:=0) Vd rfl (lo rfl) q9)) (λC J H2 fp=>yz) (λC J H2 fp=>(wy F_pair_of (W.mono q9) rfl (zc (zh 0) zi)))) zi))))) ?_
 rintro ds n Q hl ⟨b,rfl,hz,q⟩;have Y:wj (vW b)=true:=rfl;simp[startD,Y];refine⟨b.map ja,.inr rfl,wK ja (λs=>xU (Yj s)) b (yk hz) (λx hx R hR=>?_) ?_⟩
 ·simp[ja];exact⟨x,rfl,hR⟩
 ·exact⟨b.map Yj,_,rfl,.inl (by rw[zK];rfl),by simpa using hz,q⟩
end
noncomputable def maxO:Option Int->Option Int->Option Int
 |none,o=>o
 |some a,none=>some a
 |some a,some b=>some (if b > a then b else a)
noncomputable def minO:Option Int->Option Int->Option Int
 |none,o=>o
 |some a,none=>some a
 |some a,some b=>some (if b<a then b else a)
def commonP(p q:Pair):Pair:=(maxO p.1 q.1,minO p.2 q.2)
def qh(ps qs:Qqe):List Pair:=ko (List.zipWith commonP ps qs)
def vT(ps qs:Qqe):Bool:=match qh ps qs with |[]=>false |p::_=>wP p
def ZF(ps qs:Qqe):Bool:=decide (qh ps qs=ps)
def YH(ps:Qqe)(p:Qq4):Bool:=(List.zipWith (λq x=>liesT q.1 q.2 x) ps p).all id
theorem zC6{α β:Type}{f:α->β->Bool}:∀{l:List α}{r:List β},(List.zipWith f l r).all id=true↔∀(i:Nat) a b,l[i]?=some a->r[i]?=some b->f a b=true
 |[],r=>by simp
 |a::l,[]=>by simp
 | a :: l, b :: r => by
  have W:=zC6 (f:=f) (l:=l) (r:=r);simp only[xY,List.all_cons,zW,W]
  constructor
  ·rintro ⟨h1, h2⟩ i x y hx J
   cases i with
   |zero=>simp at hx J;subst hx;subst J;exact h1
   |succ i=>exact h2 i x y (by simpa using hx) (by simpa using J)
  ·intro h
   exact⟨h 0 a b rfl rfl,λi x y hx J=>h (i+1) x y (by simpa using hx) (by simpa using J)⟩
def JY{α:Type}{f:α->Bool}{l:List α}:l.any f=true↔∃(i:Nat) (a:α),l[i]?=some a/\f a=true:=by
 rw[List.any_eq_true]
 constructor
 ·rintro⟨x,hx,h⟩;obtain⟨i,hi⟩:=yp.mp hx;exact⟨i,x,hi,h⟩
 ·rintro⟨i,a,hi,h⟩;exact⟨a,zV hi,h⟩
def ZN(ps:Qqe):(ko ps).length=ps.length:=by unfold ko;split<;>simp
def zn0(h:ps.length=qs.length):(qh ps qs).length=ps.length:=by unfold qh;rw[ZN,wJ];lia
def jl(h:¬ ps.any wP=true):ko ps=ps:=by unfold ko;rw[if_neg h]
def ZO(h:ps.any wP=true):ko ps=replicate ps.length emptyP:=by
 unfold ko;rw[if_pos h,<- List.map_const']
def zz1{k:Nat}(h:1<=k):(replicate k emptyP).any wP=true:=JY.mpr ⟨0,emptyP,by rw[xS];simp;lia,q9⟩
def Jt{x:Int}(h:liesT q.1 q.2 x=true):wP q=false:=by
 obtain⟨lo,hi⟩:=q
 rcases lo with _ |l<;>rcases hi with _ |g<;>simp[liesT,wP] at h ⊢
 lia
def Yn(p q:Pair)(x:Int):liesT (commonP p q).1 (commonP p q).2 x=(liesT p.1 p.2 x&&liesT q.1 q.2 x):=by
 obtain⟨a,b⟩:=p;obtain⟨c,d⟩:=q
 have h1:∀l g:Int,decide ((if g > l then g else l)<=x)=(decide (l<=x)&&decide (g<=x)):=λl g=>by
  rw[wS];split<;>simp<;>lia
 have h2:∀l g:Int,decide (x<=(if g<l then g else l))=(decide (x<=l)&&decide (x<=g)):=λl g=>by
  rw[wS];split<;>simp<;>lia
 rcases a with _ |a<;>rcases b with _ |b<;>rcases c with _ |c<;>rcases d with _ |d<;>simp only[commonP,liesT,maxO,minO,h1,h2] <;>
  (rw[wS];simp<;>try lia)
def zT1{i:Nat}(h:(List.zipWith commonP ps qs)[i]?=some c):∃p q,ps[i]?=some p/\qs[i]?=some q/\c=commonP p q:=by
 rw[List.getElem?_zipWith] at h
 cases J:ps[i]? with
 |none=>rw[J] at h;simp at h
 |some p=>
  cases W:qs[i]? with
  |none=>rw[J,W] at h;simp at h
  |some q=>rw[J,W] at h;exact⟨p,q,rfl,rfl,(by simpa using h.symm)⟩
def Qm{i:Nat}(W:ps[i]?=some p)(J:qs[i]?=some q):(List.zipWith commonP ps qs)[i]?=some (commonP p q):=by
 rw[List.getElem?_zipWith,W,J]
def WT{α β:Type}{l:List α}{r:List β}(h:l.length=r.length){i:Nat}{a:α}(e:l[i]?=some a):∃b,r[i]?=some b:=by
 have hi:=(zu.mp e).1
 exact⟨r[i],zd q5⟩
def Zf:YH ps p=true↔∀(i:Nat) (q:Pair) (x:Int),ps[i]?=some q->p[i]?=some x->liesT q.1 q.2 x=true:=zC6
def jA(Y:ps.length=p.length)(h:YH ps p=true):¬ ps.any wP=true:=by
 intro J;obtain⟨i,q,W,J⟩:=JY.mp J;obtain⟨x,hx⟩:=WT Y W;have:=Jt (Zf.mp h i q x W hx);rw[J] at this;cases this
def za2(W:ps.length=p.length)(h1:1<=p.length):YH (ko ps) p=YH ps p:=by
 by_cases J:ps.any wP=true
 ·have e1 : YH ps p = false := by
   cases h:YH ps p with
   |false=>rfl
   |true=>exact(jA W h J).elim
  have Y:YH (ko ps) p=false:=by
   cases h:YH (ko ps) p with
   |false=>rfl
   |true=>
    refine(jA (by rw[ZN];exact W) h ?_).elim
    rw[ZO J]
    exact zz1 q5
  rw[e1,Y]
 ·rw[jl J]
def zg7(h1:ps.length=p.length)(h2:qs.length=p.length):YH (List.zipWith commonP ps qs) p=(YH ps p&&YH qs p):=by
 rw[wS,zW,Zf,Zf,Zf]
 constructor
 ·intro h;refine⟨λi q x W hx=>?_,λi q x W hx=>?_⟩
  ·obtain⟨Y,J⟩:=WT (h1.trans h2.symm) W;have:=h i _ x (Qm W J) hx;rw[Yn,zW] at this;exact this.1
  ·obtain⟨Y,J⟩:=WT (h2.trans h1.symm) W;have:=h i _ x (Qm J W) hx;rw[Yn,zW] at this;exact this.2
 ·rintro⟨ha,hb⟩ i q x W hx;obtain⟨q1,Y,e1,e2,rfl⟩:=zT1 W;rw[Yn,ha i q1 x e1 hx,hb i Y x e2 hx];rfl
def zm2(h1:ps.length=p.length)(h2:qs.length=p.length)(h:1<=p.length):YH (qh ps qs) p=(YH ps p&&YH qs p):=by
 unfold qh
 rw[za2 (by rw[wJ];lia) h,zg7 h1 h2]
def JX(W:ps.length=qs.length)(h1:1<=ps.length):vT ps qs=(List.zipWith commonP ps qs).any wP:=by
 unfold vT qh
 by_cases J:(List.zipWith commonP ps qs).any wP=true
 ·rw [ZO J, J]
  obtain⟨k,hk⟩:∃k,(List.zipWith commonP ps qs).length=k+1:=⟨ps.length-1,by rw[wJ];lia⟩
  rw[hk];rfl
 ·rw [jl J]
  cases hz:List.zipWith commonP ps qs with
  |nil=>rfl
  | cons c r =>
   rw[hz] at J;show wP c=(c::r).any wP
   cases h:wP c with
   |false=>
    cases h2:(c::r).any wP with
    |false=>rfl
    |true=>exact(J h2).elim
   |true=>exact(J (by simp[h])).elim
def zC5(h1:ps.length=p.length)(h2:qs.length=p.length)(h:1<=p.length)(ha:YH ps p=true)(J:YH qs p=true):vT ps qs=false:=by
 rw[JX q5 q5]
 have:YH (List.zipWith commonP ps qs) p=true:=by rw[zg7 h1 h2,ha,J];rfl
 have:=jA (by rw[wJ];lia) this
 cases hz:(List.zipWith commonP ps qs).any wP with
 |false=>rfl
 |true=>exact(this hz).elim
def zo3(Y:bs.length=qs.length)(h:∀(i:Nat) b q,bs[i]?=some b->qs[i]?=some q->commonP b q=b)(hc:¬ bs.any wP=true):qh bs qs=bs:=by
 have e:List.zipWith commonP bs qs=bs:=by
  apply ext_getElem?;intro i;rw[List.getElem?_zipWith]
  cases W:bs[i]? with
  |none=>simp
  |some b=>
   obtain⟨q,J⟩:=WT Y W;rw[J];simp[h i b q W J]
 unfold qh;rw[e,jl hc]
def zo2(h:qh ps qs=ps):ZF ps qs=true:=by unfold ZF;exact xI h
def xB5(o:Option Int)(k:Nat):okE (Vm o) k=true:=by cases o<;>simp[okE]
def zf4(p:Pair)(k:Nat):okE (xU p) (k+1)=true:=Wq.mpr λd hd=>by
 simp only[zn,xb,or_false] at hd
 rcases hd with rfl |rfl<;>exact xB5 _ _
def xC3(a b:Option Int):eqD (Vm a) (Vm b)=decide (a=b):=by
 rcases a with _ |a<;>rcases b with _ |b<;>simp[eqD]
 rfl
def zM8(p q:Pair):eqD (xU p) (xU q)=decide (p=q):=by
 obtain⟨a,b⟩:=p;obtain⟨c,d⟩:=q;unfold xU;simp only[eqD,Xl,xC3,Bool.and_true];rw[wS];simp
section
variable {P:Qq3}{w:Qqa}{K:Qq5}{mg:QqM}{base:Heap}{f:Addr}{fd:Qqb}
abbrev jP:Stmt:=top 8
abbrev Qd:List Str:=["one","other"]
def Uf:FnScope Qd qZ0 (xm jP):=⟨rfl,rfl,rfl,w5,rfl,w5,w5⟩
def jM:TF:=λds n Q=>∃a b:Option Int,ds=[Vm a,Vm b]/\Q (Vm (maxO a b)) n
def UF(T:Blt mg)(F:Fun K "greater_of" "greater_of" jP f fd):FnOk P w K mg base CX0 1 f fd qZ0 (spD K 2 jM):=by
 refine Fun.okD F Uf (λJ A0 outer s H E G Z W=>(zI (kj (PWD.pt (ze0 (yj jY jV (zh 0) vN (yE _)) (Ut (yj jY jV (zh 1) vN (yE _))))) (zZ (xQ (KU (yj jY jV (zh 0) vN (yE _)) (zh 1) (zh 0)))) yT)
  (zZ (xQ (wc (JP rfl) zA8 T.max WQ (zc (zh 0) (zc (zh 1) zi))))))) ?_
 rintro ds n Q Y ⟨a,b,rfl,q⟩
 rcases a with _ |a<;>rcases b with _ |b<;>simp[startD]<;>exact q
abbrev ZS:Stmt:=top 9
abbrev zc0:List Str:=["one","other"]
def Kx:FnScope zc0 qZ0 (xm ZS):=⟨rfl,rfl,rfl,w5,rfl,w5,w5⟩
def ZI:TF:=λds n Q=>∃a b:Option Int,ds=[Vm a,Vm b]/\Q (Vm (minO a b)) n
def Ja(T:Blt mg)(F:Fun K "lesser_of" "lesser_of" ZS f fd):FnOk P w K mg base CX0 1 f fd qZ0 (spD K 2 ZI):=by
 refine Fun.okD F Kx (λJ A0 outer s H E G Z W=>(zI (kj (PWD.pt (ze0 (yj jY jV (zh 0) vN (yE _)) (Ut (yj jY jV (zh 1) vN (yE _))))) (zZ (xQ (KU (yj jY jV (zh 0) vN (yE _)) (zh 1) (zh 0)))) yT)
  (zZ (xQ (wc (JM rfl) zA5 T.min JR (zc (zh 0) (zc (zh 1) zi))))))) ?_
 rintro ds n Q Y ⟨a,b,rfl,q⟩
 rcases a with _ |a<;>rcases b with _ |b<;>simp[startD]<;>exact q
abbrev jo:Stmt:=top 10
abbrev Ke:List Str:=["one","other"]
def WW:FnScope Ke qZ0 (xm jo):=⟨rfl,rfl,rfl,w5,rfl,w5,w5⟩
def jk:TF:=λds n Q=>∃p q:Pair,ds=[xU p,xU q]/\Q (xU (commonP p q)) n
def WZ(F:Fun K "common_pair" "common_pair" jo f fd)(F_greater_of:Fn P w K mg base "greater_of" 1 2 jM)(F_lesser_of:Fn P w K mg base "lesser_of" 1 2 ZI):FnOk P w K mg base CX0 2 f fd qZ0 (spD K 2 jk):=by
 refine Fun.okD F WW (λW A0 outer s H E G Z J=>(zZ (xQ (yU (zc (wy F_greater_of (J.mono q9) rfl (zc (yG wu yF (zh 0) zA (λ_ _=>rfl)) (zc (yG wu yF (zh 1) zA (λ_ _=>rfl)) zi))) (zc (wy F_lesser_of (J.mono q9) rfl (zc (yG wu yF (zh 0) zA (λ_ _=>rfl)) (zc (yG wu yF (zh 1) zA (λ_ _=>rfl)) zi))) zi)))))) ?_
 rintro ds n Q Y ⟨p,p',rfl,q⟩;simp[startD,xU];refine⟨p.1,p'.1,rfl,?_⟩;simp;refine⟨p.2,p'.2,rfl,?_⟩;simp;exact q
def zO3(b:Qqe)(p:Qqe):Kh (b.map xU) (p.map xU)=(b.zip p).map λx=>.tup [xU x.1,xU x.2]:=by
 unfold Kh;rw[List.zipWith_map,vm];rfl
abbrev Uk:Stmt:=top 11
abbrev Kf:List Str:=["one","other"]
def zq1:FnScope Kf qZ0 (xm Uk):=⟨rfl,rfl,rfl,w5,rfl,w5,w5⟩
def Wt:("mine" :: "yours" :: Kf:Qq2).Nodup:=w5
def Ua:TF:=λds n Q=>∃ps qs:List Pair,ds=[xB ps,xB qs]/\ps.length<=1000/\Q (xB (qh ps qs)) n
def zu3(T:Blt mg)(F:Fun K "common" "common" Uk f fd)(F_settled:Fn P w K mg base "settled" 2 1 Yx)(F_common_pair:Fn P w K mg base "common_pair" 2 2 jk):FnOk P w K mg base CX0 3 f fd qZ0 (spD K 2 Ua):=by
 refine Fun.okD F zq1 (λaa A0 outer s H E G Z W=>(zZ (xQ (wy F_settled (W.mono q9) rfl (zc (vO (own:=["mine","yours"]) (M:=Kf) (vX (by rfl)) rfl (Ux rfl T.zip (zc (zh 0) (zc (zh 1) zi))) (λC J H2 fp=>(vS (k:=2) rfl rfl (xt (xh (i:=0) Wt rfl (lo rfl) q9) (xt (xh (i:=1) Wt rfl (lo rfl) q9) vh)))) (λC J H2 fp=>yz) (λC J H2 fp=>(wy F_common_pair (W.mono q9) rfl (zc (zh 0) (zc (zh 1) zi))))) zi))))) ?_
 rintro ds n Q hl ⟨ps,qs,rfl,hz,q⟩;have n1:wj (xB ps)=true:=rfl;have n2:wj (xB qs)=true:=rfl;simp[startD,n1,n2];refine(ZD (d1:=xB ps) (d2:=xB qs) rfl rfl).mpr ?_;rw[zO3]
 refine wK (λx=>.tup [xU x.1,xU x.2]) (λx:Pair × Pair=>xU (commonP x.1 x.2)) (ps.zip qs) (zG (by rw[length_zip];lia) (yk (k:=1000) q5)) (λx hx R hR=>?_) ?_
 ·have n3:wj (xU x.1)=true:=rfl;have Y:wj (xU x.2)=true:=rfl;simp[n3,Y];exact⟨x.1,x.2,rfl,hR⟩
 ·refine ⟨List.zipWith commonP ps qs, _, rfl, .inl ?_, by rw [wJ]; lia, q⟩
  have e:List.zipWith commonP ps qs=(ps.zip qs).map λx=>commonP x.1 x.2:=by rw[vm];rfl
  rw[e,zK];rfl
abbrev ZR:Stmt:=top 12
abbrev zb9:List Str:=["one","other"]
def Kw:FnScope zb9 qZ0 (xm ZR):=⟨rfl,rfl,rfl,w5,rfl,w5,w5⟩
def ZH:TF:=λds n Q=>∃ps qs:List Pair,ds=[xB ps,xB qs]/\1<=ps.length/\ps.length=qs.length/\ps.length<=1000/\Q (.bl (vT ps qs)) n
def KZ(F:Fun K "lie_apart" "lie_apart" ZR f fd)(F_is_crossed:Fn P w K mg base "is_crossed" 1 1 qO)(F_common:Fn P w K mg base "common" 3 2 Ua):FnOk P w K mg base CX0 4 f fd qZ0 (spD K 2 ZH):=by
 refine Fun.okD F Kw (λaa A0 outer s H E G Z W=>(zZ (xQ (wy F_is_crossed (W.mono q9) rfl (zc (yG wu yF (wy F_common (W.mono q9) rfl (zc (zh 0) (zc (zh 1) zi))) zA (λ_ _=>rfl)) zi))))) ?_
 rintro ds n Q hl ⟨ps,qs,rfl,h1,h2,hz,q⟩;have n1:wj (xB ps)=true:=rfl;have n2:wj (xB qs)=true:=rfl;simp[startD,n1,n2];refine⟨ps,qs,rfl,hz,?_⟩;have J:=zn0 h2;unfold vT at q
 cases Y:qh ps qs with
 |nil=>rw[Y] at J;simp at J;lia
 |cons c r=>
  rw[Y] at q;simp[xB];exact⟨c,rfl,q⟩
def XA(qs:QqI)(i:Nat):List Int:=qs.map λq=>q[i]?.getD 0
def zF5(m:Nat):zd7 0 m=(List.range m).map λi=>.int (i:Int):=by unfold zd7;simp
theorem jf:∀{ns:Qq4},0<ns.length->∃M,M∈ns/\∀a∈ns,M<=a
 |[x],_=>⟨x,by simp,by simp⟩
 |x::y::r,_=>by
  obtain⟨M,h1,h2⟩:=jf (ns:=y::r) (by simp)
  by_cases h:x<=M
  ·exact⟨x,by simp,λa ha=>by rcases zn.mp ha with rfl |ha;exact yR _;have:=h2 a ha;lia⟩
  ·exact⟨M,zk _ h1,λa ha=>by rcases zn.mp ha with rfl |ha;lia;exact h2 a ha⟩
theorem qg:∀{ns:Qq4},0<ns.length->∃M,M∈ns/\∀a∈ns,a<=M
 |[x],_=>⟨x,by simp,by simp⟩
 |x::y::r,_=>by
  obtain⟨M,h1,h2⟩:=qg (ns:=y::r) (by simp)
  by_cases h:M<=x
  ·exact⟨x,by simp,λa ha=>by rcases zn.mp ha with rfl |ha;exact yR _;have:=h2 a ha;lia⟩
  ·exact⟨M,zk _ h1,λa ha=>by rcases zn.mp ha with rfl |ha;lia;exact h2 a ha⟩
open Classical in
noncomputable def zn8(ns:Qq4):Int:=if h:∃M,M∈ns/\∀a∈ns,M<=a then choose h else 0
open Classical in
noncomputable def Vi(ns:Qq4):Int:=if h:∃M,M∈ns/\∀a∈ns,a<=M then choose h else 0
def Zc(h:∃M,M∈ns/\∀a∈ns,M<=a):zn8 ns∈ns/\∀a∈ns,zn8 ns<=a:=by unfold zn8;rw[dif_pos h];exact Classical.choose_spec h
def qH(h:∃M,M∈ns/\∀a∈ns,a<=M):Vi ns∈ns/\∀a∈ns,a<=Vi ns:=by unfold Vi;rw[dif_pos h];exact Classical.choose_spec h
def QV{M:Int}(h1:M∈ns)(h2:∀a∈ns,M<=a):M=zn8 ns:=by
 obtain⟨h3,h4⟩:=Zc ⟨M,h1,h2⟩;have:=h2 _ h3;have:=h4 _ h1;lia
def UK{M:Int}(h1:M∈ns)(h2:∀a∈ns,a<=M):M=Vi ns:=by
 obtain⟨h3,h4⟩:=qH ⟨M,h1,h2⟩;have:=h2 _ h3;have:=h4 _ h1;lia
def VE(h:0<ns.length)(q:k (.int (zn8 ns))):xl5 [.lst (ns.map D.int)] k:=⟨ns,rfl,h,λM h1 h2=>by rw[QV h1 h2];exact q⟩
def Xi(h:0<ns.length)(q:k (.int (Vi ns))):xl8 [.lst (ns.map D.int)] k:=⟨ns,rfl,h,λM h1 h2=>by rw[UK h1 h2];exact q⟩
abbrev Ul:Stmt:=top 13
abbrev jD:List Str:=["places","columns"]
def KA:FnScope jD ["places"] (xm Ul):=⟨rfl,rfl,rfl,w5,rfl,w5,w5⟩
def QS:("i" :: jD:Qq2).Nodup:=w5
def QR:("place" :: ("i" :: jD):Qq2).Nodup:=w5
def QQ:("column" :: jD:Qq2).Nodup:=w5
end
def rot(i:Nat)(p:Qq4):List Int:=p.drop i++p.take i
def QC(i:Nat)(t:Thing):SRow:=⟨.t (rot i t.2.1),t.1,[]⟩
def UX(xs:List D)(b:Nat)(J:b<=xs.length):Ki xs (some (b:Int)) none=xs.drop b:=by
 unfold Ki
 rw[HT.QA,HT.Um,Nat.min_eq_left J,xZ (by rw[wY];lia)]
def zA2(xs:List D)(e:Nat)(he:e<=xs.length):Ki xs none (some (e:Int))=xs.take e:=by
 unfold Ki;rw[HT.QA,HT.Um,Nat.min_eq_left he,vw,Nat.sub_zero]
def Uz{α β:Type}{f:α->β}:∀{l:List β}{ts:List α},l.Perm (ts.map f)->∃rs:List α,rs.Perm ts/\l=rs.map f:=by
 intro l ts h;generalize J:ts.map f=m at h
 induction h generalizing ts with
 |nil=>
  cases ts with
  |nil=>exact⟨[],.nil,rfl⟩
  |cons _ _=>simp at J
 | cons x p ih =>
  cases ts with
  |nil=>simp at J
  |cons a ts=>
   obtain⟨e1,e2⟩:=List.cons.inj J;obtain⟨rs,h1,rfl⟩:=ih e2
   exact⟨a::rs,h1.cons a,by rw[<- e1];rfl⟩
 | swap x y l =>
  cases ts with
  |nil=>simp at J
  | cons a ts =>
   cases ts with
   |nil=>simp at J
   |cons b ts=>
    obtain⟨e1,e2⟩:=List.cons.inj J;obtain⟨e3,e4⟩:=List.cons.inj e2
    exact⟨b::a::ts,.swap a b ts,by rw[<- e1,<- e3,<- e4];rfl⟩
 |trans p q Y W=>
  obtain⟨r2,h2,rfl⟩:=W J;obtain⟨r1,h1,rfl⟩:=Y rfl;exact⟨r1,h1.trans h2,rfl⟩
structure OrdT(i:Nat)(ts rs:Qqd):Prop where
 perm:rs.Perm ts
 up:rs.Pairwise λa b=>(QC i a).lt (QC i b)=true
structure GoodU(d:Nat)(ts:Qqd):Prop where
 each:∀t∈ts,t.2.1.length=d
 nd:(ts.map λt=>t.1).Nodup
def GoodT.u{d:Nat}{x:Int}(h:GoodT d ts x):GoodU d ts:=⟨λt ht=>(h.each t ht).2.2.1,h.nodup⟩
def GoodU.perm{d:Nat}(h:GoodU d ts)(p:rs.Perm ts):GoodU d rs:=⟨λt ht=>h.each t (p.mem_iff.mp ht),(p.map _).nodup_iff.mpr h.nd⟩
def GoodU.sub{d:Nat}(h:GoodU d ts)(p:rs.Sublist ts):GoodU d rs:=⟨λt ht=>h.each t (p.mem ht),(p.map _).nodup h.nd⟩
def qG(t:Thing):Key:=Sum.inl t.1
def byN(ts:Qqd):D:=.dct (ts.map qG) (ts.map xx)
@[simp] theorem xI3(ts:Qqd):wj (byN ts)=true:=id rfl
theorem Xj:∀{ts:Qqd}{x:Int},x ∉ ts.map (λt=>t.1)->zM2 (ts.map qG) (Sum.inl x)=false
 |[],x,_=>rfl
 |t::ts,x,h=>by
  have h1:¬ t.1=x:=λe=>h (by simp[e])
  have J:=Xj (ts:=ts) (x:=x) λz=>h (zk _ z);show(decide (qG t=Sum.inl x)||zM2 (ts.map qG) (Sum.inl x))=false;rw[J,Bool.or_false];exact xn λe=>h1 (Sum.inl.inj e)
theorem jh:∀{ts:Qqd}{t:Thing},t∈ts->(ts.map λt=>t.1).Nodup->atK (ts.map qG) (ts.map xx) (Sum.inl t.1)=some (xx t)
 |[],t,h,_=>by simp at h
 | s :: ts, t, h, J => by
  have hn':=xM.mp J
  show(if qG s=Sum.inl t.1 then some (xx s) else atK (ts.map qG) (ts.map xx) (Sum.inl t.1))=_
  rcases zn.mp h with rfl |h
  ·exact if_pos rfl
  ·have : ¬ qG s = Sum.inl t.1 := λe => by
    have e':s.1=t.1:=Sum.inl.inj e;exact hn'.1 (zo.mpr ⟨t,h,e'.symm⟩)
   rw[if_neg this];exact jh h hn'.2
def jd(ts:Qqd):D:=.tup (ts.map λt=>.int t.1)
@[simp] theorem xk4(ts:Qqd):wj (jd ts)=true:=id rfl
@[simp] theorem xk3(ps:Qqe):wj (xB ps)=true:=id rfl
@[simp] theorem xk2(p:Qq4):wj (wz p)=true:=id rfl
@[simp] theorem xk1(t:Thing):wj (xx t)=true:=id rfl
noncomputable def Zl(d:Nat)(qs:QqI):List Pair:=(List.range d).map λi=>(some (zn8 (XA qs i)),some (Vi (XA qs i)))
inductive Tr where
 |one (name:Int) (bd:Qqe)
 |two (ns:Qq4) (bd:Qqe) (low high:Tr)
noncomputable def kR:Tr->D
 |.one x bd=>.tup [.tup [.int x],xB bd,.non,.non]
 |.two ns bd l h=>.tup [.tup (ns.map D.int),xB bd,kR l,kR h]
def qi(t:Tr):wj (kR t)=true:=by cases t<;>rfl
inductive Turned(d:Nat):Nat->List Thing->Tr->Prop where
  |one {i:Nat}{t:Thing}:Turned d i [t] (.one t.1 (Zl d [t.2.1]))
  |two {i:Nat}{ts rs:Qqd}{ns:Qq4}{low high:Tr}:2<=ts.length->ns.Perm (ts.map λt=>t.1)->ns.Pairwise (·<=·)->OrdT i ts rs->Turned d ((i+1)%d) (rs.take ((ts.length+1)/2)) low->Turned d ((i+1)%d) (rs.drop ((ts.length+1)/2)) high ->
      Turned d i ts (.two ns (Zl d (ts.map λt=>t.2.1)) low high)
section
variable {P:Qq3}{w:Qqa}{K:Qq5}{mg:QqM}{base:Heap}{f:Addr}{fd:Qqb}
abbrev qr:Stmt:=top 15
abbrev qw:List Str:=["house"]
def YO:FnScope qw qZ1 (xm qr):=⟨rfl,rfl,rfl,w5,rfl,w5,w5⟩
def Yl:("thing" :: qw:Qq2).Nodup:=w5
def zE8:TF:=λds n Q=>∃(J:D) (ts:Qqd),ds=[.tup [J,.tup (ts.map xx)]]/\(ts.map λt=>t.1).Nodup/\ts.length<=1000/\Q (byN ts) n
def xj5(T:Blt mg)(F:Fun K "things_by_name" "things_by_name" qr f fd):FnOk P w K mg base CX0 1 f fd qZ1 (spD K 1 zE8):=by
 refine Fun.okD F YO (λaa A0 outer s H E G Z hr=>(zZ (xQ (zI2 (own:=["thing"]) (M:=qw) (vX (by rfl)) rfl (vq rfl (yG wu yF (zh 0) zA (λ_ _=>rfl))) (λC W H2 fp=>(xh (i:=0) Yl rfl (lo rfl) q9)) (λC W H2 fp=>yz) (λC W H2 fp=>(yG wu yF (zh 0) zA (λ_ _=>rfl))) (λC W H2 fp=>(zh 0)))))) ?_
 rintro ds n Q hl ⟨dd,ts,rfl,hn,hz,q⟩;have e1:atI [dd,D.tup (ts.map xx)] 1=some (D.tup (ts.map xx)):=rfl;simp[startD,e1]
 refine⟨by rw[zf];exact yk hz,λi ks es n'=>n'=n/\ks=(ts.take i).map qG/\es=(ts.take i).map xx,⟨rfl,rfl,rfl⟩,?_,?_⟩
 ·rintro i d ks es n' e ⟨rfl, rfl, rfl⟩;rw[zy] at e
  cases J:ts[i]? with
  |none=>rw[J] at e;cases e
  | some t =>
   rw[J] at e;cases e;have nt:wj (xx t)=true:=rfl;simp[nt];have e2:∀R:D->Prop,R (.int t.1)->KM (xx t) (.int 0) R:=λR h=>⟨_,_,_,.inr (.inl rfl),rfl,rfl,h⟩;refine e2 _ ?_;refine⟨_,rfl,?_,?_⟩
   ·have hk : zM2 ((ts.take i).map qG) (Sum.inl t.1) = false := Xj λY => by
     have h3:(ts.take i++[t]).Sublist ts:=by
      have:ts.take i++[t]=ts.take (i+1):=by rw[xE,J];rfl
      rw[this];exact ve ..
     have h4:=(h3.map λt=>t.1).nodup hn;rw[zS,yh] at h4
     exact h4.2.2 _ Y _ (by simp) rfl
    unfold Uu;rw[vG] at hk
    rw[if_neg (by rw[hk];simp),xE,zy,J];rfl
   ·have hk : zM2 ((ts.take i).map qG) (Sum.inl t.1) = false := Xj λY => by
     have h3:(ts.take i++[t]).Sublist ts:=by
      have:ts.take i++[t]=ts.take (i+1):=by rw[xE,J];rfl
      rw[this];exact ve ..
     have h4:=(h3.map λt=>t.1).nodup hn;rw[zS,yh] at h4
     exact h4.2.2 _ Y _ (by simp) rfl
    unfold zr4;rw[vG] at hk
    rw[if_neg (by rw[hk];simp),xE,zy,J];rfl
 ·rintro ks es n' ⟨rfl,rfl,rfl⟩;rw[zf,wW];exact q
abbrev YT:Stmt:=top 23
abbrev ji:List Str:=["things","i"]
def Qw:FnScope ji ["things","i"] (xm YT):=⟨rfl,rfl,rfl,w5,rfl,w5,w5⟩
def jx:("name" :: "place" :: "worth" :: ji:Qq2).Nodup:=w5
def YE:("turned" :: "name" :: ji:Qq2).Nodup:=w5
def YK:TF:=λds n Q=>∃(i d:Nat) (ts:Qqd) (J:D),ds=[J,.int i]/\(J=.lst (ts.map xx)\/J=.tup (ts.map xx))/\i<d/\d<=4/\GoodU d ts/\ts.length<900/\∀rs:List Thing,OrdT i ts rs->Q (jd rs) n
def QK(T:Blt mg)(F:Fun K "names_by" "names_by" YT f fd):FnOk P w K mg base CX0 1 f fd ["things","i"] (spD K 2 YK):=by
 refine Fun.okD F Qw (λae A0 outer s H E G Z hr=>(zZ (xQ (yr wo vL T.tuple vM (zc (vO (own:=["turned","name"]) (M:=ji) (vX (by rfl)) rfl (vq rfl (wc (Xo hr) (UY rfl) T.sorted jg (zc (vO (own:=["name","place","worth"]) (M:=ji) (vX (by rfl)) rfl (vq rfl (zh 0)) (λC J H2 fp=>(vS (k:=3) rfl rfl (xt (xh (i:=0) jx rfl (lo rfl) q9) (xt (xh (i:=1) jx rfl (lo rfl) q9) (xt (xh (i:=2) jx rfl (lo rfl) q9) vh))))) (λC J H2 fp=>yz) (λC J H2 fp=>(yU (zc (Wn zI5 zU7 (zf1 rfl (zh 1) (qQ (zh 4)) qR) (zf1 rfl (zh 1) qR (qQ (zh 4)))) (zc (zh 0) zi))))) zi))) (λC J H2 fp=>(vS (k:=2) rfl rfl (xt (xh (i:=0) YE rfl (lo rfl) q9) (xt (xh (i:=1) YE rfl (lo rfl) q9) vh)))) (λC J H2 fp=>yz) (λC J H2 fp=>(zh 1))) zi))))) ?_
 rintro ds n Q hl ⟨i,d,ts,dd,rfl,aa,hi,hd,hg,hz,q⟩
 have ac:wj dd=true:=by rcases aa with rfl |rfl<;>rfl
 simp[startD,ac];refine⟨_,aa,?_⟩
 refine wK xx (λt=>(QC i t).d) ts (yk q5) (λt ht R hR=>?_) ?_
 ·have he := hg.each t ht;obtain⟨x,p,y⟩:=t;have hp:p.length=d:=he
  have c1:=UX (p.map D.int) i (by rw[zf];lia)
  have c2:=zA2 (p.map D.int) i (by rw[zf];lia)
  simp[xx,wz,c1,c2]
  refine⟨yk q5,?_⟩
  have e:(QC i (x,p,y)).d=D.tup [D.tup (List.drop i (List.map D.int p)++List.take i (List.map D.int p)),D.int x]:=by
   show D.tup [D.tup ((rot i p).map D.int),D.int x]=_;unfold rot;rw[zS,map_drop,vG]
  rw[<- e];exact hR
 ·refine ⟨ts.map (QC i), false, by rw [zK]; rfl, by rw [zf]; exact hz, ?_, ?_, λW hp hs => ⟨_, .inl rfl, ?_⟩⟩
  ·intro x hx;obtain⟨t,_,rfl⟩:=zo.mp hx;rfl
  ·rw[zK];exact hg.nd
  ·have Y : W.length = ts.length := by rw [hp.length_eq, zf]
   obtain⟨rs,ad,rfl⟩:=Uz hp;rw[zf] at Y;rw[zK]
   refine wK (SRow.d∘QC i) (λt:Thing=>.int t.1) rs (yk q5) (λt ht R hR=>?_) ?_
   ·have e:(SRow.d∘QC i) t=.tup [.tup ((rot i t.2.1).map D.int),.int t.1]:=rfl;rw[e];simp;exact hR
   ·simp
    exact q rs ⟨ad,by rw[xF] at hs;exact hs⟩
abbrev qt:Stmt:=top 24
abbrev qx:List Str:=["by_name","names","i"]
def YR:FnScope qx qZ5 (xm qt):=⟨rfl,rfl,rfl,w5,rfl,w5,w5⟩
def Ym:("name" :: qx:Qq2).Nodup:=w5
def YM:TF:=λds n Q=>∃(i d:Nat) (hs ts:Qqd),ds=[byN hs,jd ts,.int i]/\i<d/\d<=4/\(hs.map λt=>t.1).Nodup/\(∀t∈ts,t∈hs)/\GoodU d ts/\ts.length<900/\∀rs:List Thing,OrdT i ts rs->Q (jd rs) n
def QN(F:Fun K "names_in_order" "names_in_order" qt f fd)(F_names_by:Fn P w K mg base "names_by" 1 2 YK):FnOk P w K mg base CX0 2 f fd qZ5 (spD K 3 YM):=by
 refine Fun.okD F YR (λaa A0 outer s H E G Z Y=>(zZ (xQ (wy F_names_by (Y.mono q9) rfl (zc (vO (own:=["name"]) (M:=qx) (vX (by rfl)) rfl (vq rfl (zh 1)) (λC W H2 fp=>(xh (i:=0) Ym rfl (lo rfl) q9)) (λC W H2 fp=>yz) (λC W H2 fp=>(zt1 (zx8 Y) (zh 1) (zh 0) (λ_ _=>rfl)))) (zc (zh 2) zi)))))) ?_
 rintro ds n Q hl ⟨i,d,hs,ts,rfl,hi,hd,hn,J,hg,hz,q⟩;simp[startD];refine⟨_,.inr rfl,?_⟩
 refine wK (λt:Thing=>.int t.1) xx ts (yk q5) (λt ht R hR=>?_) ?_
 ·simp;unfold byN;rw[zr3];exact⟨_,jh (J t ht) hn,hR⟩
 ·exact⟨i,d,ts,_,rfl,.inl rfl,hi,hd,hg,hz,q⟩
abbrev ZT:Stmt:=top 25
abbrev zc2:List Str:=["count"]
def Ky:FnScope zc2 ["count"] (xm ZT):=⟨rfl,rfl,rfl,w5,rfl,w5,w5⟩
def ZJ:TF:=λds n Q=>∃c:Nat,ds=[.int c]/\Q (.int (((c+1)/2:Nat):Int)) n
def Jb(F:Fun K "halved_up" "halved_up" ZT f fd):FnOk P w K mg base CX0 1 f fd ["count"] (spD K 1 ZJ):=by
 refine Fun.okD F Ky (λJ A0 outer s H E G Z W=>(zZ (xQ (KW (km (zh 0) zA) zA)))) ?_;rintro ds n Q Y ⟨c,rfl,q⟩
 have e:((c:Int)+1)/2=((c+1)/2:Nat):=q5
 simp[startD]
 exact⟨⟨q9,q9⟩,by rw[e];exact q⟩
def Wc:TF:=λds n Q=>∃(qs:QqI) (d:Nat),ds=[.lst (qs.map wz)]/\1<=qs.length/\qs.length<=1000/\d<=1000/\(∀q∈qs,q.length=d)/\Q (xB (Zl d qs)) n
def zk8(T:Blt mg)(F:Fun K "bounds" "bounds" Ul f fd):FnOk P w K mg base CX0 1 f fd ["places"] (spD K 1 Wc):=by
 refine Fun.okD F KA (λae A0 outer s H E G Z hr=>(zI (Yh (i:=1) KA.nd rfl (lo rfl) (own:=["i"]) (M:=jD) (vX (by rfl)) rfl (qW T.range (zc (wc wA qa T.len kK (zc (yG wu yF (zh 0) zA (λ_ _=>rfl)) zi)) zi)) (λC W H2 fp=>(xh (i:=0) QS rfl (lo rfl) q9)) (λC W H2 fp=>yz) (λC W H2 fp=>(vO (own:=["place"]) (M:=("i" :: jD)) (vX (by rfl)) rfl (vq rfl (zh 1)) (λC W H2 fp=>(xh (i:=0) QR rfl (lo rfl) q9)) (λC W H2 fp=>yz) (λC W H2 fp=>(yG wu yF (zh 0) (zh 1) (λ_ _=>rfl))))))
  (zZ (xQ (yr wo vL T.tuple vM (zc (vO (own:=["column"]) (M:=jD) (vX (by rfl)) rfl (vq rfl (zh 1)) (λC W H2 fp=>(xh (i:=0) QQ rfl (lo rfl) q9)) (λC W H2 fp=>yz) (λC W H2 fp=>(yU (zc (wc (JN rfl) zA6 T.min JR (zc (zh 0) zi)) (zc (wc (WO rfl) za6 T.max WQ (zc (zh 0) zi)) zi))))) zi)))))) ?_
 rintro ds n Q hl ⟨qs,d,rfl,h1,h2,hd,hq,q⟩
 obtain⟨q0,J,rfl⟩:∃q0 J,qs=q0::J:=by cases qs with |nil=>simp at h1 |cons q0 J=>exact⟨q0,J,rfl⟩
 have ac:q0.length=d:=hq q0 (xj ..)
 have hk:∀k:D->Prop,k (.int d)->zL8 [wz q0] k:=λk h=>by unfold wz;rw[Us,zf,ac];exact h
 simp[startD];refine hk _ ?_;simp
 refine⟨q5,?_⟩
 rw[zF5]
 refine wK (λi:Nat=>D.int (i:Int)) (λi=>.lst ((XA (q0::J) i).map D.int)) (List.range d) (by rw[vI];exact yk hd) (λi hi R hR=>?_) ?_
 ·have hi' : i < d := vv.mp hi;simp;rw[<- zN (f:=wz)]
  have e:(XA (q0::J) i).map D.int=(q0::J).map λq=>.int (q[i]?.getD 0):=by unfold XA;rw[zK];rfl
  refine wK wz (λq=>.int (q[i]?.getD 0)) (q0::J) (yk h2) (λq Y R2 ad=>?_) ?_
  ·have nq : wj (wz q) = true := rfl
   have aa:i<q.length:=by rw[hq q Y];exact hi'
   simp[nq];unfold wz;rw[QE];refine⟨.int (q[i]?.getD 0),qM ?_,ad⟩;rw[zy,zd aa];rfl
  ·rw[<- e];exact hR
 ·simp
  refine wK (λi=>.lst ((XA (q0::J) i).map D.int)) (λi=>xU (some (zn8 (XA (q0::J) i)),some (Vi (XA (q0::J) i)))) (List.range d) (by rw[vI];exact yk hd) (λi hi R hR=>?_) ?_
  ·have hc : 0 < (XA (q0 :: J) i).length := by unfold XA; rw [zf]; exact h1
   simp;exact VE hc (Xi hc hR)
  ·have z:=q;unfold xB Zl at z;rw[zK] at z;exact KO.mpr z
abbrev ZU:Stmt:=top 27
abbrev Yt:List Str:=["by_name","names"]
def Kz:FnScope Yt qZ6 (xm ZU):=⟨rfl,rfl,rfl,w5,rfl,w5,w5⟩
def Ve:("name" :: Yt:Qq2).Nodup:=w5
def ZK:TF:=λds n Q=>∃(d:Nat) (hs ts:Qqd),ds=[byN hs,jd ts]/\d<=4/\(hs.map λt=>t.1).Nodup/\(∀t∈ts,t∈hs)/\(∀t∈ts,t.2.1.length=d)/\1<=ts.length/\ts.length<900/\Q (xB (Zl d (ts.map λt=>t.2.1))) n
def Jc(F:Fun K "bounds_of" "bounds_of" ZU f fd)(F_bounds:Fn P w K mg base "bounds" 1 1 Wc):FnOk P w K mg base CX0 2 f fd qZ6 (spD K 2 ZK):=by
 refine Fun.okD F Kz (λaa A0 outer s H E G Z hr=>(zZ (xQ (wy F_bounds (hr.mono q9) rfl (zc (vO (own:=["name"]) (M:=Yt) (vX (by rfl)) rfl (vq rfl (zh 1)) (λC Y H2 fp=>(xh (i:=0) Ve rfl (lo rfl) q9)) (λC Y H2 fp=>yz) (λC Y H2 fp=>(yG wu yF (zt1 (zx8 hr) (zh 1) (zh 0) (λ_ _=>rfl)) zA (λ_ _=>rfl)))) zi))))) ?_
 rintro ds n Q hl ⟨d,hs,ts,rfl,hd,hn,J,W,h1,hz,q⟩;simp[startD];refine⟨_,.inr rfl,?_⟩
 refine wK (λt:Thing=>.int t.1) (λt=>wz t.2.1) ts (yk q5) (λt ht R hR=>?_) ?_
 ·simp;unfold byN;rw[zr3];exact⟨_,jh (J t ht) hn,⟨_,_,_,.inr (.inl rfl),rfl,rfl,hR⟩⟩
 ·refine ⟨ts.map λt => t.2.1, d, by rw [zK]; rfl, by simpa using h1, by simp; lia, by lia, λp hp => ?_, q⟩
  obtain⟨t,ht,rfl⟩:=zo.mp hp;exact W t ht
abbrev We:Stmt:=top 28
noncomputable abbrev zC9:List Str:=["d","by_name","names","i","rising","limits","ordered","half","turn"]
def qB:FnScope zC9 qZ7 (xm We):=⟨rfl,rfl,rfl,w5,rfl,w5,w5⟩
def Km:Nat->TF
 |0=>λ_ _ _=>False
 |j+1=>λds n Q=>∃(d i:Nat) (hs ts:Qqd),ds=[.int d,byN hs,jd ts,.int i]/\i<d/\d<=4/\(hs.map λt=>t.1).Nodup/\(∀t∈ts,t∈hs)/\GoodU d ts/\1<=ts.length/\ts.length<900/\ts.length<=2^j/\∀tr,Turned d i ts tr->Q (kR tr) n
def zX6(T:Blt mg)(F:Fun K "tree_of" "tree_of" We f fd)(hm:mg "tree_of" = some (.ref f))(hk:W.keepIn K (.ref f)=true)(hb:Binds K fd ["d","by_name","names","i"] [])(F_bounds_of:Fn P w K mg base "bounds_of" 2 2 ZK)(F_names_in_order:Fn P w K mg base "names_in_order" 2 3 YM)(F_halved_up:Fn P w K mg base "halved_up" 1 1 ZJ):∀j:Nat,FnOk P w K mg base CX0 (j+2) f fd qZ7 (spD K 4 (Km j)):=by
 intro j
 induction j with
 |zero=>exact FnOk.botK λds n Q h=>h
 | succ j ih =>
  have F_tree_of:Fn P w K mg base "tree_of" (j+2) 4 (Km j):=⟨f,fd,_,ih,hm,hk,hb⟩
  refine Fun.okD F qB (λaj A0 outer s H E G Z hr=>(zI (yo (i:=4) qB.nd rfl (lo rfl) (yr wo vL T.tuple vM (zc (wc JL (zm9 rfl) T.sorted jg (zc (zh 2) zi)) zi)))
  (zI (yo (i:=5) qB.nd rfl (lo rfl) (wy F_bounds_of (hr.mono q5) rfl (zc (zh 1) (zc (zh 2) zi))))
  (zI (kj (yj UD Ur (wc wA qa T.len kK (zc (zh 2) zi)) zA (yE _)) (zZ (xQ (yU (zc (zh 4) (zc (zh 5) (zc vN (zc vN zi))))))) yT)
  (zI (yo (i:=6) qB.nd rfl (lo rfl) (wy F_names_in_order (hr.mono q5) rfl (zc (zh 1) (zc (zh 2) (zc (zh 3) zi)))))
  (zI (yo (i:=7) qB.nd rfl (lo rfl) (wy F_halved_up (hr.mono q5) rfl (zc (wc wA qa T.len kK (zc (zh 2) zi)) zi)))
  (zI (yo (i:=8) qB.nd rfl (lo rfl) (jX (km (zh 3) zA) (zh 0)))
  (zZ (xQ (yU (zc (zh 4) (zc (zh 5) (zc (wy F_tree_of hr rfl (zc (zh 0) (zc (zh 1) (zc (zf1 rfl (zh 6) qR (qQ (zh 7))) (zc (zh 8) zi))))) (zc (wy F_tree_of hr rfl (zc (zh 0) (zc (zh 1) (zc (zf1 rfl (zh 6) (qQ (zh 7)) qR) (zc (zh 8) zi))))) zi)))))))))))))) ?_
  rintro ds n Q hl ⟨d,i,hs,ts,rfl,hi,hd,hn,J,hg,h1,hz,hj,q⟩
  have af:jd ts=.tup ((ts.map λt=>t.1).map D.int):=by unfold jd;rw[zK];rfl
  have kl:∀k:D->Prop,k (.int (ts.length:Int))->zL8 [jd ts] k:=λk h=>by unfold jd;rw[Us,zf];exact h
  simp[startD]
  refine⟨ts.map λt=>t.1,congrArg (λx=>[x]) af,by simp;lia,λns hp hs'=>?_⟩
  simp;refine⟨d,hs,ts,rfl,hd,hn,J,hg.each,h1,hz,?_⟩;have np:wj (xB (Zl d (ts.map λt=>t.2.1)))=true:=rfl;simp;refine kl _ ?_;simp
  split
  ·rename_i h2
   have h2':ts.length=1:=q5
   obtain⟨t,rfl⟩:=List.length_eq_one_iff.mp h2'
   have e1:ns=[t.1]:=by simpa using hp
   subst e1;simp;exact q _ .one
  ·rename_i h2
   have h2':2<=ts.length:=q5
   refine⟨i,d,hs,ts,rfl,hi,hd,hn,J,hg,hz,λrs ho=>?_⟩;have ai:rs.length=ts.length:=ho.perm.length_eq;simp;refine kl _ ⟨ts.length,rfl,?_⟩;simp[np]
   refine⟨q5,?_⟩
   cases j with
   |zero=>simp at hj;lia
   | succ j =>
    have et:((i:Int)+1)%(d:Int)=(((i+1)%d:Nat):Int):=by simp
    have ad:Ki (rs.map λt=>D.int t.1) none (some (((ts.length+1)/2:Nat):Int))=(rs.take ((ts.length+1)/2)).map λt=>D.int t.1:=by rw[zA2 _ _ (by rw[zf];lia),vG]
    have ac:Ki (rs.map λt=>D.int t.1) (some (((ts.length+1)/2:Nat):Int)) none=(rs.drop ((ts.length+1)/2)).map λt=>D.int t.1:=by rw[UX _ _ (by rw[zf];lia),map_drop]
    have gr:=hg.perm ho.perm
    have pw:2^(j+1)=2*2^j:=by rw[Nat.pow_succ];lia
    have Y:∀(us:Qqd) (n:Nat) (R:D->Nat->Prop),us.Sublist rs->1<=us.length->us.length<=(ts.length+1)/2->(∀tr,Turned d ((i+1)%d) us tr->R (kR tr) n)->Km (j+1) [.int d,byN hs,jd us,.int (((i+1)%d:Nat):Int)] n R:=λus n R hu h3 h4 hR=>
     ⟨d,(i+1)%d,hs,us,rfl,yI _ q5,hd,hn,λt ht=>J t (ho.perm.mem_iff.mp (hu.mem ht)),gr.sub hu,h3,q5,q5,hR⟩
    have eh:((ts.length:Int)+1)/2=(((ts.length+1)/2:Nat):Int):=q5
    unfold jd;rw[zr2,eh,et,ad]
    refine Y _ _ _ (ve ..) (by rw[xr];lia) (by rw[xr];lia) λah ae=>?_
    rw[zr2,ac]
    refine Y _ _ _ (List.drop_sublist ..) (by rw[wY];lia) (by rw[wY];lia) λag aa=>?_
    exact q _ (.two h2' hp hs' ho ae aa)
abbrev ZV:Stmt:=top 29
abbrev Yu:List Str:=["house"]
def KB:FnScope Yu qZ1 (xm ZV):=⟨rfl,rfl,rfl,w5,rfl,w5,w5⟩
def qX:("name" :: "place" :: "worth" :: Yu:Qq2).Nodup:=w5
def ZL:TF:=λds n Q=>∃(J:D) (ts:Qqd),ds=[.tup [J,.tup (ts.map xx)]]/\ts.length<=1000/\Q (jd ts) n
def Jd(T:Blt mg)(F:Fun K "all_names" "all_names" ZV f fd):FnOk P w K mg base CX0 1 f fd qZ1 (spD K 1 ZL):=by
 refine Fun.okD F KB (λaa A0 outer s H E G Z hr=>(zZ (xQ (yr wo vL T.tuple vM (zc (vO (own:=["name","place","worth"]) (M:=Yu) (vX (by rfl)) rfl (vq rfl (yG wu yF (zh 0) zA (λ_ _=>rfl))) (λC J H2 fp=>(vS (k:=3) rfl rfl (xt (xh (i:=0) qX rfl (lo rfl) q9) (xt (xh (i:=1) qX rfl (lo rfl) q9) (xt (xh (i:=2) qX rfl (lo rfl) q9) vh))))) (λC J H2 fp=>yz) (λC J H2 fp=>(zh 0))) zi))))) ?_
 rintro ds n Q hl ⟨dd,ts,rfl,hz,q⟩;have Y:atI [dd,D.tup (ts.map xx)] 1=some (D.tup (ts.map xx)):=rfl;simp[startD,Y];refine wK xx (λt=>.int t.1) ts (yk hz) (λt ht R W=>?_) ?_
 ·simp[xx];exact W
 ·exact KO.mpr q
abbrev Qx:Stmt:=top 30
abbrev xd1:List Str:=["house","d","things"]
def Ue:FnScope xd1 qZ1 (xm Qx):=⟨rfl,rfl,rfl,w5,rfl,w5,w5⟩
def VR:TF:=λds n Q=>∃(d:Nat) (ts:Qqd),ds=[.tup [.int d,.tup (ts.map xx)]]/\1<=d/\d<=4/\GoodU d ts/\ts.length<=256/\(ts=[]->Q .non n)/\(ts≠[]->∀tr,Turned d 0 ts tr->Q (kR tr) n)
def zI7(T:Blt mg)(F:Fun K "turns" "turns" Qx f fd)(F_tree_of:Fn P w K mg base "tree_of" 12 4 (Km 10))(F_things_by_name:Fn P w K mg base "things_by_name" 1 1 zE8)(F_all_names:Fn P w K mg base "all_names" 1 1 ZL):FnOk P w K mg base CX0 13 f fd qZ1 (spD K 1 VR):=by
 refine Fun.okD F Ue (λaa A0 outer s H E G Z W=>(zI (Yg (m:=3) (zh 0) (vS (k:=2) rfl rfl (xt (xh (i:=1) Ue.nd rfl (lo rfl) q9) (xt (xh (i:=2) Ue.nd rfl (lo rfl) q9) vh))))
  (zI (kj (yj UD Ur (wc wA qa T.len kK (zc (zh 2) zi)) zA (yE _)) (zZ (xQ vN)) yT)
  (zZ (xQ (wy F_tree_of (W.mono q9) rfl (zc (zh 1) (zc (wy F_things_by_name (W.mono q9) rfl (zc (zh 0) zi)) (zc (wy F_all_names (W.mono q9) rfl (zc (zh 0) zi)) (zc zA zi)))))))))) ?_
 rintro ds n Q hl ⟨d,ts,rfl,h1,hd,Y,hz,q0,q1⟩;simp[startD]
 split
 ·rename_i h;exact q0 h
 ·rename_i h
  refine⟨_,ts,rfl,Y.nd,q5,?_⟩
  simp
  refine⟨_,ts,rfl,q5,?_⟩
  have J:1<=ts.length:=by
   cases ts with
   |nil=>exact absurd rfl h
   |cons a b=>simp
  exact⟨d,0,ts,ts,rfl,q5,hd,Y.nd,λt ht=>ht,Y,J,q5,by show ts.length<=512;lia,q1 h⟩
end
inductive TreeOf(d:Nat):List Thing->Tr->Prop where
  |one {t:Thing}:t.2.1.length=d->TreeOf d [t] (.one t.1 (Zl d [t.2.1]))
  |two {ts ls hs:Qqd}{ns:Qq4}{low high:Tr}:(ls++hs).Perm ts->ns.Perm (ts.map λt=>t.1)->ns.Pairwise (·<=·)->TreeOf d ls low->TreeOf d hs high->TreeOf d ts (.two ns (Zl d (ts.map λt=>t.2.1)) low high)
def TreeOf.ne{d:Nat}(h:TreeOf d ts tr):1<=ts.length:=by
 induction h with
 |one=>simp
 |two p _ _ _ _ h1 h2=>have:=p.length_eq;rw[zF] at this;lia
def TreeOf.lens{d:Nat}(h:TreeOf d ts tr):∀t∈ts,t.2.1.length=d:=by
 induction h with
 |one h=>intro t ht;rw[zE.mp ht];exact h
 |two p _ _ _ _ h1 h2=>
  intro t ht
  rcases xk.mp (p.mem_iff.mpr ht) with h |h
  ·exact h1 t h
  ·exact h2 t h
def Turned.tree{d i:Nat}{ts:Qqd}{tr:Tr}(h:Turned d i ts tr)(hl:∀t∈ts,t.2.1.length=d):TreeOf d ts tr:=by
 induction h with
 |one=>exact .one (hl _ (by simp))
 |@two i ts rs ns ac aa h2 hp hs ho h1 h3 W J=>
  have Y:∀t∈rs,t.2.1.length=d:=λt ht=>hl t (ho.perm.mem_iff.mp ht)
  refine .two (ls:=rs.take ((ts.length+1)/2)) (hs:=rs.drop ((ts.length+1)/2)) (by rw[wM];exact ho.perm) hp hs (W λt ht=>Y t (mem_of_mem_take ht)) (J λt ht=>Y t (List.mem_of_mem_drop ht))
def VO:Tr->List Pair
 |.one _ bd=>bd
 |.two _ bd _ _=>bd
def vU:Tr->List Int
 |.one x _=>[x]
 |.two ns _ _ _=>ns
def TreeOf.bd{d:Nat}(h:TreeOf d ts tr):VO tr=Zl d (ts.map λt=>t.2.1):=by cases h<;>rfl
def zh9(ts:Qqd)(i:Nat):List Int:=XA (ts.map λt=>t.2.1) i
def WN(ts:Qqd)(i:Nat):zh9 ts i=ts.map λt=>t.2.1[i]?.getD 0:=by unfold zh9 XA;rw[zK];rfl
noncomputable def loN(ts:Qqd)(i:Nat):Int:=zn8 (zh9 ts i)
noncomputable def hiN(ts:Qqd)(i:Nat):Int:=Vi (zh9 ts i)
def xo3{d i:Nat}(ts:Qqd)(hi:i<d):(Zl d (ts.map λt=>t.2.1))[i]?=some (some (loN ts i),some (hiN ts i)):=by
 unfold Zl;rw[zy,vo hi];rfl
def jC(d:Nat)(qs:QqI):(Zl d qs).length=d:=by unfold Zl;rw[zf,vI]
def XV{i:Nat}(h:1<=ts.length):0<(zh9 ts i).length:=by rw[WN,zf];exact h
def zQ7{i:Nat}(h:1<=ts.length){x:Int}(hx:x∈zh9 ts i):loN ts i<=x:=(Zc (jf (XV h))).2 x hx
def zQ8{i:Nat}(h:1<=ts.length){x:Int}(hx:x∈zh9 ts i):x<=hiN ts i:=(qH (qg (XV h))).2 x hx
def QY{i:Nat}(h:1<=ts.length):loN ts i∈zh9 ts i:=(Zc (jf (XV h))).1
def za1{i:Nat}(h:1<=ts.length):hiN ts i∈zh9 ts i:=(qH (qg (XV h))).1
def zh8{i:Nat}(h:∀t∈ls,t∈ts){x:Int}(hx:x∈zh9 ls i):x∈zh9 ts i:=by
 rw[WN] at hx ⊢;obtain⟨t,ht,e⟩:=zo.mp hx;exact zo.mpr ⟨t,h t ht,e⟩
def zZ1{i:Nat}(h:∀t∈ls,t∈ts)(h1:1<=ls.length)(h2:1<=ts.length):loN ts i<=loN ls i/\hiN ls i<=hiN ts i:=
 ⟨zQ7 h2 (zh8 h (QY h1)),zQ8 h2 (zh8 h (za1 h1))⟩
noncomputable def xB6(bd pl:Qqe):Str:=if vT bd pl=true then "out" else if ZF bd pl=true then "in" else "cut"
def WV:Tr->Nat
 |.one _ _=>1
 |.two _ _ W J=>1+WV W+WV J
def zX3{d:Nat}(hd:1<=d)(hp:p.length=d)(hl:pl.length=d):xB6 (Zl d [p]) pl ≠ "cut" := by
 unfold xB6
 by_cases ha:vT (Zl d [p]) pl=true
 ·rw[if_pos ha];decide
 ·rw [if_neg ha]
  have hw:ZF (Zl d [p]) pl=true:=by
   rw[JX (by rw[jC,hl]) (by rw[jC];exact hd)] at ha
   have pt:∀(i:Nat) (b:Pair),(Zl d [p])[i]?=some b->∃x:Int,b=(some x,some x):=λi b hb=>by
    unfold Zl at hb;rw[zy] at hb
    by_cases hi:i<d
    ·rw [vo hi] at hb;have e1:XA [p] i=[p[i]?.getD 0]:=rfl
     have m1:zn8 (XA [p] i)=p[i]?.getD 0:=(QV (ns:=XA [p] i) (by rw[e1];simp) (by rw[e1];simp)).symm
     have m2:Vi (XA [p] i)=p[i]?.getD 0:=(UK (ns:=XA [p] i) (by rw[e1];simp) (by rw[e1];simp)).symm
     refine⟨p[i]?.getD 0,?_⟩;rw[<- zD hb];show(some (zn8 (XA [p] i)),some (Vi (XA [p] i)))=_;rw[m1,m2]
    ·rw[List.getElem?_eq_none (by simp;lia)] at hb;cases hb
   refine zo2 (zo3 (by rw[jC,hl]) (λi b q hb hq=>?_) λhc=>?_)
   ·obtain ⟨x, rfl⟩ := pt i b hb
    have J:wP (commonP (some x,some x) q)=false:=by
     cases aa:wP (commonP (some x,some x) q) with
     |false=>rfl
     |true=>exact absurd (JY.mpr ⟨i,_,Qm hb hq,aa⟩) ha
    obtain⟨a,b⟩:=q
    cases a with
    | none => cases b with
     |none=>rfl
     |some g=>
      simp[commonP,maxO,minO,wP] at J ⊢
      by_cases Y:g<x
      ·rw[if_pos Y] at J;lia
      ·exact λh=>absurd h Y
    | some l => cases b with
     |none=>
      simp[commonP,maxO,minO,wP] at J ⊢
      by_cases Y:x<l
      ·rw[if_pos Y] at J;lia
      ·exact λh=>absurd h Y
     | some g =>
      simp[commonP,maxO,minO,wP] at J ⊢
      constructor
      ·by_cases Y : x < l
       ·rw [if_pos Y] at J
        by_cases W:g<x
        ·rw[if_pos W] at J;lia
        ·rw[if_neg W] at J;lia
       ·exact λh=>absurd h Y
      ·by_cases W : g < x
       ·rw [if_pos W] at J
        by_cases Y:x<l
        ·rw[if_pos Y] at J;lia
        ·rw[if_neg Y] at J;lia
       ·exact λh=>absurd h W
   ·obtain⟨i,b,hb,aa⟩:=JY.mp hc;obtain⟨x,rfl⟩:=pt i b hb;simp[wP] at aa
  rw[if_pos hw];decide
def UV(t:Tr):∃a b,kR t=.tup [.tup ((vU t).map D.int),xB (VO t),a,b]/\wj a=true/\wj b=true:=by
 cases t with
 |one x bd=>exact⟨_,_,rfl,rfl,rfl⟩
 |two ns bd l h=>exact⟨_,_,rfl,qi l,qi h⟩
def Zt(b:List Span):(kY b).length=b.length:=by unfold kY;rw[ZN,zf]
section
variable {P:Qq3}{w:Qqa}{K:Qq5}{mg:QqM}{base:Heap}{f:Addr}{fd:Qqb}
end
def xI4(i:Nat)(t:Thing):SRow:=⟨.n (t.2.1[i]?.getD 0),t.1,[]⟩
structure JBd(d:Nat)(ts:Qqd)(i:Nat)(rho:Rho)(n:Nat)(n0:Nat):Prop where
 e:n=n0
 r:∃(u v:Option D),rho=[some (.lst (ts.map xx)),some (.lst (ts.map λt=>wz t.2.1)),some (.own (((Zl d (ts.map λt=>t.2.1)).map xU).take i)),u,v]
section
variable {P:Qq3}{w:Qqa}{K:Qq5}{mg:QqM}{base:Heap}{f:Addr}{fd:Qqb}
abbrev jt:Stmt:=top 38
noncomputable abbrev kW:List Str:=["_law_things","_law_places","_law_edges","_law_i","_law_numbers"]
def kD:FnScope kW ["_law_things"] (xm jt):=⟨rfl,rfl,rfl,w5,rfl,w5,w5⟩
def XF:("_law_thing" :: kW:Qq2).Nodup:=w5
def XE:("_law_place" :: kW:Qq2).Nodup:=w5
def zT6:TF:=λds n Q=>∃(d:Nat) (ts:Qqd),ds=[.lst (ts.map xx)]/\d<=4/\(∀t∈ts,t.2.1.length=d)/\1<=ts.length/\ts.length<=60/\Q (xB (Zl d (ts.map λt=>t.2.1))) n
def xj6(T:Blt mg)(F:Fun K "_law_bounds" "_law_bounds" jt f fd):FnOk P w K mg base CX0 1 f fd ["_law_things"] (spD K 1 zT6):=by
 refine Fun.okD F kD (λac A0 outer s H E G Z hr=>(zI (Yh (i:=1) kD.nd rfl (lo rfl) (own:=["_law_thing"]) (M:=kW) (vX (by rfl)) rfl (vq rfl (zh 0)) (λC Y H2 fp=>(xh (i:=0) XF rfl (lo rfl) q9)) (λC Y H2 fp=>yz) (λC Y H2 fp=>(yG wu yF (zh 0) zA (λ_ _=>rfl))))
  (zI (Wm (i:=2) kD.nd rfl (lo rfl) zi)
  (zI (qc (m:=5) PassesOwn.never rfl (qW T.range (zc (wc wA qa T.len kK (zc (yG wu yF (zh 1) zA (λ_ _=>rfl)) zi)) zi)) (xh (i:=3) kD.nd rfl (lo rfl) q9)
  (zI (Yh (i:=4) kD.nd rfl (lo rfl) (own:=["_law_place"]) (M:=kW) (vX (by rfl)) rfl (vq rfl (zh 1)) (λC Y H2 fp=>(xh (i:=0) XE rfl (lo rfl) q9)) (λC Y H2 fp=>yz) (λC Y H2 fp=>(yG wu yF (zh 0) (zh 4) (λ_ _=>rfl))))
  (zZ (qd (i:=2) (zc (yU (zc (wc (JN rfl) zA6 T.min JR (zc (zh 4) zi)) (zc (wc (WO rfl) za6 T.max WQ (zc (zh 4) zi)) zi))) zi) rfl))))
  (zZ (Yi 2 (xQ (yr wo vL T.tuple vM (zc (zh 2) zi))))))))) ?_
 rintro ds n Q hl ⟨d,ts,rfl,hd,J,h1,aa,q⟩;generalize hR:Qi (xu1 2 _) _=Rr;simp[startD]
 refine wK xx (λt=>wz t.2.1) ts (yk q5) (λt ht R hR=>?_) ?_
 ·simp;exact⟨_,1,_,.inr (.inl rfl),rfl,rfl,hR⟩
 ·subst hR;simp
  obtain⟨W,r0,e0⟩:∃W r0,ts=W::r0:=by cases ts with |nil=>simp at h1 |cons a b=>exact⟨a,b,rfl⟩
  have m0:W∈ts:=by rw[e0];simp
  have hk:∀k:D->Prop,k (.int d)->zL8 [wz W.2.1] k:=λk h=>by unfold wz;rw[Us,zf,J W m0];exact h
  refine⟨wz W.2.1,qM (j:=0) (by rw[e0];rfl),hk _ ⟨d,rfl,q5,q5,?_⟩⟩
  refine⟨λi rho n'=>JBd d ts i rho n' n,⟨rfl,none,none,rfl⟩,?_,?_⟩
  ·rintro i d' rho n' e ⟨rfl, u, v, rfl⟩;obtain⟨hi,rfl⟩:=Wh e
   replace hi:i<d:=by simpa using hi
   have ec:(ts.map λt=>D.int (t.2.1[i]?.getD 0))=(XA (ts.map λt=>t.2.1) i).map D.int:=by unfold XA;rw[zK,zK];rfl
   have hc:0<(XA (ts.map λt=>t.2.1) i).length:=by unfold XA;rw[zf,zf];exact h1
   have hb:(Zl d (ts.map λt=>t.2.1))[i]?=some (some (zn8 (XA (ts.map λt=>t.2.1) i)),some (Vi (XA (ts.map λt=>t.2.1) i))):=by unfold Zl;rw[zy,vo hi];rfl
   generalize hS:QB 2 _=S;simp
   refine wK (λt:Thing=>wz t.2.1) (λt=>.int (t.2.1[i]?.getD 0)) ts (yk q5) (λt ht R hR=>?_) ?_
   ·simp;unfold wz;rw[QE];refine⟨.int (t.2.1[i]?.getD 0),qM ?_,hR⟩
    rw[zy,zd (by rw[J t ht];exact hi)]
    rfl
   ·rw [ec];subst hS;simp
    refine⟨lt_size (by rw[jC];lia),VE hc (Xi hc ⟨rfl,some (.int i),some (.lst ((XA (ts.map λt=>t.2.1) i).map D.int)),?_⟩)⟩
    rw[xE,zy,hb];rfl
  ·rintro rho n' ⟨rfl, u, v, rfl⟩;rw[qE];simp
   rw[xZ (by rw[zf,jC];exact zj _)]
   exact q
abbrev kI:Stmt:=top 39
noncomputable abbrev Zr:List Str:=["_law_left_here","_law_d","_law_things","_law_turn","_law_names","_law_i","_law_row","_law_cut","_law_low"]
def vZ:FnScope Zr qZ4 (xm kI):=⟨rfl,rfl,rfl,w5,rfl,w5,w5⟩
def Wv:("_law_thing" :: Zr:Qq2).Nodup:=w5
def Wb:Nat->TF
 |0=>λ_ _ _=>False
 |j+1=>λds n Q=>∃(d:Nat) (ts:Qqd) (k:Int),ds=[.st,.int d,.lst (ts.map xx),.int k]/\n=3/\1<=d/\d<=4/\GoodU d ts/\1<=ts.length/\ts.length<=60/\ts.length<=j+1/\∀tr:Tr,TreeOf d ts tr->Q (kR tr) n
def zJ3(T : Blt mg)(F : Fun K "_law_grown" "_law_grown" kI f fd)(ao : W.nsIn K mainGlobals "_law_grown" = some (some (.ref f)))(ah : W.tabIn K "_law_grown" = some (c, Pt))(LB : LamBase base mg c Pt)(hm : mg "_law_grown" = some (.ref f))(hk : W.keepIn K (.ref f) = true)(hb : Binds K fd ["_law_left_here", "_law_d", "_law_things", "_law_turn"] [])(Y_pick : Fn P w K mg base "_law_pick" 1 2 jL)(Y_bounds : Fn P w K mg base "_law_bounds" 1 1 zT6) : ∀ j : Nat, FnOk P w K mg base CX0 (j + 4) f fd qZ4 (spD K 4 (Wb j)) := by
  intro j
  induction j with
  |zero=>exact FnOk.botK λds n Q h=>h
  | succ j ih =>
    have Y_grown:Fn P w K mg base "_law_grown" (j+4) 4 (Wb j):=⟨f,fd,_,ih,hm,hk,hb⟩
    have TI:qN K Pt (("_law_grown" ++ ".<locals>.") ++ "<lambda>"):=⟨"_law_grown",by simp[qY],c,ah,rfl⟩
    refine Fun.okL F ao ah vZ (λA0 outer s H E G Z Y=>(zI (yo (i:=4) vZ.nd rfl (lo rfl) (yr wo vL T.tuple vM (zc (wc zb1 zA4 T.sorted jg (zc (vO (own:=["_law_thing"]) (M:=Zr) (vX (by rfl)) rfl (vq rfl (zh 2)) (λ_ _ _ _=>(xh (i:=0) Wv rfl (lo rfl) q9)) (λ_ _ _ _=>yz) (λ_ _ _ _=>(yG wu yF (zh 0) zA (λ_ _=>rfl)))) zi)) zi)))
    (zI (kj (yj UD Ur (wc wA qa T.len kK (zc (zh 2) zi)) zA (yE _)) (zZ (xQ (yU (zc (zh 4) (zc (wy Y_bounds (Y.mono q5) rfl (zc (zh 2) zi)) (zc vN (zc vN zi))))))) yT)
    (zI (yo (i:=5) vZ.nd rfl (lo rfl) (yG wu yF (kr (zc (jX (zh 3) (zh 1)) (zc (wy Y_pick (Y.mono q5) rfl (zc (zh 0) (zc (zh 1) zi))) zi))) (wy Y_pick (Y.mono q5) rfl (zc (zh 0) (zc zA zi))) (λ_ _=>rfl)))
    (zI (yo (i:=6) vZ.nd rfl (lo rfl) (zk4 (N:=["_law_thing","_law_i"]) (p := "_law_thing") (clos:=[("_law_i",s.heap.objs.size+1)]) (caps:=[5]) (k:=0) TI rfl T.sorted (Y.mono q5) (zc (zh 2) zi) LB (zL0 (by rfl) zN8) (Caps.one rfl rfl rfl) (λA1 f1 c1 s1 H1 G1 Z1 Y=>(yU (zc (yG wu yF (yG wu yF (zh 0) zA (λ_ _=>rfl)) (zh 1) (λ_ _=>rfl)) (zc (yG wu yF (zh 0) zA (λ_ _=>rfl)) zi))))))
    (zI (kj (yj UD Ur (wy Y_pick (Y.mono q5) rfl (zc (zh 0) (zc zA zi))) zA (yE _)) (zZ (yo (i:=6) vZ.nd rfl (lo rfl) (Wn zQ5 zP0 (xA9 rfl (zh 6)) (xB0 rfl (zh 6))))) yT)
    (zI (yo (i:=7) vZ.nd rfl (lo rfl) (yG wu yF (kr (zc (KW (km (wc wA qa T.len kK (zc (zh 6) zi)) zA) zA) (zc (km zA (wy Y_pick (Y.mono q5) rfl (zc (zh 0) (zc (jI (wc wA qa T.len kK (zc (zh 6) zi)) zA) zi)))) zi))) (wy Y_pick (Y.mono q5) rfl (zc (zh 0) (zc zA zi))) (λ_ _=>rfl)))
    (zI (yo (i:=8) vZ.nd rfl (lo rfl) (wy Y_grown Y rfl (zc (zh 0) (zc (zh 1) (zc (zf0 rfl (zh 6) qR (qQ (zh 7))) (zc (km (zh 3) zA) zi))))))
    (zZ (xQ (yU (zc (zh 4) (zc (wy Y_bounds (Y.mono q5) rfl (zc (zh 2) zi)) (zc (zh 8) (zc (wy Y_grown Y rfl (zc (zh 0) (zc (zh 1) (zc (zf0 rfl (zh 6) (qQ (zh 7)) qR) (zc (km (zh 3) zA) zi))))) zi))))))))))))))) ?_
    rintro ds n Q hl ⟨d,ts,kt,rfl,rfl,ak,hd,hg,h1,aw,hj,q⟩
    have am:(ts.map λt=>D.int t.1)=(ts.map λt=>t.1).map D.int:=by rw[zK];rfl
    generalize hR:Qi (zq3 5 _) _=Rr
    have main:∀(F:EndsD) (ns:Qq4),F.rt=Q->2<=ts.length->ns.Perm (ts.map λt=>t.1)->ns.Pairwise (·<=·) ->
        Rr F [some .st,some (.int d),some (.lst (ts.map xx)),some (.int kt),some (.tup (ns.map D.int)),none,none,none,none] 3:=λF ns hF h2 hp hs=>by
      subst hR;generalize av:Qi (zq3 6 _) _=R6;simp
      refine⟨ak,xO q5 q5 λk1 g0 g1=>xO q9 q9 λk2 g2 g3=>?_⟩
      have ad:∀R:D->Prop,(∀i:Nat,i<d->R (.int i))->KM (.lst [.int (kt%d),.int k1]) (.int k2) R:=λR hR=>zP9 g2 (by simpa using g3) λdd aa=>by
        simp only[zn,xb,or_false] at aa
        have e0:0<=kt%(d:Int):=wR _ q5
        have e1:kt%(d:Int)<d:=yv _ q5
        rcases aa with rfl |rfl
        · obtain ⟨i, e⟩ := xT e0
          rw[e]
          exact hR i q5
        · obtain ⟨i, e⟩ := xT g0
          rw[e]
          exact hR i q5
      refine ad _ λi hi=>?_;subst av;generalize ar:Qi (sIf _ _ _) _=R7
      have rest:∀(F:EndsD) (us:Qqd),F.rt=Q->us.Perm ts->R7 F [some .st,some (.int d),some (.lst (ts.map xx)),some (.int kt),some (.tup (ns.map D.int)),some (.int i),some (.lst (us.map xx)),none,none] 3:=λF us hF hu=>by
        subst ar;generalize aq:Qi (zq3 7 _) _=R8
        have J:∀(F:EndsD) (us:Qqd),F.rt=Q->us.Perm ts->R8 F [some .st,some (.int d),some (.lst (ts.map xx)),some (.int kt),some (.tup (ns.map D.int)),some (.int i),some (.lst (us.map xx)),none,none] 3:=λF us hF hu=>by
          subst aq;have az:=hu.length_eq;generalize ap:Qi (zq3 8 _) _=R9;simp
          refine⟨⟨q9,q9⟩,xO q5 q5 λk1 g0 g1=>?_⟩
          simp
          refine xO q9 q9 λk2 g2 g3=>?_
          have ad:∀R:D->Prop,(∀m:Nat,1<=m->m<ts.length->R (.int m))->KM (.lst [.int (((us.length:Int)+1)/2),.int (1+k1)]) (.int k2) R:=λR hR=>zP9 g2 (by simpa using g3) λdd aa=>by
            simp only[zn,xb,or_false] at aa
            rcases aa with rfl |rfl
            · obtain ⟨m, e⟩ := xT (show 0 <= ((us.length : Int) + 1) / 2 by lia)
              rw[e]
              exact hR m q5 q5
            · obtain ⟨m, e⟩ := xT (show 0 <= 1 + k1 by lia)
              rw[e]
              exact hR m q5 q5
          refine ad _ λm aB aA=>?_;subst ap
          have ag:Ki (us.map xx) none (some (m:Int))=(us.take m).map xx:=by rw[zA2 _ _ (by rw[zf];lia),vG]
          have af:Ki (us.map xx) (some (m:Int)) none=(us.drop m).map xx:=by rw[UX _ _ (by rw[zf];lia),map_drop]
          have gu:=hg.perm hu
          have ac:∀(vs:Qqd) (R:D->Nat->Prop),vs.Sublist us->1<=vs.length->vs.length<ts.length->(∀tr,TreeOf d vs tr->R (kR tr) 3)->Wb j [.st,.int d,.lst (vs.map xx),.int (kt+1)] 3 R:=λvs R hv h3 h4 hR=>by
            cases j with
            |zero=>lia
            |succ j=>exact⟨d,vs,kt+1,rfl,rfl,ak,hd,gu.sub hv,h3,q5,q5,hR⟩
          have lt:(us.take m).length=m:=by rw[xr];lia
          have ld:(us.drop m).length=ts.length-m:=by rw[wY];lia
          simp;rw[ag]
          refine ac _ _ (ve ..) q5 q5 λay ai=>?_
          simp[qi];refine⟨d,ts,rfl,hd,hg.each,h1,aw,?_⟩;rw[af]
          refine ac _ _ (List.drop_sublist ..) q5 q5 λax ae=>?_
          rw[hF]
          exact q _ (.two (by rw[wM];exact hu) hp hs ai ae)
        simp
        refine xO q9 q9 λk g0 g1=>?_
        simp
        split
        · rw [UR, UR, <- zS]
          have ul:=hu.length_eq;refine⟨yk ?_,J F _ hF ((JA us).trans hu)⟩;have z1:=XT true us;have z2:=XT false us;simp only[zf];lia
        · exact J F us hF hu
      simp
      refine Qt xx (xI4 i) true [.int i] ts (0,[],0) q5 (λt ht=>rfl) hg.nd rfl (λi' j' e=>?_) (λt ht=>?_) λus hu _=>rest _ us hF hu
      · cases i' with
        |zero=>cases e;exact⟨_,rfl,rfl,rfl⟩
        |succ i'=>simp at e
      · simp
        have aj:i<t.2.1.length:=by rw[hg.each t ht];exact hi
        refine⟨_,1,_,.inr (.inl rfl),rfl,rfl,?_⟩
        refine⟨_,_,_,.inr (.inl rfl),rfl,qM (by rw[zy,zd aj];rfl),?_⟩
        refine⟨_,0,_,.inr (.inl rfl),rfl,rfl,?_⟩;unfold xI4;rw[zd aj];rfl
    simp[startD]
    refine wK xx (λt=>.int t.1) ts (yk q5) (λt ht R hR=>?_) ?_
    · simp
      exact⟨_,0,_,.inr (.inl rfl),rfl,rfl,hR⟩
    · rw [am]
      refine⟨ts.map λt=>t.1,rfl,by simp;lia,λns hp hs'=>?_⟩
      simp
      split
      · rename_i h2
        have h2':ts.length=1:=q5
        obtain⟨t,rfl⟩:=List.length_eq_one_iff.mp h2'
        have e1:ns=[t.1]:=by simpa using hp
        subst e1
        refine⟨d,[t],rfl,hd,hg.each,by simp,by simp,?_⟩
        exact q _ (.one (hg.each t (by simp)))
      · rename_i h2
        exact main _ ns rfl q5 hp hs'
abbrev ZW:Stmt:=top 40
abbrev zc3:List Str:=["_law_left_here","_law_house_here"]
def KC:FnScope zc3 qZ2 (xm ZW):=⟨rfl,rfl,rfl,w5,rfl,w5,w5⟩
def VT:TF:=λds n Q=>∃(d:Nat) (ts:Qqd),ds=[.st,wU d ts]/\n=3/\1<=d/\d<=4/\GoodU d ts/\ts.length<=30/\(ts=[]->Q .non 3)/\(ts≠[]->∀tr:Tr,TreeOf d ts tr->Q (kR tr) 3)
def zI8(T:Blt mg)(F:Fun K "_law_tree" "_law_tree" ZW f fd)(Y_grown:Fn P w K mg base "_law_grown" 34 4 (Wb 30)):FnOk P w K mg base CX0 35 f fd qZ2 (spD K 2 VT):=by
 refine Fun.okD F KC (λaa A0 outer s H E G Z W=>(zI (kj (yj (xi7 W) xf6 (yG wu yF (zh 1) zA (λ_ _=>rfl)) (yU zi) (yE _)) (zZ (xQ vN)) yT)
  (zZ (xQ (wy Y_grown (W.mono q9) rfl (zc (zh 0) (zc (yG wu yF (zh 1) zA (λ_ _=>rfl)) (zc (yr JQ xb9 T.list zB9 (zc (yG wu yF (zh 1) zA (λ_ _=>rfl)) zi)) (zc zA zi))))))))) ?_
 rintro ds n Q hl ⟨d,ts,rfl,rfl,h1,hd,hg,hz,q0,Y⟩;have nh:=kO d ts;simp[startD,nh];refine zg5 ?_;simp
 split
 ·rename_i h;exact q0 h
 ·rename_i h
  have J:1<=ts.length:=by
   cases ts with
   |nil=>exact absurd rfl h
   |cons a b=>simp
  refine zg6 (zg5 ?_);simp
  exact⟨d,ts,0,rfl,rfl,h1,hd,hg,J,q5,q5,Y h⟩
end
def Zz(p:QqP)(x:Int):Int:=max 0 (max (p.1-x) (x-p.2))
def qj(bd:List (Int × Int))(pl:Qq4):Int:=((bd.zip pl).map λz=>Zz z.1 z.2).sum
def ZM(p:QqP)(bd:List (Int × Int))(x:Int)(pl:Qq4):qj (p::bd) (x::pl)=Zz p x+qj bd pl:=by
 show(((p,x)::bd.zip pl).map λz=>Zz z.1 z.2).sum=_;rw[zN,sum_cons];rfl
theorem zd4:∀(bd J:List (Int × Int)) (pl:Qq4),bd.length=J.length->(∀(i:Nat) p q,bd[i]?=some p->J[i]?=some q->p.1<=q.1/\q.2<=p.2)->qj bd pl<=qj J pl
 |[],[],pl,_,_=>yR _
 |p::bd,q::J,[],_,_=>by
  have e1:qj (p::bd) []=0:=rfl;have e2:qj (q::J) []=0:=rfl;rw[e1,e2];exact yR _
 |p::bd,q::J,x::pl,W,h=>by
  have ih:=zd4 bd J pl (by simpa using W) λi a b ha Y=>h (i+1) a b (by simpa using ha) (by simpa using Y)
  obtain⟨h1,h2⟩:=h 0 p q rfl rfl;rw[ZM,ZM];unfold Zz;lia
noncomputable def bdI(d:Nat)(ts:Qqd):List (Int × Int):=(List.range d).map λi=>(loN ts i,hiN ts i)
def Qk(p:QqP):Pair:=(some p.1,some p.2)
def WS(d:Nat)(ts:Qqd):(bdI d ts).length=d:=by unfold bdI;rw[zf,vI]
def zC2{d i:Nat}(ts:Qqd)(hi:i<d):(bdI d ts)[i]?=some (loN ts i,hiN ts i):=by
 unfold bdI;rw[zy,vo hi];rfl
def xc6(d:Nat)(ts:Qqd):Zl d (ts.map λt=>t.2.1)=(bdI d ts).map Qk:=by
 unfold Zl bdI;rw[zK];rfl
noncomputable def Xh(d:Nat)(kd:QqO)(ts:Qqd):Int:=match kd with
 |some pl=>qj (bdI d ts) pl
 |none=>- Vi (ts.map λt=>t.2.2)
noncomputable def vP(ts:Qqd):Int:=zn8 (ts.map λt=>t.1)
noncomputable def yH(d:Nat)(kd:QqO)(ts:Qqd):Int × Int:=(Xh d kd ts,vP ts)
def kc(h:1<=ts.length):∃t∈ts,t.1=vP ts:=by
 have:=(Zc (jf (ns:=ts.map λt=>t.1) (by rw[zf];exact h))).1
 obtain⟨t,ht,e⟩:=zo.mp this;exact⟨t,ht,e⟩
def YF(h:t∈ts):vP ts<=t.1:=
 (Zc (jf (ns:=ts.map λt=>t.1) (by rw[zf];exact List.length_pos_of_mem h))).2 _ (zo.mpr ⟨t,h,rfl⟩)
def UO{d:Nat}(h:∀t∈ls,t∈ts)(h1:1<=ls.length):Xh d kd ts<=Xh d kd ls:=by
 obtain⟨t0,J⟩:=List.exists_mem_of_length_pos h1;have h2:1<=ts.length:=List.length_pos_of_mem (h t0 J)
 cases kd with
 |some pl=>
  refine zd4 _ _ _ (by rw[WS,WS]) λi p q W Y=>?_
  have hi:i<d:=by have:=(zu.mp W).1;rw[WS] at this;exact this
  rw[zC2 ts hi] at W;rw[zC2 ls hi] at Y;cases W;cases Y;exact zZ1 h h1 h2
 |none=>
  have a:=(qH (qg (ns:=ls.map λt=>t.2.2) (by rw[zf];exact h1))).1
  have b:=(qH (qg (ns:=ts.map λt=>t.2.2) (by rw[zf];exact h2))).2
  obtain⟨t,ht,e⟩:=zo.mp a;have:=b t.2.2 (zo.mpr ⟨t,h t ht,rfl⟩);show-Vi _<=- Vi _;lia
def zZ7{d:Nat}(h:t∈ts):ltP (yH d kd [t]) (yH d kd ts)=false:=by
 cases e:ltP (yH d kd [t]) (yH d kd ts) with
 |false=>rfl
 | true =>
  rw[qv] at e
  have h1:Xh d kd ts<=Xh d kd [t]:=UO (λu hu=>by rw[zE.mp hu];exact h) (by simp)
  have h2:vP ts<=t.1:=YF h
  have h3:vP [t]=t.1:=by
   obtain⟨u,hu,e⟩:=kc (ts:=[t]) (by simp)
   rw[<- e,zE.mp hu]
  have e':Xh d kd [t]<Xh d kd ts\/Xh d kd [t]=Xh d kd ts/\vP [t]<vP ts:=e;lia
def Xg(t:Thing):vP [t]=t.1:=by
 obtain⟨u,hu,e⟩:=kc (ts:=[t]) (by simp)
 rw[<- e,zE.mp hu]
def Js(h1:ltP a b=false)(h2:a.2≠b.2):ltP b a=true:=by
 rw[qv]
 have:¬ (a.1<b.1\/(a.1=b.1/\a.2<b.2)):=λz=>by rw[<- qv,h1] at z;cases z
 lia
def zf8(h1:ltP b a=false)(h2:ltP c b=false):ltP c a=false:=by
 cases e:ltP c a with
 |false=>rfl
 |true=>
  have i1:¬ (b.1<a.1\/(b.1=a.1/\b.2<a.2)):=λz=>by rw[<- qv,h1] at z;cases z
  have i2:¬ (c.1<b.1\/(c.1=b.1/\c.2<b.2)):=λz=>by rw[<- qv,h2] at z;cases z
  rw[qv] at e;lia
def TreeOf.names{d:Nat}(h:TreeOf d ts tr):(vU tr).Perm (ts.map λt=>t.1)/\(vU tr).Pairwise (·<=·):=by
  cases h with
  |one h=>exact⟨.refl _,by simp[vU]⟩
  |two p J hs _ _=>exact⟨J,hs⟩
def TreeOf.head{d:Nat}(h:TreeOf d ts tr):∃r,vU tr=vP ts::r:=by
 obtain⟨J,hs⟩:=h.names
 cases Y:vU tr with
 |nil=>
  rw[Y] at J;have:=h.ne;have:=J.length_eq;simp at this;lia
 | cons a r =>
  refine⟨r,?_⟩;rw[Y] at J hs
  have:a=vP ts:=QV (J.mem_iff.mp (by simp)) λb W=>by
   rcases zn.mp (J.mem_iff.mpr W) with rfl |W
   ·exact yR _
   ·exact(wB.mp hs).1 b W
  rw[this]
def zv8(p:a.Perm b):Vi a=Vi b:=by
 cases ha:a with
 |nil=>
  rw[ha] at p;rw[List.nil_perm.mp p]
 |cons x r=>
  rw[<- ha]
  have h0:0<a.length:=by rw[ha];simp
  obtain⟨W,J⟩:=qH (qg h0);exact UK (p.mem_iff.mp W) λy Y=>J y (p.mem_iff.mpr Y)
abbrev Qe:=List Thing × Tr
def vQ(pl:Qqe)(q:List Qe):List Qe:=q.filter λx=>!vT (VO x.2) pl
def vR(q:List Qe):List Thing:=q.flatMap λx=>x.1
structure QOk(d:Nat)(hs:Qqd)(q:List Qe):Prop where
 tree:∀x∈q,TreeOf d x.1 x.2
 sub:∀t∈vR q,t∈hs
 nd:((vR q).map λt=>t.1).Nodup
def kQ:t∈vR q↔∃x∈q,t∈x.1:=by unfold vR;exact List.mem_flatMap
def vY(x:Qe)(q:List Qe):vR (x::q)=x.1++vR q:=by unfold vR;rw[wx]
def Zh(p q:List Qe):vR (p++q)=vR p++vR q:=by unfold vR;rw[List.flatMap_append]
def Zy(h:p.Perm q):(vR p).Perm (vR q):=h.flatMap_right _
def QOk.perm{d:Nat}(h:QOk d hs q)(e:p.Perm q):QOk d hs p:=
 ⟨λx hx=>h.tree x (e.mem_iff.mp hx),λt ht=>h.sub t ((Zy e).mem_iff.mp ht),((Zy e).map _).nodup_iff.mpr h.nd⟩
def QOk.sublist{d:Nat}(h:QOk d hs q)(e:p.Sublist q):QOk d hs p:=by
 have W:(vR p).Sublist (vR q):=by
  clear h
  induction e with
  |slnil=>exact .refl _
  |cons x _ J=>rw[vY];exact J.trans (yn ..)
  |cons_cons x _ J=>rw[vY,vY];exact(List.Sublist.refl _).append J
 exact⟨λx hx=>h.tree x (e.mem hx),λt ht=>h.sub t (W.mem ht),(W.map _).nodup h.nd⟩
def QOk.tail{d:Nat}(h:QOk d hs (x::q)):QOk d hs q:=h.sublist (List.sublist_cons_self ..)
def QOk.apartN{d:Nat}(h:QOk d hs (x::q))(ht:t∈x.1)(hu:u∈vR q):t.1≠u.1:=by
 have:=h.nd;rw[vY,zS,yh] at this;exact this.2.2 _ (zo.mpr ⟨t,ht,rfl⟩) _ (zo.mpr ⟨u,hu,rfl⟩)
theorem QOk.heads{d:Nat}:∀{q:List Qe},QOk d hs q->(q.map λx=>vP x.1).Nodup
 |[],_=>nodup_nil
 |x::q,h=>by
  refine xM.mpr ⟨λz=>?_,QOk.heads h.tail⟩;obtain⟨y,J,e⟩:=zo.mp z
  obtain⟨t,ht,Y⟩:=kc (h.tree x (by simp)).ne
  obtain⟨u,hu,W⟩:=kc (h.tree y (by simp[J])).ne
  exact h.apartN ht (kQ.mpr ⟨y,J,hu⟩) (by rw[Y,W];exact e.symm)
def Jg{α β γ:Type}{f:α->β}{g:α->γ}{l:List α}(W:∀a b,f a=f b->g a=g b)(h:(l.map g).Nodup):(l.map f).Nodup:=by
 rw[yd,xF] at h ⊢;exact h.imp λJ e=>J (W _ _ e)
def QOk.keys{d:Nat}(kd:QqO)(h:QOk d hs q):(q.map λx=>yH d kd x.1).Nodup:=
 Jg (g:=λx:Qe=>vP x.1) (λa b e=>congrArg Prod.snd e) h.heads
theorem zb5{α β:Type}{f:α->Int × Int}{g:α->β}:∀{q:List α}{x:α},x∈q->(q.map f).Nodup->atP (q.map f) (q.map g) (f x)=some (g x)
 |[],x,h,_=>by simp at h
 |y::q,x,h,J=>by
  obtain⟨h1,h2⟩:=xM.mp J
  show(if f y=f x then some (g y) else atP (q.map f) (q.map g) (f x))=_
  rcases zn.mp h with rfl |h
  ·exact if_pos rfl
  ·rw[if_neg λe=>h1 (zo.mpr ⟨x,h,e.symm⟩)];exact zb5 h h2
noncomputable def Xa{α:Type}(f:α->Int × Int)(q:List α)(k:QqP):List α:=q.filter λy=>decide (f y≠k)
def zz4{α:Type}(f:α->Int × Int)(q:List α)(k:QqP):XJ (q.map f) k=(Xa f q k).map f:=by
 unfold XJ Xa;rw[List.filter_map];rfl
theorem JH{α β:Type}(f:α->Int × Int)(g:α->β)(k:QqP):∀q:List α,dropE (q.map f) (q.map g) k=(Xa f q k).map g
 |[]=>rfl
 | y :: q => by
  have J:=JH f g k q
  show(if f y=k then dropE (q.map f) (q.map g) k else g y::dropE (q.map f) (q.map g) k)=_
  by_cases e:f y=k
  ·rw [if_pos e, J];unfold Xa
   rw[xy (by simpa using e)]
  ·rw [if_neg e, J];unfold Xa
   rw[xv (by simpa using e),zN]
theorem Zv{α:Type}{f:α->Int × Int}:∀{q:List α}{x:α},x∈q->(q.map f).Nodup->(x::Xa f q (f x)).Perm q
 |[],x,h,_=>by simp at h
 | y :: q, x, h, J => by
  obtain⟨h1,h2⟩:=xM.mp J;unfold Xa
  rcases zn.mp h with rfl |h
  ·rw[xy (by simp),List.filter_eq_self.mpr λz hz=>by
    simp only[ne_eq,decide_not,Bool.not_eq_eq_eq_not,Bool.not_true,decide_eq_false_iff_not]
    exact λe=>h1 (zo.mpr ⟨z,hz,e⟩)]
  ·have e : f y ≠ f x := λe => h1 (zo.mpr ⟨x, h, e.symm⟩)
   rw[xv (by simpa using e)]
   exact(List.Perm.swap y x _).trans ((Zv h h2).cons y)
def ze5{d:Nat}{ts:Qqd}(hl:∀t∈ts,t.2.1.length=d){t:Thing}(ht:t∈ts):YH (Zl d (ts.map λt=>t.2.1)) t.2.1=true:=by
 have J:1<=ts.length:=List.length_pos_of_mem ht;refine Zf.mpr λi q x W hx=>?_
 have hi:i<d:=by have:=(zu.mp W).1;rw[jC] at this;exact this
 rw[xo3 ts hi] at W;cases W
 have Y:x∈zh9 ts i:=by rw[WN];exact zo.mpr ⟨t,ht,by rw[hx];rfl⟩
 have:=zQ7 (i:=i) J Y;have:=zQ8 (i:=i) J Y;simp[liesT];lia
def TreeOf.apart{d:Nat}(h:TreeOf d ts tr)(hd:1<=d)(W:pl.length=d)(ha:vT (VO tr) pl=true):(ts.filter λt=>YH pl t.2.1)=[]:=by
 rw[List.filter_eq_nil_iff];intro t ht Y;have J:=h.lens;rw[h.bd] at ha
 have:=zC5 (ps:=Zl d (ts.map λt=>t.2.1)) (qs:=pl) (p:=t.2.1) (by rw[jC,J t ht]) (by rw[W,J t ht]) (by rw[J t ht];exact hd) (ze5 J ht) Y
 rw[ha] at this;cases this
def zI6{d:Nat}{t:Thing}(ht:t.2.1.length=d)(hd:1<=d){pl:Qqe}(W:pl.length=d)(ha:vT (Zl d [t.2.1]) pl=false):YH pl t.2.1=true:=by
 have nc:=zX3 hd ht W;unfold xB6 at nc;rw[ha] at nc;simp only[zT,if_false] at nc
 have J:ZF (Zl d [t.2.1]) pl=true:=by
  cases h:ZF (Zl d [t.2.1]) pl with
  |true=>rfl
  |false=>rw[h] at nc;simp at nc
 have e:qh (Zl d [t.2.1]) pl=Zl d [t.2.1]:=of_decide_eq_true (by unfold ZF at J;exact J)
 have:=zm2 (ps:=Zl d [t.2.1]) (qs:=pl) (p:=t.2.1) (by rw[jC,ht]) (by rw[W,ht]) (by rw[ht];exact hd)
 have z:=ze5 (d:=d) (ts:=[t]) (λu hu=>by rw[zE.mp hu];exact ht) (t:=t) (by simp)
 rw[e,show YH (Zl d [t.2.1]) t.2.1=true from z,Bool.true_and] at this;exact this.symm
def ZA(pl:Qqe)(ts:Qqd):List Thing:=ts.filter λt=>YH pl t.2.1
def qI(pl:Qqe)(a b:Qqd):ZA pl (a++b)=ZA pl a++ZA pl b:=filter_append ..
def JC(h:a.Perm b):(ZA pl a).Perm (ZA pl b):=h.filter _
def ltK(d:Nat)(kd:QqO)(a b:Thing):Prop:=ltP (yH d kd [a]) (yH d kd [b])=true
structure DOk(d:Nat)(hs:Qqd)(kd:QqO)(pl:Qqe)(q:List Qe)(acc:Qqd):Prop where
 ok:QOk d hs q
 inb:∀x∈q,vT (VO x.2) pl=false
 perm:(acc++ZA pl (vR q)).Perm (ZA pl hs)
 up:acc.Pairwise (ltK d kd)
 below:∀a∈acc,∀t∈vR q,ltK d kd a t
theorem UQ{d:Nat}{hs:Qqd}{pl:Qqe}(hd:1<=d)(W:pl.length=d):∀{q:List Qe},(∀x∈q,TreeOf d x.1 x.2)->ZA pl (vR (vQ pl q))=ZA pl (vR q)
 |[],_=>rfl
 | x :: q, h => by
  have J:=UQ (hs:=hs) hd W (q:=q) λy Y=>h y (zk _ Y);rw[vY,qI]
  cases ha:vT (VO x.2) pl with
  |true=>
   have e:vQ pl (x::q)=vQ pl q:=by unfold vQ;rw[xy (by simp[ha])]
   have z:ZA pl x.1=[]:=(h x (by simp)).apart hd W ha
   rw[e,J,z,wC]
  |false=>
   have e:vQ pl (x::q)=x::vQ pl q:=by unfold vQ;rw[xv (by simp[ha])]
   rw[e,vY,qI,J]
section
variable {d:Nat}{hs:Qqd}{kd:QqO}{pl:Qqe}{q:List Qe}{acc:Qqd}
def DOk.start{tr:Tr}(hd:1<=d)(J:pl.length=d)(h:TreeOf d hs tr)(W:(hs.map λt=>t.1).Nodup):DOk d hs kd pl (vQ pl [(hs,tr)]) []:=by
 have ok:QOk d hs [(hs,tr)]:=⟨λx hx=>by rw[zE.mp hx];exact h,λt ht=>by simpa [vR] using ht,by simpa [vR] using W⟩
 refine⟨ok.sublist filter_sublist,λx hx=>by simpa using (zB.mp hx).2,?_,.nil,by simp⟩
 rw[wC,UQ (hs:=hs) hd J ok.tree];simp[vR]
def DOk.none(h:hs=[]):DOk d hs kd pl [] []:=by
 subst h
 exact⟨⟨by simp,by simp[vR],by simp[vR]⟩,by simp,by simp[ZA,vR],.nil,by simp⟩
def DOk.leaf(hd:1<=d)(hp:pl.length=d)(h:DOk d hs kd pl q acc)(hx:([t],tr)∈q)(hm:∀y∈q,ltP (yH d kd y.1) (yH d kd [t])=false) :
  DOk d hs kd pl (Xa (λy:Qe=>yH d kd y.1) q (yH d kd [t])) (acc++[t]):=by
 have W:(([t],tr)::Xa (λy:Qe=>yH d kd y.1) q (yH d kd [t])).Perm q:=Zv (f:=λy:Qe=>yH d kd y.1) hx (h.ok.keys kd);have Y:=h.ok.perm W;have tt:=h.ok.tree _ hx
 have hl:t.2.1.length=d:=tt.lens t (by simp)
 have hf:YH pl t.2.1=true:=zI6 hl hd hp (by have:=h.inb _ hx;rw[tt.bd] at this;exact this)
 have J:=Zy W;rw[vY] at J;generalize Xa (λy:Qe=>yH d kd y.1) q (yH d kd [t])=q' at *;refine⟨Y.tail,λx hx'=>h.inb x (W.mem_iff.mp (zk _ hx')),?_,?_,λa ha u hu=>?_⟩
 ·refine List.Perm.trans ?_ h.perm;rw[wn];refine List.Perm.append_left acc ?_;refine List.Perm.trans ?_ (JC J);rw[qI]
  have e:ZA pl [t]=[t]:=by simp[ZA,hf]
  show([t]++ZA pl (vR q')).Perm (ZA pl [t]++ZA pl (vR q'));rw[e]
 ·rw [yZ]
  refine⟨h.up,by simp,λa ha b hb=>?_⟩
  rw[zE.mp hb]
  exact h.below a ha t (kQ.mpr ⟨_,hx,by simp⟩)
 ·have hu' : u ∈ vR q := J.mem_iff.mp (xf _ hu)
  rcases xk.mp ha with ha |ha
  ·exact h.below a ha u hu'
  ·rw [zE.mp ha];obtain⟨y,hy,aa⟩:=kQ.mp hu;have i1:=hm y (W.mem_iff.mp (zk _ hy));have i2:=zZ7 (d:=d) (kd:=kd) aa;refine Js (zf8 i1 i2) ?_;show vP [u]≠vP [t];rw[Xg,Xg]
   exact λe=>Y.apartN (t:=t) (by simp) hu e.symm
def DOk.open{ts ls us:Qqd}{tr lo hi:Tr}(hd:1<=d)(hp:pl.length=d)(h:DOk d hs kd pl q acc)(hx:(ts,tr)∈q)(h1:(ls++us).Perm ts)(h2:TreeOf d ls lo)(h3:TreeOf d us hi) :
  DOk d hs kd pl (Xa (λy:Qe=>yH d kd y.1) q (yH d kd ts)++vQ pl [(ls,lo),(us,hi)]) acc/\QOk d hs (Xa (λy:Qe=>yH d kd y.1) q (yH d kd ts)++[(ls,lo),(us,hi)]):=by
 have aa:((ts,tr)::Xa (λy:Qe=>yH d kd y.1) q (yH d kd ts)).Perm q:=Zv (f:=λy:Qe=>yH d kd y.1) hx (h.ok.keys kd);have ad:=h.ok.perm aa;have J:=Zy aa;rw[vY] at J;generalize Xa (λy:Qe=>yH d kd y.1) q (yH d kd ts)=q' at *
 have e0:vR [(ls,lo),(us,hi)]=ls++us:=by simp[vR]
 have W:(vR (q'++[(ls,lo),(us,hi)])).Perm (vR q):=by
  rw[Zh,e0];exact((List.Perm.append_left _ h1).trans yL).trans J
 have Y:QOk d hs (q'++[(ls,lo),(us,hi)]):=⟨λx hx'=>by
   rcases xk.mp hx' with hx' |hx'
   ·exact ad.tree x (zk _ hx')
   ·simp only [zn, xb, or_false] at hx'
    rcases hx' with rfl |rfl
    ·exact h2
    ·exact h3,λt ht=>h.ok.sub t (W.mem_iff.mp ht),(W.map _).nodup_iff.mpr h.ok.nd⟩
 have ac:(q'++vQ pl [(ls,lo),(us,hi)]).Sublist (q'++[(ls,lo),(us,hi)]):=(List.Sublist.refl _).append filter_sublist;refine⟨⟨Y.sublist ac,λx hx'=>?_,?_,h.up,λa ha t ht=>?_⟩,Y⟩
 ·rcases xk.mp hx' with hx' | hx'
  ·exact h.inb x (aa.mem_iff.mp (zk _ hx'))
  ·simpa using (zB.mp hx').2
 ·refine List.Perm.trans (List.Perm.append_left acc ?_) h.perm;rw[Zh,qI,UQ (hs:=hs) hd hp (λx hx'=>Y.tree x (xf _ hx')),<- qI,<- Zh];exact JC W
 ·refine h.below a ha t (W.mem_iff.mp ?_);obtain⟨x,hx',ht'⟩:=kQ.mp ht;exact kQ.mpr ⟨x,ac.mem hx',ht'⟩
def DOk.told(hn:(hs.map λt=>t.1).Nodup)(h:DOk d hs kd pl q acc){all:Qqd}(ha:all.Perm (ZA pl hs))(hs':all.Pairwise (ltK d kd)):acc=all.take acc.length:=by
 have irr:∀a,¬ ltK d kd a a:=λa z=>by unfold ltK at z;rw[Wy] at z;cases z
 have tr:∀a b c,ltK d kd a b->ltK d kd b c->ltK d kd a c:=λa b c=>Jr
 have key:∀(acc all rest:Qqd),(acc++rest).Perm all->all.Pairwise (ltK d kd)->acc.Pairwise (ltK d kd)->(∀a∈acc,∀t∈rest,ltK d kd a t)->acc=all.take acc.length:=by
  intro acc
  induction acc with
  |nil=>intro all rest _ _ _ _;rfl
  | cons a acc ih =>
   intro all rest J hs hu W
   cases all with
   |nil=>exact absurd J.length_eq (by simp)
   | cons b all =>
    obtain⟨s1,Y⟩:=wB.mp hs;obtain⟨u1,u2⟩:=wB.mp hu
    have e:a=b:=by
     have hb':b∈a::(acc++rest):=J.mem_iff.mpr (by simp)
     have ha':a∈b::all:=J.mem_iff.mp (by simp)
     rcases zn.mp hb' with e |hb'
     ·exact e.symm
     ·rcases zn.mp ha' with e | ha'
      ·exact e
      ·have i1 := s1 a ha'
       have i2:ltK d kd a b:=by
        rcases xk.mp hb' with z |z
        ·exact u1 b z
        ·exact W a (by simp) b z
       exact absurd (tr _ _ _ i1 i2) (irr b)
    subst e;rw[zP,List.take_succ_cons,<- ih all rest (List.Perm.cons_inv J) Y u2 λx hx t ht=>W x (zk _ hx) t ht]
 exact key acc all (ZA pl (vR q)) (h.perm.trans ha.symm) hs' h.up λa ha' t ht=>h.below a ha' t (zB.mp ht).1
end
noncomputable def kg:Option (List Int)->D
 |some pl=>.tup [.str "near",wz pl]
 |none=>.tup [.str "best"]
@[simp] theorem zk9(k:QqO):wj (kg k)=true:=by cases k<;>rfl
def wOf(hs:Qqd)(x:Int):Int:=((hs.find? λt=>t.1 == x).map λt=>t.2.2).getD 0
theorem zo5:∀{hs:Qqd}{t:Thing},t∈hs->(hs.map λt=>t.1).Nodup->wOf hs t.1=t.2.2
 |[],t,h,_=>by simp at h
 | s :: hs, t, h, J => by
  have hn':=xM.mp J;unfold wOf;rw[wQ]
  rcases zn.mp h with rfl |h
  ·rw[beq_self_eq_true];rfl
  ·have ne : (s.1 == t.1) = false := by
    rw[beq_eq_false_iff_ne];intro e;exact hn'.1 (zo.mpr ⟨t,h,e.symm⟩)
   rw[ne];exact zo5 h hn'.2
def xn1(J:(hs.map λt=>t.1).Nodup)(ht:t∈hs)(h:R (xx t)):xp9 (byN hs) (.int t.1) R:=by
 unfold byN;refine⟨_,_,Sum.inl t.1,xx t,rfl,rfl,jh ht J,h⟩
theorem zd3:∀(bd:List (Int × Int)) (pl:Qq4),((pl.zip bd).map λz=>max (z.2.1-z.1) (max 0 (z.1-z.2.2)))=(bd.zip pl).map λz=>Zz z.1 z.2
 |[],pl=>by simp
 |_::_,[]=>by simp
 |p::bd,x::pl=>by
  rw[yu,yu,zN,zN,zd3 bd pl]
  congr 1
  unfold Zz;show max (p.1-x) (max 0 (x-p.2))=max 0 (max (p.1-x) (x-p.2));lia
def xa6{a:Int}:atI ((a::r).map D.int) 0=some (.int a):=qM (j:=0) rfl
section
variable {P:Qq3}{w:Qqa}{K:Qq5}{mg:QqM}{base:Heap}{f:Addr}{fd:Qqb}
abbrev YS:Stmt:=top 17
abbrev Xp:List Str:=["place","limits"]
def Qv:FnScope Xp ["place","limits"] (xm YS):=⟨rfl,rfl,rfl,w5,rfl,w5,w5⟩
def jw:("number" :: "least" :: "greatest" :: Xp:Qq2).Nodup:=w5
def YJ:TF:=λds n Q=>∃(pl:Qq4) (bd:List (Int × Int)),ds=[wz pl,xB (bd.map Qk)]/\pl.length<=1000/\Q (.int (qj bd pl)) n
def QJ(T:Blt mg)(T2:Blt2 mg)(F:Fun K "steps_to" "steps_to" YS f fd):FnOk P w K mg base CX0 1 f fd ["place","limits"] (spD K 2 YJ):=by
 refine Fun.okD F Qv (λaa A0 outer s H E G Z hr=>(zZ (xQ (wc (zi1 rfl) zS6 T2.sum zS8 (zc (vO (own:=["number","least","greatest"]) (M:=Xp) (vX (by rfl)) rfl (Ux rfl T.zip (zc (zh 0) (zc (zh 1) zi))) (λC J H2 fp=>(vS (k:=2) rfl rfl (xt (xh (i:=0) jw rfl (lo rfl) q9) (xt (vS (k:=2) rfl rfl (xt (xh (i:=1) jw rfl (lo rfl) q9) (xt (xh (i:=2) jw rfl (lo rfl) q9) vh))) vh)))) (λC J H2 fp=>yz) (λC J H2 fp=>(wc (JO rfl) zA7 T.max WQ (zc (jI (zh 1) (zh 0)) (zc zA (zc (jI (zh 0) (zh 2)) zi)))))) zi))))) ?_
 rintro ds n Q hl ⟨pl,bd,rfl,hz,q⟩
 have Y:Kh (pl.map D.int) ((bd.map Qk).map xU)=(pl.zip bd).map λz=>.tup [.int z.1,xU (Qk z.2)]:=by
  unfold Kh;rw[zK,List.zipWith_map,vm];rfl
 simp[startD];refine(ZD (d1:=wz pl) (d2:=xB (bd.map Qk)) rfl rfl).mpr ?_;rw[Y]
 refine wK (λz:Int × (Int × Int)=>.tup [.int z.1,xU (Qk z.2)]) (λz=>.int (max (z.2.1-z.1) (max 0 (z.1-z.2.2)))) (pl.zip bd) (zG (by rw[length_zip];lia) (yk (k:=1000) q5)) (λz hz R W=>?_) ?_
 ·simp[xU,Qk];exact W
 ·have e : ((pl.zip bd).map λz => D.int (max (z.2.1 - z.1) (max 0 (z.1 - z.2.2)))) = ((bd.zip pl).map λz => Zz z.1 z.2).map D.int := by
   rw[<- zd3,zK];rfl
  exact⟨(bd.zip pl).map (λz:(Int × Int) × Int=>Zz z.1 z.2),by rw[e],q⟩
abbrev Uj:Stmt:=top 18
abbrev Kc:List Str:=["by_name","tree","kind","names","limits","low","high"]
def jN:FnScope Kc ["by_name","tree","kind"] (xm Uj):=⟨rfl,rfl,rfl,w5,rfl,w5,w5⟩
def QP:("name" :: Kc:Qq2).Nodup:=w5
def VY:TF:=λds n Q=>∃(d:Nat) (hs ts:Qqd) (tr:Tr) (kd:QqO),ds=[byN hs,kR tr,kg kd]/\(hs.map λt=>t.1).Nodup/\TreeOf d ts tr/\(∀t∈ts,t∈hs)/\ts.length<=1000/\(∀pl,kd=some pl->pl.length<=1000)/\Q (.prT (yH d kd ts)) n
def zu2(T:Blt mg)(F:Fun K "key_by" "key_by" Uj f fd)(F_steps_to:Fn P w K mg base "steps_to" 1 2 YJ):FnOk P w K mg base CX0 2 f fd ["by_name","tree","kind"] (spD K 3 VY):=by
 refine Fun.okD F jN (λac A0 outer s H E G Z hr=>(zI (Yg (m:=7) (zh 1) (vS (k:=4) rfl rfl (xt (xh (i:=3) jN.nd rfl (lo rfl) q9) (xt (xh (i:=4) jN.nd rfl (lo rfl) q9) (xt (xh (i:=5) jN.nd rfl (lo rfl) q9) (xt (xh (i:=6) jN.nd rfl (lo rfl) q9) vh))))))
  (zI (kj (yj UD Ur (yG wu yF (zh 2) zA (λ_ _=>rfl)) KQ (yE _)) (zZ (xQ (xi4 (zc (wy F_steps_to (hr.mono q9) rfl (zc (yG wu yF (zh 2) zA (λ_ _=>rfl)) (zc (zh 4) zi))) (zc (yG wu yF (zh 3) zA (λ_ _=>rfl)) zi))))) yT)
  (zZ (xQ (xi4 (zc (zt0 (wc (WO rfl) za6 T.max WQ (zc (vO (own:=["name"]) (M:=Kc) (vX (by rfl)) rfl (vq rfl (zh 3)) (λ_ _ _ _=>(xh (i:=0) QP rfl (lo rfl) q9)) (λ_ _ _ _=>yz) (λ_ _ _ _=>(yG wu yF (zt1 (zx8 hr) (zh 1) (zh 0) (λ_ _=>rfl)) zA (λ_ _=>rfl)))) zi))) (zc (yG wu yF (zh 3) zA (λ_ _=>rfl)) zi)))))))) ?_
 rintro ds n Q hl ⟨d,hs,ts,tr,kd,rfl,hn,ht,J,hz,hk,q⟩;obtain⟨ta,tb,et,na,nb⟩:=UV tr;obtain⟨r,Y⟩:=ht.head;obtain⟨W,_⟩:=ht.names
 have aa:atI ((vU tr).map D.int) 0=some (.int (vP ts)):=by rw[Y];exact xa6
 rw[et];simp[startD,na,nb]
 cases kd with
 |some pl=>
  refine⟨_,0,_,.inr (.inl rfl),rfl,rfl,?_⟩;simp;refine⟨_,1,_,.inr (.inl rfl),rfl,rfl,?_⟩
  refine⟨pl,bdI d ts,by rw[ht.bd,xc6],hk pl rfl,?_⟩
  exact⟨_,aa,(yH d (some pl) ts).1,(yH d (some pl) ts).2,⟨rfl,rfl⟩,q⟩
 | none =>
  refine⟨_,0,_,.inr (.inl rfl),rfl,rfl,?_⟩;simp
  rw[if_neg q9]
  refine wK D.int (λx=>.int (wOf hs x)) (vU tr) (yk (by rw[W.length_eq,zf];lia)) (λx hx R hR=>?_) ?_
  ·obtain⟨u,hu,rfl⟩:=zo.mp (W.mem_iff.mp hx);simp;refine xn1 hn (J u hu) ?_;refine⟨_,2,_,.inr (.inl rfl),rfl,rfl,?_⟩;rw[zo5 (J u hu) hn] at hR;exact hR
  ·have e : ((vU tr).map λx => D.int (wOf hs x)) = ((vU tr).map (wOf hs)).map D.int := by rw [zK]; rfl
   have e2:Vi ((vU tr).map (wOf hs))=Vi (ts.map λt=>t.2.2):=by
    refine(zv8 (W.map (wOf hs))).trans ?_;rw[zK]
    congr 1
    exact vn λt ht=>zo5 (J t ht) hn
   rw[e]
   refine Xi (by rw[zf,Y];simp) ?_
   rw[e2];simp;exact⟨_,aa,(yH d none ts).1,(yH d none ts).2,⟨rfl,rfl⟩,q⟩
end
noncomputable def ksQ(d:Nat)(kd:QqO)(q:List Qe):List (Int × Int):=q.map λx=>yH d kd x.1
def esQ(q:List Qe):List D:=q.map λx=>kR x.2
def zm1{pl:Qqe}{q:List Qe}{i:Nat}{x:Qe}(h:q[i]?=some x):vQ pl (q.take (i+1))=vQ pl (q.take i)++(if vT (VO x.2) pl=true then [] else [x]):=by
 unfold vQ;rw[xE,h,filter_append]
 congr 1
 show List.filter _ [x]=_
 cases ha:vT (VO x.2) pl<;>simp[ha]
inductive Reach(d:Nat)(kd:QqO)(pl:Qqe)(k:Nat)(q0:List Qe):Nat->List Qe->List Thing->Prop where
 |start:Reach d kd pl k q0 0 q0 []
 |leaf {n:Nat}{q:List Qe}{acc:Qqd}{t:Thing}{bd:Qqe}:Reach d kd pl k q0 n q acc->acc.length<k->([t],Tr.one t.1 bd)∈q->(∀y∈q,ltP (yH d kd y.1) (yH d kd [t])=false)->Reach d kd pl k q0 (n+1) (Xa (λy:Qe=>yH d kd y.1) q (yH d kd [t])) (acc++[t])
 | opn {n : Nat} {q : List Qe} {acc ts ls us : List Thing} {ns : List Int} {bd : List Pair} {lo hi : Tr} : Reach d kd pl k q0 n q acc -> acc.length < k -> (ts, Tr.two ns bd lo hi) ∈ q -> (∀ y ∈ q, ltP (yH d kd y.1) (yH d kd ts) = false) -> (ls ++ us).Perm ts -> TreeOf d ls lo -> TreeOf d us hi ->
   Reach d kd pl k q0 (n+1) (Xa (λy:Qe=>yH d kd y.1) q (yH d kd ts)++vQ pl [(ls,lo),(us,hi)]) acc
def Reach.dok{d:Nat}{k n:Nat}(hd:1<=d)(W:pl.length=d)(h0:DOk d hs kd pl q0 [])(h:Reach d kd pl k q0 n q acc):DOk d hs kd pl q acc:=by
 induction h with
 |start=>exact h0
 |leaf _ _ hx Y J=>exact J.leaf hd W hx Y
 |opn _ _ hx Y h1 h2 h3 J=>exact(J.open hd W hx h1 h2 h3).1
noncomputable def ZB(o:Option Tr)(hs:Qqd)(pl:Qqe)(k:Nat):List Qe:=match o with
 |none=>[]
 |some tr=>if k=0 then [] else vQ pl [(hs,tr)]
def Reach.zero{d:Nat}{n:Nat}(h:Reach d kd pl 0 q0 n q acc):n=0/\q=q0/\acc=[]:=by
 cases h with
 |start=>exact⟨rfl,rfl,rfl⟩
 |leaf _ h=>lia
 |opn _ h=>lia
def LtQ(d:Nat)(kd:QqO)(a b:Qe):Prop:=ltP (yH d kd a.1) (yH d kd b.1)=true
def zE1(rs:List Qe):D:=.tup (rs.map λx=>.tup ((vU x.2).map D.int))
def zD1(d:Nat)(kd:QqO)(hs:Qqd):Prop:=∀ls us:List Thing,(∀t∈ls,t∈hs)->(∀t∈us,t∈hs)->1<=ls.length->1<=us.length->vP ls≠vP us->Vl (yH d kd ls)≠Vl (yH d kd us)
def zq4{a b:Int}{x y:Int}(h:SRow.lt ⟨.n a,x,r⟩ ⟨.n b,y,r'⟩=true):ltP (a,x) (b,y)=true:=by
 unfold SRow.lt at h;rw[qv]
 by_cases e:a=b
 ·subst e;simp at h;exact .inr ⟨rfl,h⟩
 ·simp only[SKey.n.injEq,e,if_false,SKey.lt,yf] at h;exact .inl h
def ki(q:List Qe):Nat:=(q.map λx=>WV x.2).sum
def Qu(h:p.Perm q):ki p=ki q:=by
 unfold ki
 induction h with
 |nil=>rfl
 |cons x _ J=>simp only[zN,sum_cons,J]
 |swap x y l=>simp only[zN,sum_cons];lia
 |trans _ _ h1 h2=>exact h1.trans h2
def Ud(p q:List Qe):ki (p++q)=ki p+ki q:=by unfold ki;rw[zS,List.sum_append]
def zj7(h:p.Sublist q):ki p<=ki q:=by
 induction h with
 |slnil=>exact zj _
 |cons x _ J=>simp[ki] at J ⊢;lia
 |cons_cons x _ J=>simp[ki] at J ⊢;lia
section
variable {P:Qq3}{w:Qqa}{K:Qq5}{mg:QqM}{base:Heap}{f:Addr}{fd:Qqb}
abbrev Qy:Stmt:=top 19
abbrev zc1:List Str:=["by_name","trees","plain","kind"]
def zF2:FnScope zc1 qZ8 (xm Qy):=⟨rfl,rfl,rfl,w5,rfl,w5,w5⟩
def zl3:("tree" :: zc1:Qq2).Nodup:=w5
def VX:TFT:=λds n R=>∃(d:Nat) (hs:Qqd) (kd:QqO) (pl:Qqe) (q:List Qe),ds=[byN hs,.lst (esQ q),xB pl,kg kd]/\1<=d/\d<=1000/\pl.length=d/\QOk d hs q/\q.length<=2/\(hs.map λt=>t.1).Nodup/\hs.length<=256/\(∀p,kd=some p->p.length<=1000) /\
 R (ksQ d kd (vQ pl q)) (esQ (vQ pl q)) n
def QOk.len{d:Nat}{hs:Qqd}{q:List Qe}(h:QOk d hs q)(hz:hs.length<=256){x:Qe}(hx:x∈q):x.1.length<=1000:=by
 have h1:(x.1.map λt=>t.1).Nodup:=by
  have hs':x.1.Sublist (vR q):=by
   clear h
   induction q with
   |nil=>simp at hx
   |cons y q W=>
    rw[vY]
    rcases zn.mp hx with rfl |hx
    ·exact List.sublist_append_left ..
    ·exact(W hx).trans (yn ..)
  exact(hs'.map _).nodup h.nd
 have h2:x.1.Nodup:=by
  rw[yd,xF] at h1;rw[yd];exact h1.imp λJ e=>J (congrArg _ e)
 have:=h2.length_le_of_subset (l₂:=hs) λt ht=>h.sub t (kQ.mpr ⟨x,hx,ht⟩);lia
def zJ1(T:Blt mg)(F:Fun K "keyed" "keyed" Qy f fd)(F_lie_apart:Fn P w K mg base "lie_apart" 4 2 ZH)(F_key_by:Fn P w K mg base "key_by" 2 3 VY):FnOk P w K mg base CX0 6 f fd qZ8 (spT K 4 VX):=by
 refine Fun.okT (k:=5) F zF2 rfl (λak A0 outer s H E G Z hr=>(zt3 hr (own:=["tree"]) (M:=zc1) (vX (by rfl)) rfl (vq rfl (zh 1)) (λC Y H2 fp=>(xh (i:=0) zl3 rfl (lo rfl) q9)) (λC Y H2 fp=>(zG6 (QG (Ye (wy F_lie_apart (hr.mono q9) rfl (zc (yG wu yF (zh 0) zA (λ_ _=>rfl)) (zc (zh 3) zi))))))) (λC Y H2 fp=>(wy F_key_by (hr.mono q9) rfl (zc (zh 1) (zc (zh 0) (zc (zh 4) zi))))) (λC Y H2 fp=>(zh 0)))) ?_
 rintro ds n R hl ⟨d,hs,kd,pl,q,rfl,ai,ah,ag,ok,af,hn,hz,hk,hR⟩;simp[startD,za5,zh6];have ac:(esQ q).length=q.length:=zf ..
 refine⟨yk q5,λi ks es n'=>n'=n/\ks=ksQ d kd (vQ pl (q.take i))/\es=esQ (vQ pl (q.take i)),⟨rfl,rfl,rfl⟩,?_,?_⟩
 ·rintro i dd ks es n' e ⟨rfl, rfl, rfl⟩;unfold esQ at e;rw[zy] at e
  cases hx:q[i]? with
  |none=>rw[hx] at e;cases e
  | some x =>
   rw[hx] at e;cases e;have hm:x∈q:=zV hx;have tt:=ok.tree x hm;obtain⟨ta,tb,et,na,nb⟩:=UV x.2;have nx:=qi x.2
   have aj:(VO x.2).length=d:=by rw[tt.bd,jC]
   have ad:∀R:D->Prop,R (xB (VO x.2))->KM (kR x.2) (.int 1) R:=λR h=>by
    rw[et];exact⟨_,1,_,.inr (.inl rfl),rfl,rfl,h⟩
   have ae:(x.1++vR (q.take i)).Perm (vR (q.take i)++x.1):=yL;have aa:QOk d hs (q.take (i+1)):=ok.sublist (ve ..)
   have W:yH d kd x.1 ∉ ksQ d kd (vQ pl (q.take i)):=λz=>by
    obtain⟨y,hy,e⟩:=zo.mp z;have:=aa.keys kd;rw[xE,hx,zS,yh] at this
    exact this.2.2 _ (zo.mpr ⟨y,(zB.mp hy).1,rfl⟩) _ (zo.mpr ⟨x,by simp,rfl⟩) e
   have J:=zm1 (pl:=pl) hx
   refine zi5 nx (ad _ ⟨VO x.2,pl,rfl,q5,q5,q5,?_⟩)
   simp
   cases ha:vT (VO x.2) pl with
   |true=>
    rw[ha,if_pos rfl,wv] at J;rw[J];simp
   |false=>
    rw[ha,if_neg (by simp)] at J
    simp;refine zi5 nx ⟨d,hs,x.1,x.2,kd,rfl,hn,tt,λt ht=>ok.sub t (kQ.mpr ⟨x,hm,ht⟩),ok.len hz hm,hk,?_⟩;refine zi5 nx ⟨(yH d kd x.1).1,(yH d kd x.1).2,rfl,W,?_⟩;refine⟨rfl,?_,?_⟩
    ·rw[J];unfold ksQ;rw[zS];rfl
    ·rw[J];unfold esQ;rw[zS];rfl
 ·rintro ks es n' ⟨rfl,rfl,rfl⟩;rw[ac,wW];exact hR
abbrev jQ:Stmt:=top 20
noncomputable abbrev Zo:List Str:=["gone","house","tree","box","kind","k","by_name","plain","names","looks","waiting","part_names","limits","low","high"]
def yS:FnScope Zo xz7 (xm jQ):=⟨rfl,rfl,rfl,w5,rfl,w5,w5⟩
def Ws:("key" :: Zo:Qq2).Nodup:=w5
def Qs:TF:=λds n R=>∃(d:Nat) (hs:Qqd) (o:Option Tr) (b:List Span) (kd:QqO) (k:Nat),ds=[.dct [] [],wU d hs,(o.map kR).getD .non,vW b,kg kd,.int k]/\1<=d/\d<=1000/\b.length=d/\(hs.map λt=>t.1).Nodup/\hs.length<=256/\(∀p,kd=some p->p.length<=1000) /\
 (o=none->hs=[])/\(∀tr,o=some tr->TreeOf d hs tr)/\zD1 d kd hs/\∀(n':Nat) (q rs:List Qe) (acc:Qqd),Reach d kd (kY b) k (ZB o hs (kY b) k) n' q acc->(q=[]\/acc.length=k)->acc.length<=k->rs.Perm q->rs.Pairwise (LtQ d kd)->R (.tup [.tup (acc.map λt=>.int t.1),.int n',zE1 rs]) n
structure JDr(d:Nat)(hs:Qqd)(kd:QqO)(pl:Qqe)(k n:Nat)(q0:List Qe)(g0 g1 g2 g3 g4 g6 g7:Option D)(m:Nat)(rho:Rho)(n':Nat):Prop where
 e:n'=n
 r:∃(q:List Qe) (acc:Qqd) (looks:Nat) (z1 z2 z3 z4:Option D),m=ki q/\Reach d kd pl k q0 looks q acc/\acc.length<=k /\
  rho=[g0,g1,g2,g3,g4,some (.int k),g6,g7,some (.own (acc.map λt=>.int t.1)),some (.int looks),some (.owT (ksQ d kd q) (esQ q)),z1,z2,z3,z4]
def zJ6(T:Blt mg)(F:Fun K "drawn_past" "drawn_past" jQ f fd)(F_things_by_name:Fn P w K mg base "things_by_name" 1 1 zE8)(F_plain_box:Fn P w K mg base "plain_box" 3 1 ZG)(F_keyed:FnT P w K mg base "keyed" 6 4 VX):FnOk P w K mg base CX0 7 f fd xz7 (spD K 6 Qs):=by
 refine Fun.okD F yS (λaR A0 outer s H E G Z hr=>(zI (yo (i:=6) yS.nd rfl (lo rfl) (wy F_things_by_name (hr.mono q9) rfl (zc (zh 1) zi)))
  (zI (yo (i:=7) yS.nd rfl (lo rfl) (wy F_plain_box (hr.mono q9) rfl (zc (zh 3) zi)))
  (zI (Wm (i:=8) yS.nd rfl (lo rfl) zi)
  (zI (yo (i:=9) yS.nd rfl (lo rfl) zA)
  (zI (zH0 (i:=10) F_keyed (hr.mono q9) rfl yS.nd rfl (lo rfl) (zc (zh 6) (zc (KU (PWD.pt (ze0 (yj jY jV (zh 2) vN (yE _)) (Ut (yj UD Ur (zh 5) zA (yE _))))) (kr zi) (kr (zc (zh 2) zi))) (zc (zh 7) (zc (zh 4) zi)))))
  (zI (zr9 PassesOwn.never (PWD.pt (Yd (yj UC Uq (zW7 (i:=10) T.len) zA (yE _)) (Zs (yj xj2 xf7 (KS (i:=8) T.len rfl) (zh 5) (yE _)))))
  (zI (zH1 (i:=10) (m:=15) hr rfl (wc (zB7 rfl (zx8 hr)) xb8 T.min JR (zc (zf2 (i:=10) hr T.list) zi)) (vS (k:=4) rfl rfl (xt (xh (i:=11) yS.nd rfl (lo rfl) q9) (xt (xh (i:=12) yS.nd rfl (lo rfl) q9) (xt (xh (i:=13) yS.nd rfl (lo rfl) q9) (xt (xh (i:=14) yS.nd rfl (lo rfl) q9) vh))))))
  (zI (zH3 xm2 (i:=9) yS.nd rfl (lo rfl) zA)
  (zZ (kj (yj UC Uq (wc wA qa T.len kK (zc (zh 11) zi)) zA (yE _)) (zZ (zG9 (i:=10) F_keyed (hr.mono q9) rfl (zc (zh 6) (zc (kr (zc (zh 13) (zc (zh 14) zi))) (zc (zh 7) (zc (zh 4) zi)))))) (zZ (kj (yj (zt6 (zx8 hr)) xf8 (yG wu yF (zh 11) zA (λ_ _=>rfl)) (zh 0) (by with_unfolding_all rfl)) (zZ (qd (i:=8) (zc (yG wu yF (zh 11) zA (λ_ _=>rfl)) zi) rfl)) yT)))))))
  (zZ (Yi 8 (xQ (yU (zc (yr wo vL T.tuple vM (zc (zh 8) zi)) (zc (zh 9) (zc (yr wo vL T.tuple vM (zc (vO (own:=["key"]) (M:=Zo) (vX (by rfl)) rfl (vq rfl (wc (Xo hr) (UY rfl) T.sorted jg (zc (zf2 (i:=10) hr T.list) zi))) (λ_ _ _ _=>(xh (i:=0) Ws rfl (lo rfl) q9)) (λ_ _ _ _=>yz) (λ_ _ _ _=>(yG wu yF (xi5 (i:=11) hr rfl (zh 0) (λ_ _=>rfl)) zA (λ_ _=>rfl)))) zi)) zi)))))))))))))) ?_
 generalize hB:Qi (zU4 10 _ _) _=B;generalize hS:xp8 8 _=Sr;generalize hW:Qi (zq2 _ _) _=Wl;rintro ds n R hl ⟨d,hs,o,b,kd,k,rfl,ac,aq,hb,hn,hz,hk,aC,aB,hH,hR⟩;have nh:=kO d hs;have nb:wj (vW b)=true:=rfl
 have no:wj ((o.map kR).getD .non)=true:=by cases o with |none=>rfl |some t=>exact qi t
 have aa:(kY b).length=d:=by rw[Zt];exact hb
 generalize aA:kY b=pl at *
 have fin:∀(F:EndsD) (q:List Qe) (acc:Qqd) (J:Nat) (z1 z2 z3 z4:Option D),F.rt=R->QOk d hs q->acc.length<=256->(∀rs:List Qe,rs.Perm q->rs.Pairwise (LtQ d kd)->R (.tup [.tup (acc.map λt=>.int t.1),.int J,zE1 rs]) n) ->
   Sr F [some (.dct [] []),some (wU d hs),some ((o.map kR).getD .non),some (vW b),some (kg kd),some (.int k),some (byN hs),some (xB pl),some (.own (acc.map λt=>.int t.1)),some (.int J),some (.owT (ksQ d kd q) (esQ q)),z1,z2,z3,z4] n:=λF q acc J z1 z2 z3 z4 hF ok aQ ht=>by
  subst hS
  have aO:q.length<=256:=by
   have h1:=ok.heads
   have h2:(q.map λx=>vP x.1).length<=(hs.map λt=>t.1).length:=h1.length_le_of_subset λa ha=>by
    obtain⟨x,hx,rfl⟩:=zo.mp ha;obtain⟨t,ht,e⟩:=kc (ok.tree x hx).ne;exact zo.mpr ⟨t,ok.sub t (kQ.mpr ⟨x,hx,ht⟩),e⟩
   rw[zf,zf] at h2;lia
  simp[hF]
  refine⟨q.map λx=>⟨.n (Xh d kd x.1),vP x.1,[]⟩,true,?_,by rw[zf];lia,?_,?_,λaL hp hs'=>⟨_,.inl rfl,?_⟩⟩
  ·unfold ksQ;rw[zK,zK];rfl
  ·intro x hx;obtain⟨_,_,rfl⟩:=zo.mp hx;rfl
  ·rw[zK];exact ok.heads
  ·obtain ⟨rs, ai, rfl⟩ := Uz hp;rw[zK]
   refine wK (SRow.d∘λx:Qe=>(⟨.n (Xh d kd x.1),vP x.1,[]⟩:SRow)) (λx=>.tup ((vU x.2).map D.int)) rs (yk (by rw[ai.length_eq];lia)) (λx hx R' hR'=>?_) ?_
   ·have e:(SRow.d∘λx:Qe=>(⟨.n (Xh d kd x.1),vP x.1,[]⟩:SRow)) x=.tup [.int (yH d kd x.1).1,.int (yH d kd x.1).2]:=rfl;have aj:=zb5 (f:=λx:Qe=>yH d kd x.1) (g:=λx=>kR x.2) (ai.mem_iff.mp hx) (ok.keys kd);obtain⟨ta,tb,et,na,aM⟩:=UV x.2;rw[e];simp;refine⟨_,_,⟨rfl,rfl⟩,_,_,⟨rfl,rfl⟩,_,aj,?_⟩;show KM (kR x.2) _ _;rw[et];exact⟨_,0,_,.inr (.inl rfl),rfl,rfl,hR'⟩
   ·simp;refine ht rs ai ?_;rw[xF] at hs';exact hs'.imp λ{a b} h=>zq4 h
 have loop:∀(F:EndsD) (q0:List Qe),F.rt=R->q0=ZB o hs pl k->(1<=k->DOk d hs kd pl q0 [])->(k=0->q0=[]) ->
   Wl F [some (.dct [] []),some (wU d hs),some ((o.map kR).getD .non),some (vW b),some (kg kd),some (.int k),some (byN hs),some (xB pl),some (.own []),some (.int 0),some (.owT (ksQ d kd q0) (esQ q0)),none,none,none,none] n:=λF q0 hF az h1 h0=>by
  subst hW;simp;refine⟨JDr d hs kd pl k n q0 _ _ _ _ _ _ _,⟨ki q0,rfl,q0,[],0,none,none,none,none,rfl,.start,wq _,rfl⟩,?_⟩;rintro m rho n' ⟨rfl,q,acc,J,z1,z2,z3,z4,rfl,ad,ap,rfl⟩;have hD:1<=k->DOk d hs kd pl q acc:=λh=>ad.dok ac aa (h1 h)
  have W:QOk d hs q:=by
   by_cases e:k=0
   ·subst e;obtain⟨_,e2,_⟩:=ad.zero
    rw[e2,h0 rfl];exact⟨by simp,by simp[vR],by simp[vR]⟩
   ·exact(hD q5).ok
  have ag:acc.length<=256:=by
   by_cases e:k=0
   ·lia
   ·have h2 := (hD q5).perm.length_eq
    have h3:(ZA pl hs).length<=hs.length:=yM ..;rw[zF] at h2;lia
  have kl:(ksQ d kd q).length=q.length:=zf ..;have told:acc.length=k\/q=[]->∀rs:List Qe,rs.Perm q->rs.Pairwise (LtQ d kd)->R (.tup [.tup (acc.map λt=>.int t.1),.int J,zE1 rs]) n':=λh rs p1 p2=>hR J q rs acc (az ▸ ad) h.symm ap p1 p2;simp;rw[kl]
  split
  ·rename_i am
   split
   ·rename_i aF
    have D0:=hD q5
    have hlt':acc.length<k:=aF;subst hB;simp
    refine⟨ksQ d kd q,_,⟨rfl,rfl⟩,ksQ d kd q,rfl,by rw[kl];exact am,λmk aE ao=>?_⟩
    obtain⟨⟨ts,tr⟩,hx,rfl⟩:=zo.mp aE;have tt:TreeOf d ts tr:=W.tree _ hx;have aj:atP (ksQ d kd q) (esQ q) (yH d kd ts)=some (kR tr):=zb5 (f:=λx:Qe=>yH d kd x.1) (g:=λx=>kR x.2) hx (W.keys kd);have aI:XJ (ksQ d kd q) (yH d kd ts)=ksQ d kd (Xa (λy:Qe=>yH d kd y.1) q (yH d kd ts)):=zz4 ..;have aJ:dropE (ksQ d kd q) (esQ q) (yH d kd ts)=esQ (Xa (λy:Qe=>yH d kd y.1) q (yH d kd ts)):=JH ..;have hmin':∀y∈q,ltP (yH d kd y.1) (yH d kd ts)=false:=λy hy=>ao _ (zo.mpr ⟨y,hy,rfl⟩);have hsz:ki ((ts,tr)::Xa (λy:Qe=>yH d kd y.1) q (yH d kd ts))=ki q:=Qu (Zv (f:=λy:Qe=>yH d kd y.1) hx (W.keys kd))
    have hsz:WV tr+ki (Xa (λy:Qe=>yH d kd y.1) q (yH d kd ts))=ki q:=by rw[<- hsz];simp[ki]
    have leaf:∀t bd,ts=[t]->tr=.one t.1 bd->Reach d kd pl k q0 (J+1) (Xa (λy:Qe=>yH d kd y.1) q (yH d kd ts)) (acc++[t]):=λt bd e e2=>by subst e e2;exact ad.leaf hlt' hx hmin'
    have ar:∀ns bd lo hi ls us,tr=.two ns bd lo hi->(ls++us).Perm ts->TreeOf d ls lo->TreeOf d us hi->Reach d kd pl k q0 (J+1) (Xa (λy:Qe=>yH d kd y.1) q (yH d kd ts)++vQ pl [(ls,lo),(us,hi)]) acc:=λns bd lo hi ls us e a1 a2 a3=>by subst e;exact ad.opn hlt' hx hmin' a1 a2 a3
    have opn:=fun(ls us:Qqd) (lo hi:Tr) h1 h2 h3=>D0.open (ls:=ls) (us:=us) (lo:=lo) (hi:=hi) ac aa hx h1 h2 h3;refine⟨(yH d kd ts).1,(yH d kd ts).2,rfl,kR tr,aj,?_⟩;rw[show((yH d kd ts).1,(yH d kd ts).2)=yH d kd ts from rfl,aI,aJ];generalize Xa (λy:Qe=>yH d kd y.1) q (yH d kd ts)=q' at *
    cases tt with
    |@one t ht=>
     have D1:=leaf t _ rfl rfl
     have h6:acc.length<sizeLine:=lt_size q5
     simp[kR];rw[if_pos (show atK [] [] (Sum.inl t.1)=(none:Option D) from rfl)];have s1:WV (.one t.1 (Zl d [t.2.1]))=1:=rfl
     exact⟨h6,ki q',q5,rfl,q',acc++[t],J+1,_,_,_,_,rfl,D1,by rw[zF];simp;lia,by rw[zS];rfl⟩
    | @two ts ls us ns lo hi p hp aN t1 t2 =>
     obtain⟨D1,av⟩:=opn ls us lo hi p t1 t2;have R1:=ar _ _ lo hi ls us rfl p t1 t2;have nl:=qi lo;have ax:=qi hi
     have aP:ns.length=ts.length:=by rw[hp.length_eq,zf]
     have h2:1<ns.length:=by
      have:=t1.ne;have:=t2.ne;have:=p.length_eq;rw[zF] at this;lia
     simp[kR,nl,ax]
     rw[if_pos q5]
     have ae:QOk d hs (q'++vQ pl [(ls,lo),(us,hi)]):=D1.ok;have okT:QOk d hs [(ls,lo),(us,hi)]:=av.sublist (yn ..);have s1:WV (.two ns (Zl d (ts.map λt=>t.2.1)) lo hi)=1+WV lo+WV hi:=rfl;have s2:ki (vQ pl [(ls,lo),(us,hi)])<=ki [(ls,lo),(us,hi)]:=zj7 filter_sublist
     have s3:ki [(ls,lo),(us,hi)]=WV lo+WV hi:=by simp[ki]
     have aH:=ae.keys kd
     have aG:(q'++vQ pl [(ls,lo),(us,hi)]).length<=256:=by
      have h3:=ae.heads
      have h4:((q'++vQ pl [(ls,lo),(us,hi)]).map λx=>vP x.1).length<=(hs.map λt=>t.1).length:=h3.length_le_of_subset λa ha=>by
       obtain⟨x,hx,rfl⟩:=zo.mp ha;obtain⟨t,ht,e⟩:=kc (ae.tree x hx).ne;exact zo.mpr ⟨t,ae.sub t (kQ.mpr ⟨x,hx,ht⟩),e⟩
      rw[zf,zf] at h4;lia
     have ak:((ksQ d kd (vQ pl [(ls,lo),(us,hi)])).map Vl).Nodup:=by
      have z:((ksQ d kd [(ls,lo),(us,hi)]).map Vl).Nodup:=by
       have af:∀t∈ls++us,t∈hs:=λt ht=>okT.sub t (by simpa [vR] using ht)
       have aD:vP ls≠vP us:=by
        have:=okT.heads
        simpa using this
       have:=hH ls us (λt ht=>af t (xu _ ht)) (λt ht=>af t (xf _ ht)) t1.ne t2.ne aD
       simpa [ksQ] using this
      exact((List.filter_sublist.map _).map _).nodup z
     have ay:ksQ d kd q'++ksQ d kd (vQ pl [(ls,lo),(us,hi)])=ksQ d kd (q'++vQ pl [(ls,lo),(us,hi)]):=by unfold ksQ;rw[zS]
     have aK:esQ q'++esQ (vQ pl [(ls,lo),(us,hi)])=esQ (q'++vQ pl [(ls,lo),(us,hi)]):=by unfold esQ;rw[zS]
     refine⟨_,_,⟨rfl,rfl⟩,d,hs,kd,pl,[(ls,lo),(us,hi)],rfl,ac,aq,aa,okT,by simp,hn,hz,hk,?_⟩
     dsimp only;rw[ay,aK]
     refine⟨aH,yk ?_,λ_=>ak,ki (q'++vQ pl [(ls,lo),(us,hi)]),by rw[Ud];lia,rfl,_,acc,J+1,_,_,_,_,rfl,R1,ap,rfl⟩
     have l1:(ksQ d kd q').length=q'.length:=zf ..;have l2:(ksQ d kd (vQ pl [(ls,lo),(us,hi)])).length=(vQ pl [(ls,lo),(us,hi)]).length:=zf ..;rw[l1,l2,<- zF];lia
   ·exact fin _ _ _ _ _ _ _ _ hF W ag (told (.inl q5))
  ·exact fin _ _ _ _ _ _ _ _ hF W ag (told (.inr (xo.mp q5)))
 simp[startD,nh,nb,no]
 refine⟨_,hs,rfl,hn,q5,⟨b,rfl,q5,?_⟩⟩
 rw[aA];have ah:∀(q:List Qe) (R':List (Int × Int)->List D->Nat->Prop),QOk d hs q->q.length<=2->R' (ksQ d kd (vQ pl q)) (esQ (vQ pl q)) n->VX [byN hs,.lst (esQ q),xB pl,kg kd] n R':=λq R' h1 h2 h3=>⟨d,hs,kd,pl,q,rfl,ac,aq,aa,h1,h2,hn,hz,hk,h3⟩
 have Y:QOk d hs []:=⟨by simp,by simp[vR],by simp[vR]⟩
 cases o with
 |none=>
  simp
  exact ah [] _ Y (by simp) (loop _ [] rfl rfl (λ_=>.none (aC rfl)) λ_=>rfl)
 | some tr =>
  have ni:YG (kR tr)=false:=by cases tr<;>rfl
  have nt:=qi tr;have tt:=aB tr rfl;simp[ni,nt]
  split
  ·rename_i h0
   exact ah [] _ Y (by simp) (loop _ [] rfl (by simp[ZB,h0]) (λh=>by lia) λ_=>rfl)
  ·rename_i h0
   have aw:QOk d hs [(hs,tr)]:=⟨λx hx=>by rw[zE.mp hx];exact tt,λt ht=>by simpa [vR] using ht,by simpa [vR] using hn⟩
   exact ah [(hs,tr)] _ aw (by simp) (loop _ _ rfl (by simp[ZB,h0]) (λ_=>.start ac aa tt hn) λh=>absurd h h0)
abbrev Qz:Stmt:=top 21
abbrev xd2:List Str:=["house","tree","box","kind","k"]
def zF3:FnScope xd2 qZ9 (xm Qz):=⟨rfl,rfl,rfl,w5,rfl,w5,w5⟩
def VZ:TF:=λds n R=>∃(d:Nat) (hs:Qqd) (o:Option Tr) (b:List Span) (kd:QqO) (k:Nat),ds=[wU d hs,(o.map kR).getD .non,vW b,kg kd,.int k]/\1<=d/\d<=1000/\b.length=d/\(hs.map λt=>t.1).Nodup/\hs.length<=256/\(∀p,kd=some p->p.length<=1000) /\
 (o=none->hs=[])/\(∀tr,o=some tr->TreeOf d hs tr)/\zD1 d kd hs/\∀(n':Nat) (q rs:List Qe) (acc:Qqd),Reach d kd (kY b) k (ZB o hs (kY b) k) n' q acc->(q=[]\/acc.length=k)->acc.length<=k->rs.Perm q->rs.Pairwise (LtQ d kd)->R (.tup [.tup (acc.map λt=>.int t.1),.int n',zE1 rs]) n
def zJ5(F:Fun K "drawn" "drawn" Qz f fd)(F_drawn_past:Fn P w K mg base "drawn_past" 7 6 Qs):FnOk P w K mg base CX0 8 f fd qZ9 (spD K 5 VZ):=by
 refine Fun.okD F zF3 (λaa A0 outer s H E G Z hr=>(zZ (xQ (wy F_drawn_past (hr.mono q9) rfl (zc zW9 (zc (zh 0) (zc (zh 1) (zc (zh 2) (zc (zh 3) (zc (zh 4) zi)))))))))) ?_
 rintro ds n R hl ⟨d,hs,o,b,kd,k,rfl,h⟩;have W:=kO d hs;have Y:wj (vW b)=true:=rfl
 have J:wj ((o.map kR).getD .non)=true:=by cases o with |none=>rfl |some t=>exact qi t
 simp[startD,W,Y,J];exact⟨d,hs,o,b,kd,k,rfl,h⟩
end
def QZ(h:a.Perm b)(h1:1<=a.length):vP a=vP b:=by
 obtain⟨t,ht,e⟩:=kc h1
 obtain⟨u,hu,J⟩:=kc (ts:=b) (by rw[<- h.length_eq];exact h1)
 have i1:=YF (h.mem_iff.mpr hu);have i2:=YF (h.mem_iff.mp ht);lia
def zw9{d:Nat}(h:a.Perm b)(h1:1<=a.length):yH d kd a=yH d kd b:=by
 have i1:Xh d kd b<=Xh d kd a:=UO (λt ht=>h.mem_iff.mp ht) h1
 have i2:Xh d kd a<=Xh d kd b:=UO (λt ht=>h.mem_iff.mpr ht) (by rw[<- h.length_eq];exact h1)
 unfold yH
 rw[QZ h h1,show Xh d kd a=Xh d kd b by lia]
def ofN(hs:Qqd)(tr:Tr):List Thing:=hs.filter λt=>decide (t.1∈vU tr)
noncomputable def kT(d:Nat)(kd:QqO)(hs:Qqd)(tr:Tr):Int × Int:=yH d kd (ofN hs tr)
def Xy{hs:Qqd}(W:(hs.map λt=>t.1).Nodup):hs.Nodup:=by
 rw[yd,xF] at W;rw[yd];exact W.imp λJ e=>J (congrArg _ e)
def zE6{hs:Qqd}(hn:(hs.map λt=>t.1).Nodup){t u:Thing}(ht:t∈hs)(hu:u∈hs)(e:t.1=u.1):t=u:=by
 have h:=jh ht hn;have h2:=jh hu hn;rw[e,h2] at h;have h3:xx u=xx t:=zD h;obtain⟨a,p,w⟩:=t;obtain⟨b,q,v⟩:=u;unfold xx wz at h3;injection h3 with h3;injection h3 with Y h3;injection h3 with W h3;injection h3 with J _;injection Y with Y;injection W with W;injection J with J
 have x4:q=p:=by
  have inj:∀a b:List Int,a.map D.int=b.map D.int->a=b:=λa=>by
   induction a with
   |nil=>intro b h;cases b with |nil=>rfl |cons=>simp at h
   | cons x a ih =>
    intro b h
    cases b with
    |nil=>simp at h
    |cons y b=>
     simp only[zN,List.cons.injEq,D.int.injEq] at h;rw[h.1,ih b h.2]
  exact inj q p W
 have x1':b=a:=Y;have x3':v=w:=J;rw[x1',x3',x4]
def TreeOf.ofN{d:Nat}(h:TreeOf d ts tr)(hn:(hs.map λt=>t.1).Nodup)(J:∀t∈ts,t∈hs)(W:(ts.map λt=>t.1).Nodup):(ofN hs tr).Perm ts:=by
 refine(List.perm_ext_iff_of_nodup (List.filter_sublist.nodup (Xy hn)) (Xy W)).mpr λt=>?_;obtain⟨Y,_⟩:=h.names
 constructor
 ·intro ht;obtain⟨h1,h2⟩:=zB.mp ht;obtain⟨u,hu,e⟩:=zo.mp (Y.mem_iff.mp (of_decide_eq_true h2));rw[<- zE6 hn (J u hu) h1 e];exact hu
 ·intro ht;exact zB.mpr ⟨J t ht,xI (Y.mem_iff.mpr (zo.mpr ⟨t,ht,rfl⟩))⟩
def TreeOf.keyOf{d:Nat}(h:TreeOf d ts tr)(Y:(hs.map λt=>t.1).Nodup)(J:∀t∈ts,t∈hs)(W:(ts.map λt=>t.1).Nodup):kT d kd hs tr=yH d kd ts:=by
 have p:=h.ofN Y J W
 exact zw9 p (by rw[p.length_eq];exact h.ne)
noncomputable def jc(pl:Qqe):Tr->List Tr
 |.one x bd=>if vT bd pl=true then [] else [.one x bd]
 |.two ns bd l h=>if vT bd pl=true then [] else .two ns bd l h::(jc pl l++jc pl h)
noncomputable def kn(d:Nat)(kd:QqO)(hs:Qqd)(pl:Qqe)(L:QqP):Tr->List Tr
 |.one x bd=>if vT bd pl=true then [] else if ltP L (kT d kd hs (.one x bd))=true then [.one x bd] else []
 |.two ns bd l h=>if vT bd pl=true then [] else if ltP L (kT d kd hs (.two ns bd l h))=true then [.two ns bd l h] else kn d kd hs pl L l++kn d kd hs pl L h
def Vy{pl:Qqe}{tr:Tr}(h:vT (VO tr) pl=true):jc pl tr=[]:=by
 cases tr<;>exact if_pos h
def WH{d:Nat}{kd:QqO}{hs:Qqd}{L:QqP}{pl:Qqe}{tr:Tr}(h:vT (VO tr) pl=true):kn d kd hs pl L tr=[]:=by
 cases tr<;>(unfold kn;exact if_pos h)
def za3{d:Nat}{kd:QqO}{hs:Qqd}{L:QqP}{pl:Qqe}{tr:Tr}(h:vT (VO tr) pl=false)(h2:ltP L (kT d kd hs tr)=true):kn d kd hs pl L tr=[tr]:=by
 have h':¬ vT (VO tr) pl=true:=by rw[h];simp
 cases tr with
 |one x bd=>unfold kn;exact(if_neg h').trans (if_pos h2)
 |two ns bd l hh=>unfold kn;exact(if_neg h').trans (if_pos h2)
theorem Ze{α:Type}(f:Tr->List α){pl:Qqe}(W:∀tr,vT (VO tr) pl=true->f tr=[]):∀q:List Qe,((vQ pl q).flatMap λx=>f x.2)=q.flatMap λx=>f x.2
 |[]=>rfl
 | x :: q => by
  have J:=Ze f W q;rw[wx]
  cases ha:vT (VO x.2) pl with
  |true=>
   have e:vQ pl (x::q)=vQ pl q:=by unfold vQ;rw[xy (by simp[ha])]
   rw[e,J,W x.2 ha,wC]
  |false=>
   have e:vQ pl (x::q)=x::vQ pl q:=by unfold vQ;rw[xv (by simp[ha])]
   rw[e,wx,J]
structure POk(d:Nat)(kd:QqO)(hs:Qqd)(pl:Qqe)(k:Nat)(all:List Tr)(front:(Int × Int)->List Tr)(n:Nat)(q:List Qe)(acc:Qqd)(P:List Tr):Prop where
 len:P.length=n
 perm:(P++q.flatMap λx=>jc pl x.2).Perm all
 lo:∀p∈P,∀x∈q,ltP (yH d kd x.1) (kT d kd hs p)=false
 fin:acc.length=k->1<=k->∃t,acc.getLast?=some t/\(∀p∈P,ltP (yH d kd [t]) (kT d kd hs p)=false)/\∀x∈q,ltP (yH d kd [t]) (yH d kd x.1)=true
 frn:∀L,(∀p∈P,ltP L (kT d kd hs p)=false)->(q.flatMap λx=>kn d kd hs pl L x.2).Perm (front L)
def QOk.keyOf{d:Nat}(h:QOk d hs q)(Y:(hs.map λt=>t.1).Nodup)(hx:x∈q):kT d kd hs x.2=yH d kd x.1:=by
 have J:x.1.Sublist (vR q):=by
  clear h
  induction q with
  |nil=>simp at hx
  |cons y q W=>
   rw[vY]
   rcases zn.mp hx with rfl |hx
   ·exact List.sublist_append_left ..
   ·exact(W hx).trans (yn ..)
 exact(h.tree x hx).keyOf Y (λt ht=>h.sub t (J.mem ht)) ((J.map _).nodup h.nd)
def XS{d:Nat}{kd:QqO}{ls ts:Qqd}(h:∀t∈ls,t∈ts)(h1:1<=ls.length):ltP (yH d kd ls) (yH d kd ts)=false:=by
 cases e:ltP (yH d kd ls) (yH d kd ts) with
 |false=>rfl
 |true=>
  rw[qv] at e;have i1:Xh d kd ts<=Xh d kd ls:=UO h h1;obtain⟨t,ht,J⟩:=kc h1;have i2:vP ts<=t.1:=YF (h t ht);have e':Xh d kd ls<Xh d kd ts\/Xh d kd ls=Xh d kd ts/\vP ls<vP ts:=e;lia
def Reach.pok{d:Nat}{hs:Qqd}{kd:QqO}{pl:Qqe}{k n:Nat}{q0 q:List Qe}{acc:Qqd}(hd:1<=d)(hp:pl.length=d)(hn:(hs.map λt=>t.1).Nodup)(h0:DOk d hs kd pl q0 [])(h:Reach d kd pl k q0 n q acc) :
  ∃P,POk d kd hs pl k (q0.flatMap λx=>jc pl x.2) (λL=>q0.flatMap λx=>kn d kd hs pl L x.2) n q acc P:=by
 induction h with
 |start=>exact⟨[],rfl,by simp,by simp,λh1 h2=>by simp at h1;lia,λL _=>.refl _⟩
 | @leaf n q acc t bd hR ad hx hm ih =>
  obtain⟨P,ok⟩:=ih;have Y:=hR.dok hd hp h0;have hk:=Y.ok.keyOf (kd:=kd) hn hx;have J:(([t],Tr.one t.1 bd)::Xa (λy:Qe=>yH d kd y.1) q (yH d kd [t])).Perm q:=Zv (f:=λy:Qe=>yH d kd y.1) hx (Y.ok.keys kd);have ac:=Y.ok.perm J
  have W:¬ vT bd pl=true:=by have:=Y.inb _ hx;show ¬ vT (VO (Tr.one t.1 bd)) pl=true;rw[this];simp
  generalize Xa (λy:Qe=>yH d kd y.1) q (yH d kd [t])=q' at *
  have aa:∀x∈q',ltP (yH d kd [t]) (yH d kd x.1)=true:=λx hx'=>by
   refine Js (hm x (J.mem_iff.mp (zk _ hx'))) ?_;have:=ac.heads;rw[zN,xM] at this;exact λe=>this.1 (zo.mpr ⟨x,hx',e⟩)
  refine⟨P++[.one t.1 bd],by simp[ok.len],?_,λp hp' x hx'=>?_,λ_ _=>⟨t,by simp,λp hp'=>?_,aa⟩,λL hL=>?_⟩
  ·refine List.Perm.trans ?_ ok.perm;rw[wn];refine List.Perm.append_left P ?_;refine List.Perm.trans ?_ (J.flatMap_right λx=>jc pl x.2);rw[wx,show jc pl ([t],Tr.one t.1 bd).2=[.one t.1 bd] from if_neg W]
  ·rcases xk.mp hp' with hp' | hp'
   ·exact ok.lo p hp' x (J.mem_iff.mp (zk _ hx'))
   ·rw[zE.mp hp',show kT d kd hs (.one t.1 bd)=yH d kd [t] from hk];exact hm x (J.mem_iff.mp (zk _ hx'))
  ·rcases xk.mp hp' with hp' | hp'
   ·exact ok.lo p hp' _ hx
   ·rw[zE.mp hp',show kT d kd hs (.one t.1 bd)=yH d kd [t] from hk];exact Wy _
  ·refine List.Perm.trans ?_ (ok.frn L λp hp' => hL p (xu _ hp'));refine List.Perm.trans ?_ (J.flatMap_right λx=>kn d kd hs pl L x.2)
   have e:kn d kd hs pl L (.one t.1 bd)=[]:=by
    unfold kn;rw[if_neg W,if_neg]
    rw[hL (.one t.1 bd) (by simp)]
    simp
   rw[wx,show kn d kd hs pl L ([t],Tr.one t.1 bd).2=[] from e,wC]
 | @opn n q acc ts ls us ns bd lo hi hR ad hx hm h1 h2 h3 ih =>
  obtain⟨P,ok⟩:=ih;have Y:=hR.dok hd hp h0;have hk:=Y.ok.keyOf (kd:=kd) hn hx;have J:((ts,Tr.two ns bd lo hi)::Xa (λy:Qe=>yH d kd y.1) q (yH d kd ts)).Perm q:=Zv (f:=λy:Qe=>yH d kd y.1) hx (Y.ok.keys kd)
  have W:¬ vT bd pl=true:=by have:=Y.inb _ hx;show ¬ vT (VO (Tr.two ns bd lo hi)) pl=true;rw[this];simp
  generalize Xa (λy:Qe=>yH d kd y.1) q (yH d kd ts)=q' at *
  have sub:∀x∈vQ pl [(ls,lo),(us,hi)],ltP (yH d kd x.1) (yH d kd ts)=false:=λx hx'=>by
   have:=(zB.mp hx').1;simp only[zn,xb,or_false] at this
   rcases this with rfl |rfl
   ·exact XS (λt ht=>h1.mem_iff.mp (xu _ ht)) h2.ne
   ·exact XS (λt ht=>h1.mem_iff.mp (xf _ ht)) h3.ne
  refine⟨P++[.two ns bd lo hi],by simp[ok.len],?_,λp hp' x hx'=>?_,λh _=>by lia,λL hL=>?_⟩
  ·refine List.Perm.trans ?_ ok.perm;rw[wn];refine List.Perm.append_left P ?_;refine List.Perm.trans ?_ (J.flatMap_right λx=>jc pl x.2);have e:jc pl (.two ns bd lo hi)=.two ns bd lo hi::(jc pl lo++jc pl hi):=if_neg W;rw[wx,List.flatMap_append,Ze _ (λtr=>Vy),show jc pl (ts,Tr.two ns bd lo hi).2=_ from e];simp only[wx,List.flatMap_nil,wv,List.cons_append,List.singleton_append];rw[wC];exact List.Perm.cons _ yL
  ·rcases xk.mp hp' with hp' | hp'
   ·rcases xk.mp hx' with hx' | hx'
    ·exact ok.lo p hp' x (J.mem_iff.mp (zk _ hx'))
    ·exact zf8 (ok.lo p hp' _ hx) (sub x hx')
   ·rw [zE.mp hp', show kT d kd hs (.two ns bd lo hi) = yH d kd ts from hk]
    rcases xk.mp hx' with hx' |hx'
    ·exact hm x (J.mem_iff.mp (zk _ hx'))
    ·exact sub x hx'
  ·refine List.Perm.trans ?_ (ok.frn L λp hp' => hL p (xu _ hp'));refine List.Perm.trans ?_ (J.flatMap_right λx=>kn d kd hs pl L x.2)
   have e:kn d kd hs pl L (.two ns bd lo hi)=kn d kd hs pl L lo++kn d kd hs pl L hi:=by
    conv=>lhs;unfold kn
    rw[if_neg W,if_neg]
    rw[hL (.two ns bd lo hi) (by simp)]
    simp
   rw[wx,List.flatMap_append,Ze _ (λtr=>WH),show kn d kd hs pl L (ts,Tr.two ns bd lo hi).2=_ from e];simp only[wx,List.flatMap_nil,wv];exact yL
def TreeOf.openK{d:Nat}{kd:QqO}{hs:Qqd}{pl:Qqe}(hn:(hs.map λt=>t.1).Nodup){ts:Qqd}{tr:Tr}(h:TreeOf d ts tr):(∀t∈ts,t∈hs)->(ts.map λt=>t.1).Nodup->∀y∈jc pl tr,ltP (kT d kd hs y) (yH d kd ts)=false:=by
 induction h with
 |@one t hl=>
  intro J Y y W;unfold jc at W
  split at W
  ·simp at W
  ·rw[zE.mp W,(TreeOf.one hl).keyOf hn J Y];exact Wy _
 | @two ts ls us ns lo hi p hp ae t1 t2 ad ac =>
  intro J Y y W;have aa:((ls++us).map λt=>t.1).Nodup:=(p.map _).nodup_iff.mpr Y;rw[zS,yh] at aa;unfold jc at W
  split at W
  ·simp at W
  ·rcases zn.mp W with rfl | W
   ·rw[(TreeOf.two p hp ae t1 t2).keyOf hn J Y];exact Wy _
   ·rcases xk.mp W with W | W
    ·exact zf8 (XS (λt ht=>p.mem_iff.mp (xu _ ht)) t1.ne) (ad (λt ht=>J t (p.mem_iff.mp (xu _ ht))) aa.1 y W)
    ·exact zf8 (XS (λt ht=>p.mem_iff.mp (xf _ ht)) t2.ne) (ac (λt ht=>J t (p.mem_iff.mp (xf _ ht))) aa.2.1 y W)
def QOk.sub1{d:Nat}(h:QOk d hs q)(hx:x∈q):(∀t∈x.1,t∈hs)/\(x.1.map λt=>t.1).Nodup:=by
 have J:x.1.Sublist (vR q):=by
  clear h
  induction q with
  |nil=>simp at hx
  |cons y q W=>
   rw[vY]
   rcases zn.mp hx with rfl |hx
   ·exact List.sublist_append_left ..
   ·exact(W hx).trans (yn ..)
 exact⟨λt ht=>h.sub t (J.mem ht),(J.map _).nodup h.nd⟩
section
variable {d:Nat}{kd:QqO}{hs:Qqd}{pl:Qqe}{k n:Nat}{all:List Tr}{front:(Int × Int)->List Tr}{q:List Qe}{acc:Qqd}{P:List Tr}
def POk.looks0(h:POk d kd hs pl k all front n [] acc P):n=all.length:=by
 have:=h.perm.length_eq;rw[<- this,<- h.len];simp
def POk.looks1(hn:(hs.map λt=>t.1).Nodup)(ok:QOk d hs q)(h:POk d kd hs pl k all front n q acc P){t:Thing}(h1:∀p∈P,ltP (yH d kd [t]) (kT d kd hs p)=false)(h2:∀x∈q,ltP (yH d kd [t]) (yH d kd x.1)=true) :
  n=(all.filter λy=>!ltP (yH d kd [t]) (kT d kd hs y)).length:=by
 have e:=(h.perm.filter λy=>!ltP (yH d kd [t]) (kT d kd hs y)).length_eq
 rw[<- e,filter_append,zF,List.filter_eq_self.mpr λp hp=>by rw[h1 p hp];rfl,h.len]
 have z:((q.flatMap λx=>jc pl x.2).filter λy=>!ltP (yH d kd [t]) (kT d kd hs y))=[]:=List.filter_eq_nil_iff.mpr λy J=>by
  obtain⟨x,hx,J⟩:=List.mem_flatMap.mp J;obtain⟨s1,W⟩:=ok.sub1 hx;have i1:=(ok.tree x hx).openK (kd:=kd) (pl:=pl) hn s1 W y J;have i2:=h2 x hx
  have Y:ltP (yH d kd [t]) (kT d kd hs y)=true:=by
   rw[qv] at i2 ⊢
   have i4:¬ ((kT d kd hs y).1<(yH d kd x.1).1\/((kT d kd hs y).1=(yH d kd x.1).1/\(kT d kd hs y).2<(yH d kd x.1).2)):=λz=>by rw[<- qv,i1] at z;cases z
   lia
  rw[Y];simp
 rw[z];simp
def POk.waits(hn:(hs.map λt=>t.1).Nodup)(W:DOk d hs kd pl q acc)(h:POk d kd hs pl k all front n q acc P){t:Thing}(h1:∀p∈P,ltP (yH d kd [t]) (kT d kd hs p)=false)(h2:∀x∈q,ltP (yH d kd [t]) (yH d kd x.1)=true):(q.map λx=>x.2).Perm (front (yH d kd [t])):=by
 refine List.Perm.trans ?_ (h.frn _ h1)
 have e:∀l:List Qe,(∀x∈l,x∈q)->(l.map λx=>x.2)=l.flatMap λx=>kn d kd hs pl (yH d kd [t]) x.2:=λl=>by
  induction l with
  |nil=>intro _;rfl
  |cons x l Y=>
   intro J
   rw[zN,wx,Y λy hy=>J y (zk _ hy),za3 (W.inb x (J x (by simp))) (by rw[W.ok.keyOf hn (J x (by simp))];exact h2 x (J x (by simp)))]
   rfl
 rw[e q λx hx=>hx]
end
def zT0(bd:Qqe):Prop:=∀(i:Nat) (b:Pair),bd[i]?=some b->∃lo hi:Int,b=(some lo,some hi)/\lo<=hi
noncomputable def zn9(lo hi:Int)(q:Pair):Bool:=(match q.1 with |none=>true |some a=>decide (a<=lo))&&(match q.2 with |none=>true |some b=>decide (hi<=b))
def zI4{i:Nat}(h:ps[i]?=some q)(J:R (xU q)):KM (xB ps) (.int i) R:=by
 unfold xB;rw[QE]
 exact⟨_,qM (by rw[zy,h];rfl),J⟩
structure JPn(b:List Span)(n i:Nat)(rho:Rho)(m:Nat):Prop where
 e:m=n
 u:∀(k:Nat) s,k<i->b[k]?=some s->wP (Yj s)=false
 r:∃(x y z u:Option D),rho=[some (vW b),some (.own (((b.take i).map Yj).map xU)),x,y,z,u]
def VQ{α β:Type}{f:α->β}{xs:List α}{i:Nat}{x:α}(h:xs[i]?=some x):(xs.take (i+1)).map f=(xs.take i).map f++[f x]:=by
 rw[xE,h];simp
structure JIn(dd:D)(bd pl:Qqe)(n i:Nat)(rho:Rho)(m:Nat):Prop where
 e:m=n
 u:∀(k:Nat) lo hi q,k<i->bd[k]?=some (some lo,some hi)->pl[k]?=some q->zn9 lo hi q=true
 r:∃(x y z u:Option D),rho=[some dd,some (xB pl),x,y,z,u]
section
variable {P:Qq3}{w:Qqa}{K:Qq5}{mg:QqM}{base:Heap}{f:Addr}{fd:Qqb}
abbrev jS:Stmt:=top 41
noncomputable abbrev Qg:List Str:=["_law_box_here","_law_pairs","_law_low","_law_high","_law_least","_law_greatest"]
def kq:FnScope Qg ["_law_box_here"] (xm jS):=⟨rfl,rfl,rfl,w5,rfl,w5,w5⟩
def VW:TF:=λds n Q=>∃b:List Span,ds=[vW b]/\1<=b.length/\b.length<=900/\Q (xB (kY b)) n
def zu1(T:Blt mg)(F:Fun K "_law_plain" "_law_plain" jS f fd):FnOk P w K mg base CX0 1 f fd ["_law_box_here"] (spD K 1 VW):=by
 refine Fun.okD F kq (λah A0 outer s H E G Z hr=>(zI (Wm (i:=1) kq.nd rfl (lo rfl) zi)
  (zI (qc (m:=6) PassesOwn.never rfl (vq rfl (zh 0)) (vS (k:=2) rfl rfl (xt (xh (i:=2) kq.nd rfl (lo rfl) q9) (xt (xh (i:=3) kq.nd rfl (lo rfl) q9) vh)))
  (zI (yo (i:=4) kq.nd rfl (lo rfl) (KU (yj jY jV (zh 2) vN (yE _)) vN (km (yG wu yF (zh 2) zA (λ_ _=>rfl)) (yr WP za7 T.int zC0 (zc (zQ2 (yG wu yF (zh 2) zA (λ_ _=>rfl))) zi)))))
  (zI (yo (i:=5) kq.nd rfl (lo rfl) (KU (yj jY jV (zh 3) vN (yE _)) vN (jI (yG wu yF (zh 3) zA (λ_ _=>rfl)) (yr WP za7 T.int zC0 (zc (zQ2 (yG wu yF (zh 3) zA (λ_ _=>rfl))) zi)))))
  (zI (kj (PWD.pt (Yd (yj Xb YY (zh 4) vN (yE _)) (Yd (yj Xb YY (zh 5) vN (yE _)) (Zs (yj UC Uq (zh 4) (zh 5) (yE _)))))) (zZ (xQ (Wn zt5 zq9 (yU (zc (yU (zc zA (zc zA zi))) zi)) (wc wA qa T.len kK (zc (zh 0) zi))))) yT)
  (zZ (qd (i:=1) (zc (yU (zc (zh 4) (zc (zh 5) zi))) zi) rfl))))))
  (zZ (Yi 1 (xQ (yr wo vL T.tuple vM (zc (zh 1) zi)))))))) ?_
 generalize ad:Qi (sIf _ _ _) _=S2;generalize ae:Qi (zq3 5 _) _=S1;rintro ds n Q hl ⟨b,rfl,ag,af,q⟩;have nb:wj (vW b)=true:=id rfl;simp[startD,nb]
 refine⟨b.map ja,.inr rfl,JPn b n,⟨rfl,λk s hk=>by lia,_,_,_,_,rfl⟩,?_,?_⟩
 ·rintro i d rho m e ⟨rfl, hu, x, y, z, u, rfl⟩;rw[zy] at e
  cases h:b[i]? with
  |none=>rw[h] at e;cases e
  | some s =>
   rw[h] at e;cases e;have hi:i<b.length:=(zu.mp h).1
   have J:(((b.take i).map Yj).map xU).length<sizeLine:=by
    rw[zf,zf,xr]
    exact lt_size q5
   have key:∀x y z u:Option D,wP (Yj s)=false->JPn b m (i+1) [some (vW b),some (.own (((b.take i).map Yj).map xU++[xU (Yj s)])),x,y,z,u] m:=λx y z u hc=>by
    refine⟨rfl,λk s' hk e=>?_,x,y,z,u,?_⟩
    ·by_cases ac : k = i
     ·subst ac;rw[h] at e;cases e;exact hc
     ·exact hu k s' q5 e
    ·rw[VQ h,zS];rfl
   have aa:wP (Yj s)=true->Q (.tup (replicate b.length (.tup [.int 1,.int 0]))) m:=λhc=>by
    have ha:(b.map Yj).any wP=true:=List.any_eq_true.mpr ⟨_,zo.mpr ⟨s,zV h,rfl⟩,hc⟩;unfold kY at q;rw[ZO ha,zf] at q;unfold xB at q;rw[List.map_replicate] at q;exact q
   have rep:∀R:D->Prop,R (.tup (replicate b.length (.tup [.int 1,.int 0])))->zL8 [vW b] λd2=>zr1 (.tup [.tup [.int 1,.int 0]]) d2 R:=λR hR=>by
    refine Us.mpr (zG4.mpr ⟨by simp,by rw[zf];lia,?_,?_⟩)
    ·rw[zf];exact yk (by simp;lia)
    ·rw [zf]
     have:((replicate ((b.length:Int).toNat) [D.tup [.int 1,.int 0]]).flatten)=replicate b.length (.tup [.int 1,.int 0]):=by
      rw[yA,List.flatten_replicate_singleton]
     rw[this];exact hR
   clear q hl;generalize ((b.take i).map Yj).map xU=acc at J key ⊢
   have W:∀(F:EndsD) (x y:Option D) (l g:Option Int),F.nx=JPn b m (i+1)->F.rt=Q->Yj s=(l,g)->S2 F [some (vW b),some (.own acc),x,y,some (Vm l),some (Vm g)] m:=λF x y l g h1 h2 h3=>by
    subst ad;rw[h3] at key aa
    rcases l with _ |l
    ·have ng : wj (Vm g) = true := by cases g <;> rfl
     simp[nb,h1,ng];exact⟨J,key _ _ _ _ rfl⟩
    ·rcases g with _ | g
     ·simp[nb,h1];exact⟨J,key _ _ _ _ rfl⟩
     ·simp [nb, h1, h2]
      split
      ·rename_i hh;exact rep _ (aa (xI hh))
      ·rename_i hh;exact⟨J,key _ _ _ _ (xn hh)⟩
   have Y:∀(F:EndsD) (x u:Option D) (l:Option Int),F.nx=JPn b m (i+1)->F.rt=Q->Jv s.1=l->S1 F [some (vW b),some (.own acc),x,some (qJ s.2),some (Vm l),u] m:=λF x u l h1 h2 h3=>by
    subst ae
    have r2:=fun(g:Option Int) (e:zg8 s.2=g)=>W F x (some (qJ s.2)) l g h1 h2 (by unfold Yj;rw[h3,e])
    generalize s.2=t at r2 ⊢
    rcases t with _ |⟨c,s2⟩
    ·simp;exact r2 _ rfl
    ·cases s2<;>(simp;exact r2 _ rfl)
   have r1:=fun(F:EndsD) (x u:Option D) (l:Option Int) h1 h2 (e:Jv s.1=l)=>Y F x u l h1 h2 e;have nt:=Wr s.2;unfold ja;generalize s.1=t at r1 ⊢;generalize qJ s.2=eh at nt r1 ⊢;clear Y W key aa rep
   rcases t with _ |⟨a,s1⟩
   ·simp[nb,nt];exact r1 _ _ _ _ rfl rfl rfl
   ·cases s1<;>(simp[nb,nt];exact r1 _ _ _ _ rfl rfl rfl)
 ·rintro rho m ⟨rfl, hu, x, y, z, u, rfl⟩;rw[zf,wW]
  have ha:¬ (b.map Yj).any wP=true:=λhc=>by
   obtain⟨k,p,e,hp⟩:=JY.mp hc;rw[zy] at e
   cases h:b[k]? with
   |none=>rw[h] at e;cases e
   |some s=>
    rw[h] at e;cases e
    rw[hu k s (by rw[zf];exact(zu.mp h).1) h] at hp
    cases hp
  unfold kY at q;rw[jl ha] at q;unfold xB at q;rw[zK] at q;simp;exact q
def zc7(bd pl:Qqe):Prop:=pl[0]?≠some emptyP/\∀(i:Nat) lo hi q,bd[i]?=some (some lo,some hi)->pl[i]?=some q->zn9 lo hi q=true
abbrev jr:Stmt:=top 42
noncomputable abbrev Kg:List Str:=["_law_edges","_law_plain_here","_law_low","_law_high","_law_least","_law_greatest"]
def kC:FnScope Kg ["_law_edges","_law_plain_here"] (xm jr):=⟨rfl,rfl,rfl,w5,rfl,w5,w5⟩
def Wa:TF:=λds n Q=>∃(J:D) (bd pl:Qqe),ds=[J,xB pl]/\(J=xB bd\/J=.lst (bd.map xU))/\bd.length=pl.length/\1<=bd.length/\pl.length<=400/\zT0 bd/\(zc7 bd pl->Q (.bl true) n)/\(¬ zc7 bd pl->Q (.bl false) n)
def zk7(T:Blt mg)(F:Fun K "_law_inside" "_law_inside" jr f fd):FnOk P w K mg base CX0 1 f fd ["_law_edges","_law_plain_here"] (spD K 2 Wa):=by
 refine Fun.okD F kC (λah A0 outer s H E G Z hr=>(zI (kj (yj (zt7 hr) (zr0 rfl) (yG wu yF (zh 1) zA (λ_ _=>rfl)) (yU (zc zA (zc zA zi))) (yE _)) (zZ (xQ XB)) yT)
  (zI (qc (m:=6) PassesOwn.never rfl (Ux rfl T.zip (zc (zh 0) (zc (zh 1) zi))) (vS (k:=2) rfl rfl (xt (vS (k:=2) rfl rfl (xt (xh (i:=2) kC.nd rfl (lo rfl) q9) (xt (xh (i:=3) kC.nd rfl (lo rfl) q9) vh))) (xt (vS (k:=2) rfl rfl (xt (xh (i:=4) kC.nd rfl (lo rfl) q9) (xt (xh (i:=5) kC.nd rfl (lo rfl) q9) vh))) vh)))
  (zZ (kj (PWD.pt (ze0 (PWD.pt (Yd (yj Xb YY (zh 4) vN (yE _)) (Zs (yj xj2 xf7 (zh 2) (zh 4) (yE _))))) (Ut (PWD.pt (Yd (yj Xb YY (zh 5) vN (yE _)) (Zs (yj UC Uq (zh 3) (zh 5) (yE _)))))))) (zZ (xQ XB)) yT)))
  (zZ (xQ XB))))) ?_
 rintro ds n Q hl ⟨dd,bd,pl,rfl,ac,af,h1,hz,hE,hy,hn⟩
 have ad:wj dd=true:=by rcases ac with rfl |rfl<;>rfl
 have aa:pl[0]?=some pl[0]:=zd q5
 have e1:(D.tup [.int 1,.int 0])=xU emptyP:=rfl
 have Y:∀R:List D->Prop,R (Kh (bd.map xU) (pl.map xU))->zR2 [dd,xB pl] R:=λR h=>by
  rcases ac with rfl |rfl
  ·exact(ZD (d1:=xB bd) (d2:=xB pl) rfl rfl).mpr h
  ·exact(ZD (d1:=.lst (bd.map xU)) (d2:=xB pl) rfl rfl).mpr h
 simp[startD,ad];refine zI4 (i:=0) aa ?_;rw[e1,zM8];refine⟨zf4 _ 19,zf4 _ 19,?_⟩
 by_cases J:pl[0]=emptyP
 ·rw [xI J];simp
  exact hn λI=>I.1 (by rw[aa,J])
 rw[xn J]
 have hne':pl[0]?≠some emptyP:=λe=>J (by rw[aa] at e;exact zD e)
 simp;refine Y _ ?_;rw[zO3]
 refine⟨JIn dd bd pl n,⟨rfl,λk lo hi q hk=>by lia,_,_,_,_,rfl⟩,?_,?_⟩
 ·rintro i d rho m e ⟨rfl, hu, x, y, z, u, rfl⟩;rw[zy] at e
  cases h:(bd.zip pl)[i]? with
  |none=>rw[h] at e;cases e
  | some c =>
   rw[h] at e;cases e;obtain⟨bp,q0⟩:=c;obtain⟨h2,h3⟩:=List.getElem?_zip_eq_some.mp h;obtain⟨lo,hi,rfl,ag⟩:=hE i _ h2
   have key:∀x y z u:Option D,zn9 lo hi q0=true->JIn dd bd pl m (i+1) [some dd,some (xB pl),x,y,z,u] m:=λx y z u hc=>by
    refine⟨rfl,λk lo' hi' q' hk g1 g2=>?_,x,y,z,u,rfl⟩
    by_cases ae:k=i
    ·subst ae;rw[h2] at g1;rw[h3] at g2;cases g1;cases g2;exact hc
    ·exact hu k lo' hi' q' q5 g1 g2
   have W:zn9 lo hi q0=false->Q (.bl false) m:=λhb=>hn λI=>by rw[I.2 i lo hi q0 h2 h3] at hb;cases hb
   clear hy hn Y;obtain⟨a,b⟩:=q0
   rcases a with _ |a<;>rcases b with _ |b
   ·simp[xU];exact key _ _ _ _ rfl
   ·simp [xU]
    split
    ·rename_i hh
     exact W (by simp[zn9];lia)
    ·rename_i hh
     exact key _ _ _ _ (by simp[zn9];lia)
   ·simp [xU]
    split
    ·rename_i hh
     exact W (by simp[zn9];lia)
    ·rename_i hh
     exact key _ _ _ _ (by simp[zn9];lia)
   ·simp [xU]
    split
    ·rename_i hh
     exact W (by simp[zn9];lia)
    ·split
     ·rename_i hh
      exact W (by simp[zn9];lia)
     ·exact key _ _ _ _ (by simp[zn9];lia)
 ·rintro rho m ⟨rfl, hu, x, y, z, u, rfl⟩;simp
  exact hy ⟨hne',λk lo hi q' g1 g2=>hu k lo hi q' (by
   rw[zf,length_zip];have a1:=(zu.mp g1).1
   lia) g1 g2⟩
abbrev ZX:Stmt:=top 46
abbrev zc4:List Str:=["_law_found","_law_due"]
def KD:FnScope zc4 xA1 (xm ZX):=⟨rfl,rfl,rfl,w5,rfl,w5,w5⟩
def VV:TF:=λds n Q=>∃a:D,ds=[a,a]/\wj a=true/\okE a 20=true/\xB4 a/\Q (.bl true) n
def zI9(T:Blt mg)(T3:Blt3 mg)(F:Fun K "_law_same" "_law_same" ZX f fd):FnOk P w K mg base CX0 1 f fd xA1 (spD K 2 VV):=by
 refine Fun.okD F KD (λad A0 outer s H E G Z Y=>(zZ (xQ (zt2 (Vx (zt7 Y) (zr0 rfl) (zh 0) (zh 1) (yE _)) (zQ1 (Vx (zt7 Y) (zr0 rfl) (wc (VN Y) (zh7 rfl) T3.repr zB8 (zc (zh 0) zi)) (wc (VN Y) (zh7 rfl) T3.repr zB8 (zc (zh 1) zi)) (yE _))))))) ?_;rintro ds n Q hl ⟨a,rfl,na,W,aa,q⟩;have es:eqD a a=true:=UT W;have J:∀x:Str,okE (.str x) 20=true:=λx=>rfl;have ac:∀x:Str,eqD (.str x) (.str x)=true:=λx=>UT (J x);simp[startD,na,W,es,aa,J,ac];exact q
end
def Jz(x:Int)(q:Pair):zn9 x x q=liesT q.1 q.2 x:=by
 obtain⟨a,b⟩:=q
 rcases a with _ |a<;>rcases b with _ |b<;>rfl
def zG8(p:Qq4):List Pair:=p.map λx=>(some x,some x)
def zP6{p:Qq4}{i:Nat}{x:Int}(h:p[i]?=some x):(zG8 p)[i]?=some (some x,some x):=by unfold zG8;rw[zy,h];rfl
def zG7(p:Qq4):zT0 (zG8 p):=λi b J=>by
 unfold zG8 at J;rw[zy] at J
 cases h:p[i]? with
 |none=>rw[h] at J;cases J
 |some x=>rw[h] at J;cases J;exact⟨x,x,rfl,yR _⟩
def VG{p:Qq4}{pl:Qqe}(Y:p.length=pl.length)(h1:1<=p.length):zc7 (zG8 p) pl↔YH pl p=true:=by
 constructor
 ·intro I;refine Zf.mpr λi q x J hx=>?_;rw[<- Jz];exact I.2 i x x q (zP6 hx) J
 ·intro h;refine⟨λe=>?_,λi lo hi q W J=>?_⟩
  ·have hx:p[0]?=some p[0]:=zd h1;have z:=Zf.mp h 0 _ _ e hx;simp[emptyP,liesT] at z;lia
  ·obtain⟨x,hx⟩:=WT (r:=p) Y.symm J;rw[zP6 hx] at W;cases W;rw[Jz];exact Zf.mp h i q _ J hx
section
variable {P:Qq3}{w:Qqa}{K:Qq5}{mg:QqM}{base:Heap}{f:Addr}{fd:Qqb}
abbrev Yc:Stmt:=top 43
abbrev Yw:List Str:=["_law_plain_here","_law_place"]
def KG:FnScope Yw xA0 (xm Yc):=⟨rfl,rfl,rfl,w5,rfl,w5,w5⟩
def Vg:("_law_number_here" :: Yw:Qq2).Nodup:=w5
def Qp:TF:=λds n Q=>∃(pl:Qqe) (p:Qq4),ds=[xB pl,wz p]/\p.length=pl.length/\1<=p.length/\p.length<=400/\Q (.bl (YH pl p)) n
def zJ0(F:Fun K "_law_fits" "_law_fits" Yc f fd)(Y_inside:Fn P w K mg base "_law_inside" 1 2 Wa):FnOk P w K mg base CX0 2 f fd xA0 (spD K 2 Qp):=by
 refine Fun.okD F KG (λaa A0 outer s H E G Z hr=>(zZ (xQ (wy Y_inside (hr.mono q9) rfl (zc (vO (own:=["_law_number_here"]) (M:=Yw) (vX (by rfl)) rfl (vq rfl (zh 1)) (λC W H2 fp=>(xh (i:=0) Vg rfl (lo rfl) q9)) (λC W H2 fp=>yz) (λC W H2 fp=>(yU (zc (zh 0) (zc (zh 0) zi))))) (zc (zh 0) zi)))))) ?_
 rintro ds n Q hl ⟨pl,p,rfl,J,h1,hz,q⟩;have Y:wj (wz p)=true:=id rfl;simp[startD,Y]
 refine⟨p.map D.int,.inr rfl,wK D.int (λx=>xU (some x,some x)) p (yk q5) (λx hx R hR=>?_) ?_⟩
 ·simp;exact hR
 ·refine ⟨_, zG8 p, pl, rfl, .inr (by unfold zG8; rw [zK]; rfl), by unfold zG8; rw [zf]; exact J, by unfold zG8; rw [zf]; exact h1, by lia, zG7 p, λI => ?_, λI => ?_⟩
  ·rw[(VG J h1).mp I] at q;exact q
  ·cases c : YH pl p with
   |true=>exact absurd ((VG J h1).mpr c) I
   |false=>rw[c] at q;exact q
end
def xb1(k:QqP):D:=.tup [.int k.1,.int k.2]
@[simp] theorem xs1(k:QqP):wj (xb1 k)=true:=id rfl
section
variable {P:Qq3}{w:Qqa}{K:Qq5}{mg:QqM}{base:Heap}{f:Addr}{fd:Qqb}
abbrev jR:Stmt:=top 44
abbrev Zp:List Str:=["_law_edges","_law_place"]
def Ug:FnScope Zp xz9 (xm jR):=⟨rfl,rfl,rfl,w5,rfl,w5,w5⟩
def qF:("_law_low" :: "_law_high" :: "_law_number_here" :: Zp:Qq2).Nodup:=w5
def VU:TF:=λds n Q=>∃(J:D) (pl:Qq4) (bd:List (Int × Int)),ds=[J,wz pl]/\(J=xB (bd.map Qk)\/J=.lst ((bd.map Qk).map xU))/\pl.length<=1000/\Q (.int (qj bd pl)) n
def zu0(T:Blt mg)(T2:Blt2 mg)(F:Fun K "_law_steps" "_law_steps" jR f fd):FnOk P w K mg base CX0 1 f fd xz9 (spD K 2 VU):=by
 refine Fun.okD F Ug (λaa A0 outer s H E G Z hr=>(zZ (xQ (wc (zi1 rfl) zS6 T2.sum zS8 (zc (vO (own:=["_law_low","_law_high","_law_number_here"]) (M:=Zp) (vX (by rfl)) rfl (Ux rfl T.zip (zc (zh 0) (zc (zh 1) zi))) (λC W H2 fp=>(vS (k:=2) rfl rfl (xt (vS (k:=2) rfl rfl (xt (xh (i:=0) qF rfl (lo rfl) q9) (xt (xh (i:=1) qF rfl (lo rfl) q9) vh))) (xt (xh (i:=2) qF rfl (lo rfl) q9) vh)))) (λC W H2 fp=>yz) (λC W H2 fp=>(wc (JO rfl) zA7 T.max WQ (zc zA (zc (jI (zh 0) (zh 2)) (zc (jI (zh 2) (zh 1)) zi)))))) zi))))) ?_
 rintro ds n Q hl ⟨Y,pl,bd,rfl,J,hz,q⟩
 have ez:Kh ((bd.map Qk).map xU) (pl.map D.int)=(bd.zip pl).map λz=>.tup [xU (Qk z.1),.int z.2]:=by
  unfold Kh;rw[zK,List.zipWith_map,vm];rfl
 have nd:wj Y=true:=by rcases J with rfl |rfl<;>rfl
 have np:wj (wz pl)=true:=id rfl
 have kz:∀R:List D->Prop,R (Kh ((bd.map Qk).map xU) (pl.map D.int))->zR2 [Y,wz pl] R:=λR h=>by
  rcases J with rfl |rfl
  ·exact(ZD (d1:=xB (bd.map Qk)) (d2:=wz pl) rfl rfl).mpr h
  ·exact(ZD (d1:=.lst ((bd.map Qk).map xU)) (d2:=wz pl) rfl rfl).mpr h
 simp[startD,nd,np];refine kz _ ?_;rw[ez]
 refine wK (λz:(Int × Int) × Int=>.tup [xU (Qk z.1),.int z.2]) (λz=>.int (Zz z.1 z.2)) (bd.zip pl) (zG (by rw[length_zip];lia) (yk (k:=1000) q5)) (λz hz R hR=>?_) ?_
 ·simp[xU,Qk];exact hR
 ·have e : ((bd.zip pl).map λz : (Int × Int) × Int => D.int (Zz z.1 z.2)) = ((bd.zip pl).map λz => Zz z.1 z.2).map D.int := by
   rw[zK];rfl
  exact⟨(bd.zip pl).map (λz:(Int × Int) × Int=>Zz z.1 z.2),by rw[e],q⟩
end
def zp6{x:Int}(h1:small p.1)(h2:small p.2)(hx:zl2 x):0<=Zz p x/\Zz p x<=200000000000000002/\zD2 1002 (Zz p x):=by
 obtain⟨⟨a1,a2⟩,a,e,ha,ad,ac⟩:=h1;obtain⟨⟨b1,b2⟩,b,f,hb,aa,Y⟩:=h2;obtain⟨⟨c1,c2⟩,c,g,W,J,hc2⟩:=hx;unfold Zz;generalize p.1=u at *;generalize p.2=v at *
 refine⟨q5,q5,?_⟩
 have:max 0 (max (u-x) (x-v))=0\/max 0 (max (u-x) (x-v))=u-x\/max 0 (max (u-x) (x-v))=x-v:=by clear ha hb W;lia
 rcases this with h |h |h
 ·rw[h];exact⟨0,0,q5,q5,q5⟩
 ·rw[h];exact⟨a-c,e-g,q5,q5,q5⟩
 ·rw[h];exact⟨c-b,g-f,q5,q5,q5⟩
theorem Vp:∀{bd:List (Int × Int)}{pl:Qq4},(∀p∈bd,small p.1/\small p.2)->(∀x∈pl,zl2 x)->0<=qj bd pl/\qj bd pl<=200000000000000002*bd.length/\zD2 (1002*bd.length) (qj bd pl)
 |[],pl,_,_=>⟨yR _,yR _,0,0,rfl,by simp,by simp⟩
 |p::bd,[],_,_=>by
  have e:qj (p::bd) []=0:=rfl;rw[e,zP]
  exact⟨q5,q5,0,0,q5,q5,q5⟩
 |p::bd,x::pl,h1,h2=>by
  obtain⟨i1,i2,a,e,h3,h4,h5⟩:=Vp (bd:=bd) (pl:=pl) (λq Y=>h1 q (zk _ Y)) λy W=>h2 y (zk _ W)
  obtain⟨s1,J⟩:=h1 p (by simp)
  obtain⟨j1,j2,b,f,g3,g4,g5⟩:=zp6 s1 J (h2 x (by simp))
  rw[ZM,zP]
  exact⟨q5,q5,a+b,e+f,q5,q5,q5⟩
def zL5{d:Nat}{kd:QqO}{ts:Qqd}(hd:d<=4)(h1:1<=ts.length)(Y:∀t∈ts,t.2.1.length=d/\(∀x∈t.2.1,small x)/\worth t.2.2)(hk:∀pl,kd=some pl->∀x∈pl,zl2 x):FormK (Xh d kd ts):=by
 cases kd with
 | some pl =>
  have W:∀(i:Nat) (x:Int),i<d->x∈zh9 ts i->small x:=λi x hi hx=>by
   rw[WN] at hx;obtain⟨t,ht,rfl⟩:=zo.mp hx;obtain⟨l1,l2,_⟩:=Y t ht
   rw[zd (show i<t.2.1.length by lia)]
   exact l2 _ (wZ _)
  have h:=Vp (bd:=bdI d ts) (pl:=pl) (λp J=>by
   unfold bdI at J;obtain⟨i,hi,rfl⟩:=zo.mp J;have hi':=vv.mp hi
   exact⟨W i _ hi' (QY h1),W i _ hi' (za1 h1)⟩) (hk pl rfl)
  rw[WS] at h;obtain⟨i1,i2,a,e,h3,h4,h5⟩:=h;show FormK (qj (bdI d ts) pl);generalize qj (bdI d ts) pl=s at *
  exact⟨⟨a,e,q5,q5,q5⟩,q5,q5⟩
 |none=>
  have a:=(qH (qg (ns:=ts.map λt=>t.2.2) (by rw[zf];exact h1))).1
  obtain⟨t,ht,e⟩:=zo.mp a;obtain⟨_,_,⟨i1,i2⟩,b,f,h3,h4,h5⟩:=Y t ht;show FormK (- Vi _);rw[<- e];generalize t.2.2=s at *
  exact⟨⟨-b,-f,q5,q5,q5⟩,q5,q5⟩
def xa7{d:Nat}(Y:GoodT d hs 2000)(hd:d<=4)(hk:∀pl,kd=some pl->∀x∈pl,zl2 x):zD1 d kd hs:=λls us h1 h2 l1 l2 J=>by
 have f:∀l:List Thing,(∀t∈l,t∈hs)->1<=l.length->FormK (Xh d kd l)/\0<=vP l/\vP l<2000:=λl W h=>by
  obtain⟨t,ht,e⟩:=kc h;have g:=Y.each t (W t ht)
  exact⟨zL5 hd h (λt ht=>(Y.each t (W t ht)).2.2) hk,q5,q5⟩
 obtain⟨a1,a2,a3⟩:=f ls h1 l1;obtain⟨b1,b2,b3⟩:=f us h2 l2;exact zy0 a1 b1 a2 a3 b2 b3 J
def ptI(p:Qq4):List (Int × Int):=p.map λx=>(x,x)
noncomputable def zX5(kd:QqO)(t:Thing):Int:=match kd with
 |some pl=>qj (ptI t.2.1) pl
 |none=>0-t.2.2
def xc0{t:Thing}{i:Nat}:zh9 [t] i=[t.2.1[i]?.getD 0]:=by rw[WN];rfl
def xc5{d:Nat}{t:Thing}(Y:t.2.1.length=d):bdI d [t]=ptI t.2.1:=by
 refine ext_getElem? λi=>?_
 by_cases hi:i<d
 ·rw [zC2 [t] hi];unfold ptI
  rw[zy,zd (show i<t.2.1.length by lia)]
  have W:=QY (ts:=[t]) (i:=i) (by simp)
  have J:=za1 (ts:=[t]) (i:=i) (by simp)
  rw[xc0,zE,zd (show i<t.2.1.length by lia)] at W J
  rw[W,J];rfl
 ·rw[List.getElem?_eq_none (by rw[WS];lia),List.getElem?_eq_none (by unfold ptI;rw[zf];lia)]
def zX4{d:Nat}{kd:QqO}{t:Thing}(J:t.2.1.length=d):Xh d kd [t]=zX5 kd t:=by
 cases kd with
 |some pl=>
  show qj (bdI d [t]) pl=_;rw[xc5 J];rfl
 | none =>
  have e:t.2.2=Vi ([t].map λt:Thing=>t.2.2):=UK (by simp) λa ha=>by
   rw[show [t].map (λt:Thing=>t.2.2)=[t.2.2] from rfl,zE] at ha;lia
  show-Vi _=0-t.2.2;rw[<- e];lia
def zg2{d:Nat}{kd:QqO}{t:Thing}(J:t.2.1.length=d):yH d kd [t]=(zX5 kd t,t.1):=by
 unfold yH;rw[zX4 J,Xg]
def xu4(kd:QqO)(t:Thing):SRow:=⟨.n (zX5 kd t),t.1,[]⟩
def zM5{pl:Qqe}{ts:Qqd}{i:Nat}{t:Thing}(h:ts[i]?=some t):ZA pl (ts.take (i+1))=ZA pl (ts.take i)++(if YH pl t.2.1=true then [t] else []):=by
 unfold ZA;rw[xE,h,filter_append]
 congr 1
 show List.filter _ [t]=_
 cases ha:YH pl t.2.1<;>simp[ha]
structure JRk(d:Nat)(hs:Qqd)(pl:Qqe)(kd:QqO)(n i:Nat)(rho:Rho)(m:Nat):Prop where
 e:m=n
 r:∃a b c:Option D,rho=[some (wU d hs),some (xB pl),some (kg kd),some (.own ((ZA pl (hs.take i)).map λt=>xb1 (zX5 kd t,t.1))),a,b,c]
section
variable {P:Qq3}{w:Qqa}{K:Qq5}{mg:QqM}{base:Heap}{f:Addr}{fd:Qqb}
abbrev Yb:Stmt:=top 37
abbrev Yv:List Str:=["_law_left_here","_law_house_here","_law_place"]
def Xs:FnScope Yv qZ2 (xm Yb):=⟨rfl,rfl,rfl,w5,rfl,w5,w5⟩
def Vf:("_law_i" :: Yv:Qq2).Nodup:=w5
def zo9:TF:=λds n Q=>∃(d:Nat) (ts:Qqd),ds=[.st,wU d ts]/\n=3/\d<=4/\GoodT d ts 2000/\ts.length<=256/\∀kd:Option (List Int),(∀pl,kd=some pl->pl.length=d/\∀x∈pl,zl2 x)->Q (kg kd) 3
def zX9(T:Blt mg)(F:Fun K "_law_kind" "_law_kind" Yb f fd)(Y_pick:Fn P w K mg base "_law_pick" 1 2 jL)(Y_number:Fn P w K mg base "_law_number" 2 3 Yy):FnOk P w K mg base CX0 3 f fd qZ2 (spD K 2 zo9):=by
 refine Fun.okD F Xs (λac A0 outer s H E G Z hr=>(zI (yo (i:=2) Xs.nd rfl (lo rfl) (yr wo vL T.tuple vM (zc (vO (own:=["_law_i"]) (M:=Yv) (vX (by rfl)) rfl (qW T.range (zc (yG wu yF (zh 1) zA (λ_ _=>rfl)) zi)) (λ_ _ _ _=>(xh (i:=0) Vf rfl (lo rfl) q9)) (λ_ _ _ _=>yz) (λ_ _ _ _=>(wy Y_number (hr.mono q9) rfl (zc (zh 1) (zc (zh 2) (zc (zh 0) zi)))))) zi)))
  (zZ (xQ (yG wu yF (kr (zc (yU (zc KQ zi)) (zc (yU (zc KQ (zc (zh 2) zi))) (zc (yU (zc KQ (zc (zh 2) zi))) zi)))) (wy Y_pick (hr.mono q9) rfl (zc (zh 0) (zc zA zi))) (λ_ _=>rfl)))))) ?_
 rintro ds n Q hl ⟨d,ts,rfl,rfl,aa,hg,hz,q⟩;have nh:=kO d ts;simp[startD,nh]
 refine zg6 ⟨d,rfl,q5,q5,?_⟩
 refine WM (zd7 0 d) 3 (λ_ e=>∃x:Int,zl2 x/\e=.int x) (by rw[qE];exact yk q5) (λj d2 e2 Q' hQ'=>?_) (λes hp=>?_)
 ·obtain⟨hj,rfl⟩:=Wh e2;simp[nh];exact jZ hj hg hz λx hx=>hQ' _ ⟨x,hx,rfl⟩
 ·have J := hp.length;rw[qE] at J;obtain⟨ps,rfl,Y⟩:=qS hp;rw[zf] at J;simp
  refine xO q9 q9 λk g0 g1=>zP9 g0 (by simpa using g1) λdd W=>?_
  have hq:=q (some ps) λpl e=>by cases e;exact⟨q5,Y⟩
  simp only[zn,xb,or_false] at W
  rcases W with rfl |rfl |rfl
  ·exact q none λpl e=>by cases e
  ·exact hq
  ·exact hq
abbrev jp:Stmt:=top 45
noncomputable abbrev jE:List Str:=["_law_house_here","_law_plain_here","_law_kind_here","_law_keys","_law_name","_law_place","_law_worth"]
def kB:FnScope jE xz6 (xm jp):=⟨rfl,rfl,rfl,w5,rfl,w5,w5⟩
def XC:("_law_one" :: jE:Qq2).Nodup:=w5
def jJ:("_law_far" :: "_law_name" :: ["_law_house_here","_law_plain_here","_law_kind_here","_law_keys","_law_name'","_law_place","_law_worth"]:Qq2).Nodup:=w5
def VS:TF:=λds n Q=>∃(d:Nat) (hs:Qqd) (pl:Qqe) (kd:QqO),ds=[wU d hs,xB pl,kg kd]/\1<=d/\d<=400/\pl.length=d/\(∀t∈hs,t.2.1.length=d)/\(hs.map λt=>t.1).Nodup/\hs.length<=256/\(∀p,kd=some p->p.length<=1000)/\∀rs:List Thing,rs.Perm (ZA pl hs)->rs.Pairwise (ltK d kd)->Q (.lst (rs.map λt=>.int t.1)) n
def zt8(T:Blt mg)(F:Fun K "_law_ranked" "_law_ranked" jp f fd)(Y_fits:Fn P w K mg base "_law_fits" 2 2 Qp)(Y_steps:Fn P w K mg base "_law_steps" 1 2 VU):FnOk P w K mg base CX0 3 f fd xz6 (spD K 3 VS):=by
 refine Fun.okD F kB (λah A0 outer s H E G Z hr=>(zI (Wm (i:=3) kB.nd rfl (lo rfl) zi)
  (zI (qc (m:=7) PassesOwn.never rfl (vq rfl (yG wu yF (zh 0) zA (λ_ _=>rfl))) (vS (k:=3) rfl rfl (xt (xh (i:=4) kB.nd rfl (lo rfl) q9) (xt (xh (i:=5) kB.nd rfl (lo rfl) q9) (xt (xh (i:=6) kB.nd rfl (lo rfl) q9) vh))))
  (zZ (kj (Ye (wy Y_fits (hr.mono q9) rfl (zc (zh 1) (zc (zh 5) zi)))) (zZ (qd (i:=3) (zc (yU (zc (KU (yj UD Ur (yG wu yF (zh 2) zA (λ_ _=>rfl)) KQ (yE _)) (jI zA (zh 6)) (wy Y_steps (hr.mono q9) rfl (zc (vO (own:=["_law_one"]) (M:=jE) (vX (by rfl)) rfl (vq rfl (zh 5)) (λ_ _ _ _=>(xh (i:=0) XC rfl (lo rfl) q9)) (λ_ _ _ _=>yz) (λ_ _ _ _=>(yU (zc (zh 0) (zc (zh 0) zi))))) (zc (yG wu yF (zh 2) zA (λ_ _=>rfl)) zi)))) (zc (zh 4) zi))) zi) rfl)) yT)))
  (zZ (Yi 3 (xQ (vO (own:=["_law_far","_law_name"]) (M:=["_law_house_here","_law_plain_here","_law_kind_here","_law_keys","_law_name'","_law_place","_law_worth"]) (vX (by rfl)) rfl (vq rfl (wc (Xo hr) (UY rfl) T.sorted jg (zc (zh 3) zi))) (λ_ _ _ _=>(vS (k:=2) rfl rfl (xt (xh (i:=0) jJ rfl (lo rfl) q9) (xt (xh (i:=1) jJ rfl (lo rfl) q9) vh)))) (λ_ _ _ _=>yz) (λ_ _ _ _=>(zh 1))))))))) ?_
 generalize hS:xp8 3 _=Sr;rintro ds n Q hl ⟨d,hs,pl,kd,rfl,ag,af,ad,Y,hn,hz,hk,q⟩;have nh:=kO d hs;simp[startD,nh];refine zg5 ?_;simp;refine⟨JRk d hs pl kd n,⟨rfl,_,_,_,rfl⟩,?_,?_⟩
 ·rintro i dd rho m e ⟨rfl, a, b, c, rfl⟩;clear hS;rw[zy] at e
  cases ht:hs[i]? with
  |none=>rw[ht] at e;cases e
  | some t =>
   rw[ht] at e;cases e;have hm:=zV ht;have hi:i<hs.length:=(zu.mp ht).1;have ac:=Y t hm;have np:wj (wz t.2.1)=true:=id rfl;have W:=zM5 (pl:=pl) ht
   have hsz:(ZA pl (hs.take i)).length<sizeLine:=by
    have h1:(ZA pl (hs.take i)).length<=(hs.take i).length:=yM ..;rw[xr] at h1
    exact lt_size q5
   simp[xx,np]
   refine⟨pl,t.2.1,rfl,q5,q5,q5,?_⟩
   simp
   split
   ·rename_i hf;rw[if_pos hf] at W;refine⟨hsz,?_⟩
    have fin:∀x:Int,x=zX5 kd t->JRk d hs pl kd m (i+1) [some (wU d hs),some (xB pl),some (kg kd),some (.own ((ZA pl (hs.take i)).map (λt=>xb1 (zX5 kd t,t.1))++[.tup [.int x,.int t.1]])),some (.int t.1),some (wz t.2.1),some (.int t.2.2)] m:=λx hx=>by subst hx;exact⟨rfl,_,_,_,by rw[W,zS];rfl⟩
    cases kd with
    | some p =>
     refine⟨_,0,_,.inr (.inl rfl),rfl,rfl,?_⟩;simp
     rw[if_neg q9]
     refine⟨t.2.1.map D.int,.inr rfl,wK D.int (λx=>xU (some x,some x)) t.2.1 (yk q5) (λx hx R hR=>?_) ?_⟩
     ·simp;exact hR
     ·refine ⟨_, 1, _, .inr (.inl rfl), rfl, rfl, ?_⟩
      refine⟨_,p,ptI t.2.1,rfl,.inr (by unfold ptI;rw[zK,zK];rfl),hk p rfl,?_⟩
      exact fin _ rfl
    |none=>
     refine⟨_,0,_,.inr (.inl rfl),rfl,rfl,?_⟩;simp;exact fin _ (Int.zero_sub _).symm
   ·rename_i hf;rw[if_neg hf,wv] at W
    exact⟨rfl,_,_,_,by rw[W]⟩
 ·rintro rho m ⟨rfl, a, b, c, rfl⟩;subst hS;rw[zf,wW];have ae:(ZA pl hs).length<=hs.length:=yM ..;simp
  refine⟨(ZA pl hs).map (xu4 kd),true,by rw[zK];rfl,by rw[zf];lia,λx hx=>?_,?_,λaa hp hs'=>⟨_,.inl rfl,?_⟩⟩
  ·obtain⟨_,_,rfl⟩:=zo.mp hx;rfl
  ·rw[zK];exact(List.filter_sublist.map _).nodup hn
  ·obtain ⟨rs, J, rfl⟩ := Uz hp;rw[zK]
   refine wK (SRow.d∘xu4 kd) (λt=>.int t.1) rs (yk (by rw[J.length_eq];lia)) (λt ht R hR=>?_) ?_
   ·have e:(SRow.d∘xu4 kd) t=.tup [.int (zX5 kd t),.int t.1]:=rfl;rw[e];simp;exact hR
   ·refine q rs J ?_;rw[xF] at hs';refine List.Pairwise.imp_of_mem (λ{a b} ha hb h=>?_) hs';have la:=Y a (zB.mp (J.mem_iff.mp ha)).1;have lb:=Y b (zB.mp (J.mem_iff.mp hb)).1;unfold ltK;rw[zg2 la,zg2 lb];exact zq4 h
end
def zQ4(pl:Qqe):Option Tr->List Tr
 |none=>[]
 |some tr=>jc pl tr
def zK5(rs:Qqd)(k:Nat):Thing:=rs[k-1]?.getD (0,[],0)
noncomputable def xs6(d:Nat)(kd:QqO)(hs rs:Qqd)(k:Nat)(all:List Tr):Nat:=
 if rs.length<k then all.length else if 0<k then(all.filter λy=>!ltP (yH d kd [zK5 rs k]) (kT d kd hs y)).length else 0
noncomputable def zR9(d:Nat)(kd:QqO)(hs:Qqd)(pl:Qqe)(L:QqP):Option Tr->List Tr
 |none=>[]
 |some tr=>kn d kd hs pl L tr
noncomputable def zE0(d:Nat)(kd:QqO)(hs:Qqd)(pl:Qqe)(rs:Qqd)(k:Nat)(o:Option Tr):List (List Int):=
 if rs.length<k\/k=0 then [] else(zR9 d kd hs pl (yH d kd [zK5 rs k]) o).map vU
noncomputable def kN(d:Nat)(kd:QqO)(hs:Qqd)(ns:Qq4):Int × Int:=yH d kd (hs.filter λt=>decide (t.1∈ns))
def LtN(d:Nat)(kd:QqO)(hs:Qqd)(a b:Qq4):Prop:=ltP (kN d kd hs a) (kN d kd hs b)=true
section
variable {d:Nat}{hs:Qqd}{kd:QqO}{pl:Qqe}{k n':Nat}{o:Option Tr}{q ws:List Qe}{acc rs:Qqd}
def zN0(hd:1<=d)(hp:pl.length=d)(hn:(hs.map λt=>t.1).Nodup)(ai:o=none->hs=[])(ah:∀tr,o=some tr->TreeOf d hs tr)(hr:rs.Perm (ZA pl hs))(hu:rs.Pairwise (ltK d kd))(R:Reach d kd pl k (ZB o hs pl k) n' q acc)(ad:q=[]\/acc.length=k)(am:acc.length<=k)(hw:ws.Perm q)(hs':ws.Pairwise (LtQ d kd)) :
  acc=rs.take k/\n'=xs6 d kd hs rs k (zQ4 pl o)/\(ws.map λx=>vU x.2).Perm (zE0 d kd hs pl rs k o)/\(ws.map λx=>vU x.2).Pairwise (LtN d kd hs):=by
 by_cases h0:k=0
 ·subst h0;obtain⟨e1,e2,e3⟩:=R.zero
  have e4:ZB o hs pl 0=[]:=by cases o with |none=>rfl |some tr=>exact(if_pos rfl:(if 0=0 then [] else vQ pl [(hs,tr)])=[])
  rw[e4] at e2;subst e1 e2 e3;have e5:ws=[]:=hw.eq_nil;subst e5;refine⟨rfl,?_,?_,.nil⟩
  ·unfold xs6;rw[if_neg q5,if_neg q5]
  ·unfold zE0;rw[if_pos (.inr rfl)];exact .refl _
 ·have ag : DOk d hs kd pl (ZB o hs pl k) [] := by
   cases o with
   |none=>exact .none (ai rfl)
   |some tr=>
    show DOk d hs kd pl (if k=0 then [] else vQ pl [(hs,tr)]) []
    rw[if_neg h0];exact .start hd hp (ah tr rfl) hn
  have D1:=R.dok hd hp ag;have J:=D1.told hn hr hu;obtain⟨P,ok⟩:=R.pok hd hp hn ag
  have af:((ZB o hs pl k).flatMap λx=>jc pl x.2)=zQ4 pl o:=by
   cases o with
   |none=>rfl
   |some tr=>
    show((if k=0 then [] else vQ pl [(hs,tr)]).flatMap λx=>jc pl x.2)=jc pl tr
    rw[if_neg h0,Ze _ (λtr=>Vy)];simp
  have aj:∀L,((ZB o hs pl k).flatMap λx=>kn d kd hs pl L x.2)=zR9 d kd hs pl L o:=λL=>by
   cases o with
   |none=>rfl
   |some tr=>
    show((if k=0 then [] else vQ pl [(hs,tr)]).flatMap λx=>kn d kd hs pl L x.2)=kn d kd hs pl L tr
    rw[if_neg h0,Ze _ (λtr=>WH)];simp
  rw[af] at ok;have ae:=D1.perm.length_eq;rw[zF] at ae;have ak:=hr.length_eq
  have Y:(ws.map λx=>vU x.2).Pairwise (LtN d kd hs):=by
   rw[xF];refine List.Pairwise.imp_of_mem (λ{a b} ha hb h=>?_) hs';have i1:kN d kd hs (vU a.2)=yH d kd a.1:=D1.ok.keyOf hn (hw.mem_iff.mp ha);have i2:kN d kd hs (vU b.2)=yH d kd b.1:=D1.ok.keyOf hn (hw.mem_iff.mp hb);unfold LtN;rw[i1,i2];exact h
  have W:q=[]->acc.length=rs.length:=λh=>by
   subst h;have:(ZA pl (vR [])).length=0:=rfl;lia
  by_cases hk:rs.length<k
  ·have hq : q = [] := by
    rcases ad with h |h
    ·exact h
    ·lia
   have ha:=W hq;subst hq;have e5:ws=[]:=hw.eq_nil;subst e5;refine⟨?_,?_,?_,.nil⟩
   ·have e := J;rw[ha,wW] at e
    rw[e,xZ q5]
   ·unfold xs6;rw[if_pos hk];exact ok.looks0
   ·unfold zE0;rw[if_pos (.inl hk)];exact .refl _
  ·have aa : acc.length = k := by
    rcases ad with h |h
    ·have:=W h;lia
    ·exact h
   obtain⟨t,ht,f1,f2⟩:=ok.fin aa q5
   rw[aa] at J
   have et:t=zK5 rs k:=by
    rw[List.getLast?_eq_getElem?,aa,J,List.getElem?_take_of_lt q5] at ht
    unfold zK5;rw[ht];rfl
   subst et;refine⟨J,?_,?_,Y⟩
   ·unfold xs6
    rw[if_neg hk,if_pos q5]
    exact ok.looks1 hn D1.ok f1 f2
   ·unfold zE0
    rw[if_neg q5]
    have ac:=ok.waits hn D1 f1 f2;rw[aj] at ac;have z:=((hw.map λx=>x.2).trans ac).map vU;rw[zK] at z;exact z
end
structure JGr(d:Nat)(wd:Int)(i:Nat)(rho:Rho)(n:Nat):Prop where
 e:n=3
 r:∃(ts:Qqd) (a b:Option D),ts.length=i/\GoodT d ts (3*i)/\rho=[some .st,some (.int d),some (.int wd),some (.own (ts.map xx)),a,b]
section
variable {P:Qq3}{w:Qqa}{K:Qq5}{mg:QqM}{base:Heap}{f:Addr}{fd:Qqb}
abbrev kM:Stmt:=top 47
noncomputable abbrev kU:List Str:=["_law_left_here","_law_d","_law_wide","_law_things","_law_k","_law_place"]
def ka:FnScope kU qZ3 (xm kM):=⟨rfl,rfl,rfl,w5,rfl,w5,w5⟩
def Za:("_law_i" :: kU:Qq2).Nodup:=w5
def Qr:TF:=λds n Q=>ds=[.st]/\n=3/\∀(d:Nat) (ts:Qqd),1<=d->d<=2->GoodT d ts 2000->100<=ts.length->ts.length<=200->Q (wU d ts) 3
def zJ4(T:Blt mg)(F:Fun K "_law_great_house" "_law_great_house" kM f fd)(Y_pick:Fn P w K mg base "_law_pick" 1 2 jL):FnOk P w K mg base CX0 2 f fd qZ3 (spD K 1 Qr):=by
 refine Fun.okD F ka (λag A0 outer s H E G Z Y=>(zI (zs0 (i:=1) (j:=2) (k:=3) rfl rfl ka.nd rfl rfl rfl q9 q9 q9 (lo rfl) (lo rfl) (lo rfl) (km zA (wy Y_pick (Y.mono q9) rfl (zc (zh 0) (zc zA zi)))) (yG wu yF (kr (zc zA (zc zA (zc zA zi)))) (wy Y_pick (Y.mono q9) rfl (zc (zh 0) (zc zA zi))) (λ_ _=>rfl)))
  (zI (qc (m:=6) PassesOwn.never rfl (qW T.range (zc (km zA (wy Y_pick (Y.mono q9) rfl (zc (zh 0) (zc zA zi)))) zi)) (xh (i:=4) ka.nd rfl (lo rfl) q9)
  (zI (yo (i:=5) ka.nd rfl (lo rfl) (yr wo vL T.tuple vM (zc (vO (own:=["_law_i"]) (M:=kU) (vX (by rfl)) rfl (qW T.range (zc (zh 1) zi)) (λ_ _ _ _=>(xh (i:=0) Za rfl (lo rfl) q9)) (λ_ _ _ _=>yz) (λ_ _ _ _=>(jI (wy Y_pick (Y.mono q9) rfl (zc (zh 1) (zc (zh 3) zi))) (KW (zh 3) zA)))) zi)))
  (zZ (qd (i:=3) (zc (yU (zc (km (YA zA (zh 4)) (wy Y_pick (Y.mono q9) rfl (zc (zh 0) (zc zA zi)))) (zc (zh 5) (zc (wy Y_pick (Y.mono q9) rfl (zc (zh 0) (zc (yG wu yF (kr (zc zA (zc zA zi))) (jX (zh 4) zA) (λ_ _=>rfl)) zi))) zi)))) zi) rfl))))
  (zZ (Yi 3 (xQ (yU (zc (zh 1) (zc (yr wo vL T.tuple vM (zc (zh 3) zi)) zi))))))))) ?_
 rintro ds n Q hl ⟨rfl,rfl,q⟩;simp[startD]
 refine xO q9 q9 λk h0 h1=>?_
 obtain⟨d,hd⟩:=xT (show 0<=1+k by lia)
 simp
 refine xO q9 q9 λk2 h2 h3=>zk2 (js:=[3,20,500]) 3 500 h2 (by simpa using h3) q9 λwd af ae=>?_
 refine xO q9 q9 λk4 h6 h7=>?_
 rw[hd]
 have ad:1<=d:=q5
 have ac:d<=2:=q5
 simp
 refine⟨q5,q5,JGr d wd,⟨rfl,[],none,none,rfl,GoodT.nil d _,rfl⟩,?_,?_⟩
 ·rintro i d' rho n' e ⟨rfl, ts, u, v, W, hg, rfl⟩;obtain⟨hi,rfl⟩:=Wh e;simp
  refine⟨q5,WM (zd7 0 d) 3 (λ_ e=>∃x:Int,small x/\e=.int x) (by rw[qE];exact yk q5) (λj d2 e2 Q' hQ'=>?_) (λes hp=>?_)⟩
  ·simp
   refine xO q5 q5 λk g0 g1=>?_
   simp
   exact⟨by unfold xC9;lia,hQ' _ ⟨_,⟨⟨q5,q5⟩,0,k-wd/2,q5,q5,q5⟩,rfl⟩⟩
  ·have J := hp.length;rw[qE] at J;obtain⟨ps,rfl,aa⟩:=qS hp;rw[zf] at J;simp
   refine⟨lt_size q5,by unfold CMul;lia,?_⟩
   refine xO q9 q9 λj1 g0 g1=>?_
   have fin:∀m:Int,(m=2\/m=1000)->atI [D.int 2,D.int 1000] ((i:Int)%2)=some (.int m)->∃d2,atI [D.int 2,D.int 1000] ((i:Int)%2)=some d2/\jL [D.st,d2] 3 λd3 n1=>JGr d wd (i+1) [some D.st,some (D.int d),some (D.int wd),some (D.own (ts.map xx++[D.tup [.int (3*(i:Int)+j1),D.tup (ps.map D.int),d3]])),some (D.int i),some (D.tup (ps.map D.int))] n1:=λm hm e=>
    ⟨_,e,xO q5 q5 λy y0 y1=>⟨rfl,ts++[(3*(i:Int)+j1,ps,y)],_,_,by simp[W],(hg.more (x:=3*(i:Int)) (top:=3*(i:Int)+j1) q5).snoc q5 q5 q5 aa (y:=y) ⟨⟨q5,q5⟩,0,y,q5,q5,q5⟩,by rw[zS];rfl⟩⟩
   rcases(by lia:(i:Int)%2=0\/(i:Int)%2=1) with z |z
   ·exact fin 2 (.inl rfl) (by rw[z];rfl)
   ·exact fin 1000 (.inr rfl) (by rw[z];rfl)
 ·rintro rho n' ⟨rfl, ts, u, v, W, hg, rfl⟩;rw[qE] at W hg;simp
  exact q d ts ad ac (hg.more q5) q5 q5
end
def qo(o:Option Tr):D:=(o.map kR).getD .non
def UH(o:Option Tr):wj (qo o)=true:=by cases o with |none=>rfl |some t=>exact qi t
structure TurnOk(d:Nat)(hs:Qqd)(o:Option Tr)(b:List Span)(kd:QqO)(rs:Qqd):Prop where
 d1:1<=d
 d4:d<=4
 good:GoodT d hs 2000
 len:hs.length<=256
 h0:o=none->hs=[]
 h1:∀tr,o=some tr->TreeOf d hs tr
 box:b.length=d
 kind:∀pl,kd=some pl->pl.length=d/\∀x∈pl,zl2 x
 perm:rs.Perm (ZA (kY b) hs)
 up:rs.Pairwise (ltK d kd)
def TurnOk.drawn{d:Nat}{hs rs:Qqd}{o:Option Tr}{b:List Span}{kd:QqO}{k:Nat}{R:D->Nat->Prop}(h:TurnOk d hs o b kd rs)(hR:∀(J:Int) (ws:D),R (.tup [.tup ((rs.map λt=>.int t.1).take k),.int J,ws]) 3):VZ [wU d hs,qo o,vW b,kg kd,.int k] 3 R:=by
 have d4:=h.d4;have hz:=h.len
 refine⟨d,hs,o,b,kd,k,rfl,h.d1,q5,h.box,h.good.nodup,q5,λp e=>by have:=(h.kind p e).1;lia,h.h0,h.h1,xa7 h.good h.d4 λpl e=>(h.kind pl e).2,λn' q ws acc r1 r2 r3 Y W=>?_⟩
 obtain⟨e1,e2,e3,e4⟩:=zN0 h.d1 (by rw[Zt];exact h.box) h.good.nodup h.h0 h.h1 h.perm h.up r1 r2 r3 Y W
 subst e1;rw[vG];exact hR _ _
def TurnOk.rlen{d:Nat}{hs rs:Qqd}{o:Option Tr}{b:List Span}{kd:QqO}(h:TurnOk d hs o b kd rs):rs.length<=256:=by
 have h1:(ZA (kY b) hs).length<=hs.length:=yM ..;have:=h.perm.length_eq;have:=h.len;lia
def TurnOk.small{d:Nat}{hs rs:Qqd}{o:Option Tr}{b:List Span}{kd:QqO}(h:TurnOk d hs o b kd rs):∀t∈rs,0<=t.1/\t.1<2000:=λt ht=>
 let z:=h.good.each t (zB.mp (h.perm.mem_iff.mp ht)).1
 ⟨z.1,z.2.1⟩
def zA3(xs:List D)(k:Nat):Ki xs none (some (k:Int))=xs.take k:=by
 unfold Ki;rw[HT.QA,HT.Um,vw,Nat.sub_zero]
 by_cases h:k<=xs.length
 ·rw[Nat.min_eq_left h]
 ·rw[Nat.min_eq_right q5,xZ (zj _),xZ q5]
def zY3{x:Int}{k:Nat}(h:x.natAbs<2^64):okR (.int x) k=true:=by
 unfold okR;refine xI ?_
 by_cases h0:x.natAbs=0
 ·rw[h0];decide
 ·rw [Nat.log2_lt h0]
  exact yt h (Nat.pow_lt_pow_right q9 q9)
def TurnOk.told{d:Nat}{hs rs:Qqd}{o:Option Tr}{b:List Span}{kd:QqO}{k:Nat}{Q:D->Nat->Prop}{n:Nat}(h:TurnOk d hs o b kd rs)(q:Q (.bl true) n):VV [.tup ((rs.map λt=>D.int t.1).take k),.tup ((rs.map λt=>D.int t.1).take k)] n Q:=by
 refine⟨_,rfl,id rfl,Wq.mpr λe he=>?_,.inr (.inr ⟨rfl,zY2.mpr λx hx=>?_,?_⟩),q⟩
 ·obtain⟨t,_,rfl⟩:=zo.mp (List.mem_of_mem_take he);exact Xc
 ·obtain ⟨t, ht, rfl⟩ := zo.mp (List.mem_of_mem_take hx);have:=h.small t ht
  exact zY3 q5
 ·have h1 := zf6 (b := 1) (ds := (rs.map λt => D.int t.1).take k) λx hx => by
   obtain⟨t,_,rfl⟩:=zo.mp (mem_of_mem_take hx);exact zj 1
  have h2:=h.rlen;rw[xr,zf] at h1;show Va _+1<=8000;lia
section
variable {P:Qq3}{w:Qqa}{K:Qq5}{mg:QqM}{base:Heap}{f:Addr}{fd:Qqb}
abbrev Ui:Stmt:=top 48
noncomputable abbrev xC8:List Str:=["_law_script","_law_left_here","_law_house_here","_law_tree_here","_law_box_here","_law_kind_here","_law_due","_law_many","_law_k","_law_trees","_law_turn"]
def qk:FnScope xC8 ["_law_script"] (xm Ui):=⟨rfl,rfl,rfl,w5,rfl,w5,w5⟩
def xj7(T:Blt mg)(F:Fun K "law" "law" Ui f fd)(Y_left:Fn P w K mg base "_law_left" 1 2 zo8)(Y_pick:Fn P w K mg base "_law_pick" 1 2 jL)(Y_great_house:Fn P w K mg base "_law_great_house" 2 1 Qr)(F_turns:Fn P w K mg base "turns" 13 1 VR)(Y_house:Fn P w K mg base "_law_house" 2 1 Qq)(Y_tree:Fn P w K mg base "_law_tree" 35 2 VT)(Y_box:Fn P w K mg base "_law_box" 3 2 zT7)(Y_kind:Fn P w K mg base "_law_kind" 3 2 zo9)(Y_plain:Fn P w K mg base "_law_plain" 1 1 VW)(Y_ranked:Fn P w K mg base "_law_ranked" 3 3 VS)(Y_same:Fn P w K mg base "_law_same" 1 2 VV)(F_drawn:Fn P w K mg base "drawn" 8 5 VZ) :
  FnOk P w K mg base CX0 36 f fd ["_law_script"] (Kr K):=by
 refine Fun.okLaw F qk 3 (λay A0 outer s H E J=>(zr7 (ze2 (i:=1) rfl qk.nd rfl (lo rfl) Y_left (J.mono q9) rfl (zc (zh 0) (zc zA zi)) (λc Z H0=>(zZ (kj (yj UD Ur (wy Y_pick (J.mono q9) rfl (zc (zh 1) (zc zA zi))) zA (yE _)) (zI (yo (i:=2) qk.nd rfl (lo rfl) (wy Y_great_house (J.mono q9) rfl (zc (zh 1) zi)))
  (zI (yo (i:=3) qk.nd rfl (lo rfl) (wy F_turns (J.mono q9) rfl (zc (zh 2) zi)))
  (zZ (qc (m:=11) PassesOwn.never rfl (vq rfl (yU (zc (Wn zt5 zq9 (yU (zc (yU (zc vN (zc vN zi))) zi)) (yG wu yF (zh 2) zA (λ_ _=>rfl))) (zc (wy Y_box (J.mono q9) rfl (zc (zh 1) (zc (zh 2) zi))) zi)))) (xh (i:=4) qk.nd rfl (lo rfl) q9)
  (zI (yo (i:=5) qk.nd rfl (lo rfl) (wy Y_kind (J.mono q9) rfl (zc (zh 1) (zc (zh 2) zi))))
  (zI (yo (i:=6) qk.nd rfl (lo rfl) (wy Y_ranked (J.mono q9) rfl (zc (zh 2) (zc (wy Y_plain (J.mono q9) rfl (zc (zh 4) zi)) (zc (zh 5) zi)))))
  (zZ (qc (m:=11) PassesOwn.never rfl (vq rfl (yU (zc zA (zc (km zA (wy Y_pick (J.mono q9) rfl (zc (zh 1) (zc zA zi)))) (zc (wc wA qa T.len kK (zc (zh 6) zi)) (zc (km (wc wA qa T.len kK (zc (zh 6) zi)) zA) zi)))))) (xh (i:=7) qk.nd rfl (lo rfl) q9)
  (zZ (kj (QG (Ye (wy Y_same (J.mono q9) rfl (zc (yG wu yF (wy F_drawn (J.mono q9) rfl (zc (zh 2) (zc (zh 3) (zc (zh 4) (zc (zh 5) (zc (zh 7) zi)))))) zA (λ_ _=>rfl)) (zc (yr wo vL T.tuple vM (zc (zf0 rfl (zh 6) qR (qQ (zh 7))) zi)) zi))))) (zZ (xQ XB)) yT)))))))))) yT))))
  (zI (qc (m:=11) PassesOwn.never rfl (qW T.range (zc (wc (JP rfl) zA8 T.max WQ (zc zA (zc (wc (JM rfl) zA5 T.min JR (zc (wc wA qa T.len kK (zc (zh 0) zi)) (zc zA zi))) zi))) zi)) (xh (i:=8) qk.nd rfl (lo rfl) q9)
  (ze2 (i:=1) rfl qk.nd rfl (lo rfl) Y_left (J.mono q9) rfl (zc (zh 0) (zc (zh 8) zi)) (λc Z H0=>(zI (yo (i:=2) qk.nd rfl (lo rfl) (wy Y_house (J.mono q9) rfl (zc (zh 1) zi)))
  (zI (yo (i:=9) qk.nd rfl (lo rfl) (kr (zc (wy Y_tree (J.mono q9) rfl (zc (zh 1) (zc (zh 2) zi))) (zc (wy Y_tree (J.mono q9) rfl (zc (zh 1) (zc (zh 2) zi))) (zc (wy F_turns (J.mono q9) rfl (zc (zh 2) zi)) zi)))))
  (zZ (qc (m:=11) PassesOwn.never rfl (qW T.range (zc zA zi)) (xh (i:=10) qk.nd rfl (lo rfl) q9)
  (zI (Uw (i:=4) (j:=5) rfl qk.nd rfl rfl q9 rfl rfl (zc (wy Y_box (J.mono q9) rfl (zc (zh 1) (zc (zh 2) zi))) (zc (wy Y_kind (J.mono q9) rfl (zc (zh 1) (zc (zh 2) zi))) zi)))
  (zI (yo (i:=6) qk.nd rfl (lo rfl) (wy Y_ranked (J.mono q9) rfl (zc (zh 2) (zc (wy Y_plain (J.mono q9) rfl (zc (zh 4) zi)) (zc (zh 5) zi)))))
  (zZ (qc (m:=11) PassesOwn.never rfl (vq rfl (yU (zc zA (zc zA (zc zA (zc (wc wA qa T.len kK (zc (zh 6) zi)) (zc (km (km (wc wA qa T.len kK (zc (zh 6) zi)) zA) (wy Y_pick (J.mono q9) rfl (zc (zh 1) (zc zA zi)))) zi))))))) (xh (i:=7) qk.nd rfl (lo rfl) q9)
  (zZ (qc (m:=11) PassesOwn.never rfl (vq rfl (zh 9)) (xh (i:=3) qk.nd rfl (lo rfl) q9)
  (zZ (kj (QG (Ye (wy Y_same (J.mono q9) rfl (zc (yG wu yF (wy F_drawn (J.mono q9) rfl (zc (zh 2) (zc (zh 3) (zc (zh 4) (zc (zh 5) (zc (zh 7) zi)))))) zA (λ_ _=>rfl)) (zc (yr wo vL T.tuple vM (zc (zf0 rfl (zh 6) qR (qQ (zh 7))) zi)) zi))))) (zZ (xQ XB)) yT)))))))))))))))
  (zZ (xQ XB))))) ?_
 generalize hI:sIf (xC6 _) _ _=IF;intro ns ak;have ac:wj (wI ns)=true:=id rfl
 have ad:∀(F:EndsD) (d:Nat) (hs rs:Qqd) (o:Option Tr) (b:List Span) (kd:QqO) (k:Nat) (c8 c9 Y:Option D),TurnOk d hs o b kd rs ->
   F.nx [some (wI ns),some .st,some (wU d hs),some (qo o),some (vW b),some (kg kd),some (.lst (rs.map λt=>.int t.1)),some (.int k),c8,c9,Y] 3 ->
   IF F [some (wI ns),some .st,some (wU d hs),some (qo o),some (vW b),some (kg kd),some (.lst (rs.map λt=>.int t.1)),some (.int k),c8,c9,Y] 3:=λF d hs rs o b kd k c8 c9 Y ht hF=>by
  subst hI;have nh:=kO d hs;have no:=UH o;have nb:wj (vW b)=true:=id rfl;have nk:=zk9 kd;simp[nh,no,nb,nk];refine ht.drawn λaq ws=>?_;simp;rw[zA3]
  exact ht.told (by simpa using hF)
 clear hI;generalize hG:sIf (zm7 (dOp zP2 _ _)) _ _=GX;generalize hB:xu2 (xa5 (xc9 (dC (.int 3)) xs7)) _ _=BX
 have aj:∀(F:EndsD) (d:Nat) (hs:Qqd) (o1 o2 o3:Option Tr) (b3 b4 b5 b6 b7 b8 ae:Option D),1<=d->d<=4->GoodT d hs 2000->hs.length<=30->(∀o∈[o1,o2,o3],(o=none->hs=[])/\∀tr,o=some tr->TreeOf d hs tr) ->
   (∀b3 b4 b5 b6 b7 ae:Option D,F.nx [some (wI ns),some .st,some (wU d hs),b3,b4,b5,b6,b7,b8,some (.lst [qo o1,qo o2,qo o3]),ae] 3) ->
   BX F [some (wI ns),some .st,some (wU d hs),b3,b4,b5,b6,b7,b8,some (.lst [qo o1,qo o2,qo o3]),ae] 3:=λF d hs o1 o2 o3 b3 b4 b5 b6 b7 b8 ae W aa hg hz ho hF=>by
  subst hB;have nh:=kO d hs;simp[nh];refine⟨λ_ rho n=>n=3/\∃c3 c4 c5 c6 c7 Y:Option D,rho=[some (wI ns),some .st,some (wU d hs),c3,c4,c5,c6,c7,b8,some (.lst [qo o1,qo o2,qo o3]),Y],⟨rfl,_,_,_,_,_,_,rfl⟩,?_,?_⟩
  ·rintro i dd rho n' e4 ⟨rfl, c3, c4, c5, c6, c7, Y, rfl⟩;obtain⟨_,rfl⟩:=Wh e4;simp[nh]
   refine⟨d,hs,rfl,rfl,aa,hg,q5,λb hb hn=>?_⟩
   refine⟨d,hs,rfl,rfl,aa,hg,q5,λkd hk=>?_⟩
   have nb:wj (vW b)=true:=rfl;simp[nb]
   refine⟨b,rfl,q5,q5,?_⟩
   have ag:(kY b).length=d:=by rw[Zt];exact hb
   have ah:∀p,kd=some p->p.length<=1000:=λp e=>by have:=(hk p e).1;lia
   refine⟨d,hs,kY b,kd,rfl,W,q5,ag,λt ht=>(hg.each t ht).2.2.1,hg.nodup,q5,ah,λrs p1 p2=>?_⟩
   have tk:∀o:Option Tr,o∈[o1,o2,o3]->TurnOk d hs o b kd rs:=λo h=>⟨W,aa,hg,q5,(ho o h).1,(ho o h).2,hb,hk,p1,p2⟩
   have ar:=(tk o1 (by simp)).rlen
   simp
   refine xO q9 q9 λk5 g0 g1=>?_
   simp;refine⟨λ_ rho n=>n=3/\∃c3 c7:Option D,rho=[some (wI ns),some .st,some (wU d hs),c3,some (vW b),some (kg kd),some (.lst (rs.map λt=>.int t.1)),c7,b8,some (.lst [qo o1,qo o2,qo o3]),some (.int (i:Int))],⟨rfl,_,_,rfl⟩,?_,?_⟩
   ·rintro j dj rho n' ej ⟨rfl, c3, c7, rfl⟩
    have hm:∃m:Nat,dj=.int m:=by
     have:=zV ej;simp only[zn,xb,or_false] at this
     rcases this with rfl |rfl |rfl |rfl |rfl
     ·exact⟨0,rfl⟩
     ·exact⟨1,rfl⟩
     ·exact⟨3,rfl⟩
     ·exact⟨rs.length,rfl⟩
     ·exact⟨rs.length+1+k5.toNat,by congr 1;lia⟩
    obtain⟨m,rfl⟩:=hm;simp;refine⟨λ_ rho n=>n=3/\∃c3:Option D,rho=[some (wI ns),some .st,some (wU d hs),c3,some (vW b),some (kg kd),some (.lst (rs.map λt=>.int t.1)),some (.int (m:Int)),b8,some (.lst [qo o1,qo o2,qo o3]),some (.int (i:Int))],⟨rfl,_,rfl⟩,?_,?_⟩
    ·rintro l dl rho n' el ⟨rfl, c3, rfl⟩
     have am:∃o,o∈[o1,o2,o3]/\dl=qo o:=by
      have:=zV el;simp only[zn,xb,or_false] at this ⊢
      rcases this with rfl |rfl |rfl
      ·exact⟨o1,.inl rfl,rfl⟩
      ·exact⟨o2,.inr (.inl rfl),rfl⟩
      ·exact⟨o3,.inr (.inr rfl),rfl⟩
     obtain⟨o,ho',rfl⟩:=am;have no:=UH o;simp[no];exact ad _ d hs rs o b kd m _ _ _ (tk o ho') ⟨rfl,_,rfl⟩
    ·rintro rho n' ⟨rfl,c3,rfl⟩;exact⟨rfl,_,_,rfl⟩
   ·rintro rho n' ⟨rfl,c3,c7,rfl⟩;exact⟨rfl,_,_,_,_,_,_,rfl⟩
  ·rintro rho n' ⟨rfl,c3,c4,c5,c6,c7,Y,rfl⟩;exact hF _ _ _ _ _ _
 have ai:∀F:EndsD,(∀rho:Rho,rho.length=11->rho[0]?=some (some (wI ns))->F.nx rho 3)->GX F [some (wI ns),some .st,none,none,none,none,none,none,none,none,none] 3:=λF hF=>by
  subst hG;simp
  refine xO q9 q9 λk h0 h1=>?_
  simp
  split
  ·refine ⟨rfl, rfl, λd hs W ax hg ao aw => ?_⟩;have nh:=kO d hs;simp[nh]
   refine⟨d,hs,rfl,W,q5,hg.u,q5,λe=>by rw[e] at ao;simp at ao,λ_ tr ht=>?_⟩
   have no:=UH (some tr);have e:kR tr=qo (some tr):=rfl;rw[e];simp[nh,no]
   refine zg6 ⟨_,_,rfl,rfl,by simp,q5,yk (by simp;lia),?_⟩
   have e0:D.tup (replicate ((d:Int).toNat) [D.tup [.non,.non]]).flatten=vW (replicate d (none,none)):=by
    rw[yA,List.flatten_replicate_singleton];unfold vW;rw[List.map_replicate];rfl
   rw[e0]
   refine⟨d,hs,rfl,rfl,q5,hg,q5,λb hb hn=>?_⟩
   refine⟨λ_ rho n=>n=3/\∃c4 c5 c6 c7:Option D,rho=[some (wI ns),some .st,some (wU d hs),some (qo (some tr)),c4,c5,c6,c7,none,none,none],⟨rfl,_,_,_,_,rfl⟩,?_,?_⟩
   ·rintro i dd rho n' e4 ⟨rfl, c4, c5, c6, c7, rfl⟩
    have av:∃bb:List Span,bb.length=d/\dd=vW bb:=by
     have:=zV e4;simp only[zn,xb,or_false] at this
     rcases this with rfl |rfl
     ·exact⟨_,wN,rfl⟩
     ·exact⟨_,hb,rfl⟩
    obtain⟨bb,ap,rfl⟩:=av;have nb:wj (vW bb)=true:=rfl;simp[nh,nb]
    refine⟨d,hs,rfl,rfl,q5,hg,q5,λkd hk=>?_⟩
    simp[nb]
    refine⟨bb,rfl,q5,q5,?_⟩
    have ag:(kY bb).length=d:=by rw[Zt];exact ap
    have ah:∀p,kd=some p->p.length<=1000:=λp e=>by have:=(hk p e).1;lia
    refine⟨d,hs,kY bb,kd,rfl,W,q5,ag,λt ht=>(hg.each t ht).2.2.1,hg.nodup,q5,ah,λrs p1 p2=>?_⟩
    have tk:TurnOk d hs (some tr) bb kd rs:=⟨W,q5,hg,q5,λe=>(by cases e),λt e=>(by cases e;exact ht.tree λt ht=>(hg.each t ht).2.2.1),ap,hk,p1,p2⟩
    have ar:=tk.rlen;simp
    refine xO q9 q9 λk5 g0 g1=>?_
    simp;refine⟨λ_ rho n=>n=3/\∃c7:Option D,rho=[some (wI ns),some .st,some (wU d hs),some (qo (some tr)),some (vW bb),some (kg kd),some (.lst (rs.map λt=>.int t.1)),c7,none,none,none],⟨rfl,_,rfl⟩,?_,?_⟩
    ·rintro j dj rho n' ej ⟨rfl, c7, rfl⟩
     have hm:∃m:Nat,dj=.int m:=by
      have:=zV ej;simp only[zn,xb,or_false] at this
      rcases this with rfl |rfl |rfl |rfl
      ·exact⟨1,rfl⟩
      ·exact⟨40+k5.toNat,by congr 1;lia⟩
      ·exact⟨rs.length,rfl⟩
      ·exact⟨rs.length+1,rfl⟩
     obtain⟨m,rfl⟩:=hm;simp;exact ad _ d hs rs (some tr) bb kd m _ _ _ tk ⟨rfl,_,rfl⟩
    ·rintro rho n' ⟨rfl,c7,rfl⟩;exact⟨rfl,_,_,_,_,rfl⟩
   ·rintro rho n' ⟨rfl,c4,c5,c6,c7,rfl⟩;exact hF _ rfl rfl
  ·exact hF _ rfl rfl
 clear ad;simp[startD,ac]
 refine Ji ns (by simp) q9 rfl (60:Int) (by simp[ac]) (λP P' h=>by simp[ac];exact h _ _) ?_
 refine⟨ns,_,rfl,ak,q5,q5,λx y hx hy af=>⟨[x,y,0],rfl,rfl,by simp[hx,hy],by simp[af],?_⟩⟩
 simp[Ww,kF];refine ai _ λrho h1 h2=>⟨rfl,h1,h2,?_⟩;simp[ac]
 refine⟨q5,q5,λ_ rho n=>n=3/\∃c1 c2 c3 c4 c5 c6 c7 c8 c9 Y:Option D,rho=[some (wI ns),c1,c2,c3,c4,c5,c6,c7,c8,c9,Y],⟨rfl,_,_,_,_,_,_,_,_,_,_,rfl⟩,?_,?_⟩
 ·rintro i d' rho m e ⟨rfl, a1, a2, a3, a4, a5, a6, a7, a8, a9, a10, rfl⟩;obtain⟨hi,rfl⟩:=Wh e;simp
  refine Ji ns (by simp) q9 rfl (i:Int) (by simp[ac]) (λP P' h=>by simp[ac];exact h _ _) ?_
  refine⟨ns,_,rfl,ak,q5,q5,λx y hx hy af=>⟨[x,y,0],rfl,rfl,by simp[hx,hy],by simp[af],?_⟩⟩
  simp[Ww,kF];refine⟨rfl,rfl,λd hs W aa hg hz=>?_⟩;have nh:=kO d hs;simp[nh]
  have TT:∀R:D->Nat->Prop,(∀o:Option Tr,((o=none->hs=[])/\∀tr,o=some tr->TreeOf d hs tr)->R (qo o) 3)->VT [.st,wU d hs] 3 R:=λR hR=>⟨d,hs,rfl,rfl,W,aa,hg.u,q5,λh=>hR none ⟨λ_=>h,λtr e=>(by cases e)⟩,λ_ tr ht=>hR (some tr) ⟨λe=>(by cases e),λt e=>(by cases e;exact ht)⟩⟩
  have UU:∀R:D->Nat->Prop,(∀o:Option Tr,((o=none->hs=[])/\∀tr,o=some tr->TreeOf d hs tr)->R (qo o) 3)->VR [wU d hs] 3 R:=λR hR=>⟨d,hs,rfl,W,aa,hg.u,q5,λh=>hR none ⟨λ_=>h,λtr e=>(by cases e)⟩,λ_ tr ht=>hR (some tr) ⟨λe=>(by cases e),λt e=>(by cases e;exact ht.tree λt ht=>(hg.each t ht).2.2.1)⟩⟩
  refine TT _ λo1 h1=>TT _ λo2 h2=>UU _ λo3 h3=>?_;refine aj _ d hs o1 o2 o3 _ _ _ _ _ _ _ W aa hg hz (λo ho=>?_) λb3 b4 b5 b6 b7 ae=>⟨rfl,rfl,rfl⟩;simp only[zn,xb,or_false] at ho
  rcases ho with rfl |rfl |rfl
  ·exact h1
  ·exact h2
  ·exact h3
 ·rintro rho m ⟨rfl,a1,a2,a3,a4,a5,a6,a7,a8,a9,a10,rfl⟩;simp
end
def vz{α:Type}{us:List α}{c:Nat}(h:us.length=c+1):∃a r,us=a::r/\r.length=c:=by
 cases us with
 |nil=>cases h
 |cons a r=>exact⟨a,r,rfl,Nat.succ.inj h⟩
def Qn{fd:Qqb}{ps:Qq2}{us:QqW}(h:us.length=1)(q:∀J,bindArgs fd ⟨[J],[]⟩=pure (ps.zip [J])):bindArgs fd ⟨us,[]⟩=pure (ps.zip us):=by
 obtain⟨J,W,rfl,h0⟩:=vz h;obtain rfl:=xo.mp h0;exact q J
def Kl{fd:Qqb}{ps:Qq2}{us:QqW}(h:us.length=2)(q:∀W J,bindArgs fd ⟨[W,J],[]⟩=pure (ps.zip [W,J])):bindArgs fd ⟨us,[]⟩=pure (ps.zip us):=by
 obtain⟨W,Y,rfl,h0⟩:=vz h;obtain⟨J,u1,rfl,h1⟩:=vz h0;obtain rfl:=xo.mp h1;exact q W J
def xp6{fd:Qqb}{ps:Qq2}{us:QqW}(h:us.length=3)(q:∀Y W J,bindArgs fd ⟨[Y,W,J],[]⟩=pure (ps.zip [Y,W,J])):bindArgs fd ⟨us,[]⟩=pure (ps.zip us):=by
 obtain⟨Y,u0,rfl,h0⟩:=vz h;obtain⟨W,u1,rfl,h1⟩:=vz h0;obtain⟨J,u2,rfl,h2⟩:=vz h1;obtain rfl:=xo.mp h2;exact q Y W J
def xp5{fd:Qqb}{ps:Qq2}{us:QqW}(h:us.length=4)(q:∀x0 Y W J,bindArgs fd ⟨[x0,Y,W,J],[]⟩=pure (ps.zip [x0,Y,W,J])):bindArgs fd ⟨us,[]⟩=pure (ps.zip us):=by
 obtain⟨x0,u0,rfl,h0⟩:=vz h;obtain⟨Y,u1,rfl,h1⟩:=vz h0;obtain⟨W,u2,rfl,h2⟩:=vz h1;obtain⟨J,u3,rfl,h3⟩:=vz h2;obtain rfl:=xo.mp h3;exact q x0 Y W J
def xJ9{fd:Qqb}{ps:Qq2}{us:QqW}(h:us.length=5)(q:∀x0 x1 Y W J,bindArgs fd ⟨[x0,x1,Y,W,J],[]⟩=pure (ps.zip [x0,x1,Y,W,J])):bindArgs fd ⟨us,[]⟩=pure (ps.zip us):=by
 obtain⟨x0,u0,rfl,h0⟩:=vz h;obtain⟨x1,u1,rfl,h1⟩:=vz h0;obtain⟨Y,u2,rfl,h2⟩:=vz h1;obtain⟨W,u3,rfl,h3⟩:=vz h2;obtain⟨J,u4,rfl,h4⟩:=vz h3;obtain rfl:=xo.mp h4;exact q x0 x1 Y W J
def xJ8{fd:Qqb}{ps:Qq2}{us:QqW}(h:us.length=6)(q:∀x0 x1 x2 Y W J,bindArgs fd ⟨[x0,x1,x2,Y,W,J],[]⟩=pure (ps.zip [x0,x1,x2,Y,W,J])):bindArgs fd ⟨us,[]⟩=pure (ps.zip us):=by
 obtain⟨x0,u0,rfl,h0⟩:=vz h;obtain⟨x1,u1,rfl,h1⟩:=vz h0;obtain⟨x2,u2,rfl,h2⟩:=vz h1;obtain⟨Y,u3,rfl,h3⟩:=vz h2;obtain⟨W,u4,rfl,h4⟩:=vz h3;obtain⟨J,u5,rfl,h5⟩:=vz h4;obtain rfl:=xo.mp h5;exact q x0 x1 x2 Y W J
structure Dn(K:Qq5)(x:Str)(st:Stmt):Prop where
 ex:∃(f:Addr) (fd:Qqb),W.nsIn K mainGlobals x=some (some (.ref f))/\Fun K x x st f fd
def dn{K:Qq5}{x:Str}{st:Stmt}{f:Addr}{oc:Value}{od an:QqE}{Y:Array (Option Value)}{kV aa pm J ct:Value}(a:W.nsIn K mainGlobals x=some (some (.ref f)))(l:K.lookup f=some ⟨oc,od,.func (W.fnOf x x (qK st) (ku st) (xm st) .none kV aa pm an J ct),Y⟩)(c:W.codeIn K J x=true)(k:W.keepIn K (.ref f)=true):Dn K x st:=⟨f,_,a,zy4 (st:=st) l c k⟩
def Dn.fn{P:Qq3}{w:Qqa}{K:Qq5}{mg:QqM}{base h:Heap}{x:Str}{st:Stmt}{kk k:Nat}{t:TF}{ps:Qq2}(d:Dn K x st)(X:K.In h)(G:h.Ns mainGlobals mg)(b:∀(kV J pm:Value) (an:QqE) (Y ct:Value) (us:QqW),us.length=ps.length->bindArgs (W.fnOf x x (qK st) (ku st) (xm st) .none kV J pm an Y ct) ⟨us,[]⟩=pure (ps.zip us))(ok:∀(f:Addr) (fd:Qqb),Fun K x x st f fd->mg x=some (.ref f)->W.keepIn K (.ref f)=true->Binds K fd ps []->FnOk P w K mg base CX0 kk f fd ps (spD K k t)):Fn P w K mg base x kk k t:=by
 obtain⟨f,fd,a,F⟩:=d.ex;have m:=W.mg_of X G a;have B:=F.binds b;exact⟨f,fd,ps,ok f fd F m F.kp B,m,F.kp,B⟩
def Dn.fnT{P:Qq3}{w:Qqa}{K:Qq5}{mg:QqM}{base h:Heap}{x:Str}{st:Stmt}{kk k:Nat}{t:TFT}{ps:Qq2}(d:Dn K x st)(X:K.In h)(G:h.Ns mainGlobals mg)(b:∀(kV J pm:Value) (an:QqE) (Y ct:Value) (us:QqW),us.length=ps.length->bindArgs (W.fnOf x x (qK st) (ku st) (xm st) .none kV J pm an Y ct) ⟨us,[]⟩=pure (ps.zip us))(ok:∀(f:Addr) (fd:Qqb),Fun K x x st f fd->FnOk P w K mg base CX0 kk f fd ps (spT K k t)):FnT P w K mg base x kk k t:=by
 obtain⟨f,fd,a,F⟩:=d.ex;exact⟨⟨f,fd,ps,ok f fd F,W.mg_of X G a,F.kp,F.binds b⟩⟩
def all_mk{l:W.OpenLaw}{w:Qqa}{K:Qq5}{h:Heap}{mg:QqM}{fa am ak:Addr}(X:K.In h)(G:h.Ns mainGlobals mg)(aI:mg "law" = some (.ref fa))
  {az aF ay aj:QqE}{aq ap:Array (Option Value)}{aB aC aD ar aa aE aA af ag ae Y ah:Value}
  (d0:Dn K "least_of" YU)
  (d1:Dn K "greatest_of" jn)
  (d2:Dn K "pair_of" Wg)
  (d3:Dn K "is_crossed" jO)
  (d4:Dn K "settled" Wf)
  (d5:Dn K "plain_box" ZQ)
  (d6:Dn K "greater_of" jP)
  (d7:Dn K "lesser_of" ZS)
  (d8:Dn K "common_pair" jo)
  (d9:Dn K "common" Uk)
  (d10:Dn K "lie_apart" ZR)
  (d11:Dn K "bounds" Ul)
  (d12:Dn K "things_by_name" qr)
  (d13:Dn K "names_by" YT)
  (d14:Dn K "names_in_order" qt)
  (d15:Dn K "halved_up" ZT)
  (d16:Dn K "bounds_of" ZU)
  (d17:Dn K "tree_of" We)
  (d18:Dn K "all_names" ZV)
  (d19:Dn K "turns" Qx)
  (d20:Dn K "steps_to" YS)
  (d21:Dn K "key_by" Uj)
  (d22:Dn K "keyed" Qy)
  (d23:Dn K "drawn_past" jQ)
  (d24:Dn K "drawn" Qz)
  (d25:Dn K "_law_left" ZZ)
  (d26:Dn K "_law_pick" ZY)
  (d27:Dn K "_law_house" jT)
  (d28:Dn K "_law_number" jq)
  (d29:Dn K "_law_box" YV)
  (d30:Dn K "_law_kind" Yb)
  (d31:Dn K "_law_bounds" jt)
  (a32:W.nsIn K mainGlobals "_law_grown" = some (some (.ref am))) (l32:K.lookup am=some ⟨aB,az,.func (W.fnOf "_law_grown" "_law_grown" (qK kI) (ku kI) (xm kI) .none aC aD ar aF aa aE),aq⟩) (c32:W.codeIn K aa "_law_grown" = true) (k32:W.keepIn K (.ref am)=true)
  (d33:Dn K "_law_tree" ZW)
  (d34:Dn K "_law_plain" jS)
  (d35:Dn K "_law_inside" jr)
  (d36:Dn K "_law_fits" Yc)
  (d37:Dn K "_law_steps" jR)
  (d38:Dn K "_law_ranked" jp)
  (d39:Dn K "_law_same" ZX)
  (d40:Dn K "_law_great_house" kM)
  (a41:W.nsIn K mainGlobals "law" = some (some (.ref ak))) (l41:K.lookup ak=some ⟨aA,ay,.func (W.fnOf "law" "law" (qK Ui) (ku Ui) (xm Ui) .none af ag ae aj Y ah),ap⟩) (c41:W.codeIn K Y "law" = true) (k41:W.keepIn K (.ref ak)=true)
  {ai aG:Addr}{ax:Value}{aw:QqE}{av:Array (Option Value)}{ac:Qq8} (le32:aa=.ref ai) (lk32:K.lookup ai=some ⟨ax,aw,.fields ac,av⟩) (lp32:ac[11]?=some (.ref aG))
  {e0:Addr}{aM:QqE}{aN:Nat}{aK aJ:Tok}{aL:Array (Option Value)} (yy0:W.nsIn K mainGlobals "EMPTY_PAIR" = some (some (.ref e0))) (hh0:K.lookup e0=some ⟨.type "tuple",aM,.seq #[.int 1 aK,.int 0 aJ] aN,aL⟩)
  (z0:W.nsIn K mainGlobals "len" = some none) (z1:W.nsIn K mainGlobals "abs" = some none) (z2:W.nsIn K mainGlobals "all" = some none) (z3:W.nsIn K mainGlobals "any" = some none) (z4:W.nsIn K mainGlobals "isinstance" = some none) (z5:W.nsIn K mainGlobals "int" = some none) (z6:W.nsIn K mainGlobals "bool" = some none) (z7:W.nsIn K mainGlobals "str" = some none) (z8:W.nsIn K mainGlobals "tuple" = some none) (z9:W.nsIn K mainGlobals "list" = some none) (z10:W.nsIn K mainGlobals "range" = some none) (z11:W.nsIn K mainGlobals "zip" = some none) (z12:W.nsIn K mainGlobals "enumerate" = some none) (z13:W.nsIn K mainGlobals "max" = some none) (z14:W.nsIn K mainGlobals "min" = some none) (z15:W.nsIn K mainGlobals "sorted" = some none) (z16:W.nsIn K mainGlobals "sum" = some none) (z17:W.nsIn K mainGlobals "repr" = some none) (z18:W.nsIn K mainGlobals "dict" = some none) :
  ∃fd:FuncData,(∀(s:Qq1) (v:Value),BindsTo s fd ⟨[v],[]⟩ [("_law_script",v)])/\∀base:Heap,K.In base->base.Ns mainGlobals mg->base.NoDigits->Qh K mg base->FnOk l.prog w K mg base CX0 36 fa fd ["_law_script"] (Kr K):=by
 have ad:=xe0 a32 l32 le32 lk32 lp32;have e:=aI.symm.trans (W.mg_of X G a41);cases e;have T:Blt mg:=⟨W.mg_none_of X G z0,W.mg_none_of X G z1,W.mg_none_of X G z2,W.mg_none_of X G z3,W.mg_none_of X G z4,W.mg_none_of X G z5,W.mg_none_of X G z6,W.mg_none_of X G z7,W.mg_none_of X G z8,W.mg_none_of X G z9,W.mg_none_of X G z10,W.mg_none_of X G z11,W.mg_none_of X G z12,W.mg_none_of X G z13,W.mg_none_of X G z14,W.mg_none_of X G z15⟩;have T2:Blt2 mg:=⟨W.mg_none_of X G z16⟩;have T3:Blt3 mg:=⟨W.mg_none_of X G z17,W.mg_none_of X G z18⟩;have G_EMPTY_PAIR:xp4 K mg "EMPTY_PAIR" (.tup [.int 1,.int 0]):=zy3 (W.mg_of X G yy0) hh0;have ao:=zy4 (st:=kI) l32 c32 k32;have aO:=zy4 (st:=Ui) l41 c41 k41;refine⟨W.fnOf "law" "law" (qK Ui) (ku Ui) (xm Ui) .none af ag ae aj Y ah,λs v=>.of_eq rfl,λbase _ _ ND LA=>?_⟩
 have aH:=LA "_law_grown" (by simp[qY]) _ _ ad
 have F_least_of:Fn l.prog w K mg base "least_of" 1 1 YL:=d0.fn X G (ps:=["low"]) (λ_ _ _ _ _ _ us J=>Qn J λ_=>rfl) λ_ _ U M N B=>QM U;have F_greatest_of:Fn l.prog w K mg base "greatest_of" 1 1 jj:=d1.fn X G (ps:=["high"]) (λ_ _ _ _ _ _ us J=>Qn J λ_=>rfl) λ_ _ U M N B=>WY U;have F_pair_of:Fn l.prog w K mg base "pair_of" 2 1 XZ:=d2.fn X G (ps:=["span"]) (λ_ _ _ _ _ _ us J=>Qn J λ_=>rfl) λ_ _ U M N B=>zk6 U F_least_of F_greatest_of;have F_is_crossed:Fn l.prog w K mg base "is_crossed" 1 1 qO:=d3.fn X G (ps:=["pair"]) (λ_ _ _ _ _ _ us J=>Qn J λ_=>rfl) λ_ _ U M N B=>UE U;have F_settled:Fn l.prog w K mg base "settled" 2 1 Yx:=d4.fn X G (ps:=["pairs"]) (λ_ _ _ _ _ _ us J=>Qn J λ_=>rfl) λ_ _ U M N B=>zk5 T G_EMPTY_PAIR U F_is_crossed;have F_plain_box:Fn l.prog w K mg base "plain_box" 3 1 ZG:=d5.fn X G (ps:=["box"]) (λ_ _ _ _ _ _ us J=>Qn J λ_=>rfl) λ_ _ U M N B=>KY U F_pair_of F_settled;have F_greater_of:Fn l.prog w K mg base "greater_of" 1 2 jM:=d6.fn X G (ps:=qZ0) (λ_ _ _ _ _ _ us J=>Kl J λ_ _=>rfl) λ_ _ U M N B=>UF T U;have F_lesser_of:Fn l.prog w K mg base "lesser_of" 1 2 ZI:=d7.fn X G (ps:=qZ0) (λ_ _ _ _ _ _ us J=>Kl J λ_ _=>rfl) λ_ _ U M N B=>Ja T U;have F_common_pair:Fn l.prog w K mg base "common_pair" 2 2 jk:=d8.fn X G (ps:=qZ0) (λ_ _ _ _ _ _ us J=>Kl J λ_ _=>rfl) λ_ _ U M N B=>WZ U F_greater_of F_lesser_of;have F_common:Fn l.prog w K mg base "common" 3 2 Ua:=d9.fn X G (ps:=qZ0) (λ_ _ _ _ _ _ us J=>Kl J λ_ _=>rfl) λ_ _ U M N B=>zu3 T U F_settled F_common_pair;have F_lie_apart:Fn l.prog w K mg base "lie_apart" 4 2 ZH:=d10.fn X G (ps:=qZ0) (λ_ _ _ _ _ _ us J=>Kl J λ_ _=>rfl) λ_ _ U M N B=>KZ U F_is_crossed F_common;have F_bounds:Fn l.prog w K mg base "bounds" 1 1 Wc:=d11.fn X G (ps:=["places"]) (λ_ _ _ _ _ _ us J=>Qn J λ_=>rfl) λ_ _ U M N B=>zk8 T U;have F_things_by_name:Fn l.prog w K mg base "things_by_name" 1 1 zE8:=d12.fn X G (ps:=qZ1) (λ_ _ _ _ _ _ us J=>Qn J λ_=>rfl) λ_ _ U M N B=>xj5 T U;have F_names_by:Fn l.prog w K mg base "names_by" 1 2 YK:=d13.fn X G (ps:=["things","i"]) (λ_ _ _ _ _ _ us J=>Kl J λ_ _=>rfl) λ_ _ U M N B=>QK T U;have F_names_in_order:Fn l.prog w K mg base "names_in_order" 2 3 YM:=d14.fn X G (ps:=qZ5) (λ_ _ _ _ _ _ us J=>xp6 J λ_ _ _=>rfl) λ_ _ U M N B=>QN U F_names_by;have F_halved_up:Fn l.prog w K mg base "halved_up" 1 1 ZJ:=d15.fn X G (ps:=["count"]) (λ_ _ _ _ _ _ us J=>Qn J λ_=>rfl) λ_ _ U M N B=>Jb U;have F_bounds_of:Fn l.prog w K mg base "bounds_of" 2 2 ZK:=d16.fn X G (ps:=qZ6) (λ_ _ _ _ _ _ us J=>Kl J λ_ _=>rfl) λ_ _ U M N B=>Jc U F_bounds;have F_tree_of:Fn l.prog w K mg base "tree_of" 12 4 (Km 10):=d17.fn X G (ps:=qZ7) (λ_ _ _ _ _ _ us J=>xp5 J λ_ _ _ _=>rfl) λ_ _ U M N B=>zX6 T U M N B F_bounds_of F_names_in_order F_halved_up 10;have F_all_names:Fn l.prog w K mg base "all_names" 1 1 ZL:=d18.fn X G (ps:=qZ1) (λ_ _ _ _ _ _ us J=>Qn J λ_=>rfl) λ_ _ U M N B=>Jd T U;have F_turns:Fn l.prog w K mg base "turns" 13 1 VR:=d19.fn X G (ps:=qZ1) (λ_ _ _ _ _ _ us J=>Qn J λ_=>rfl) λ_ _ U M N B=>zI7 T U F_tree_of F_things_by_name F_all_names;have F_steps_to:Fn l.prog w K mg base "steps_to" 1 2 YJ:=d20.fn X G (ps:=["place","limits"]) (λ_ _ _ _ _ _ us J=>Kl J λ_ _=>rfl) λ_ _ U M N B=>QJ T T2 U;have F_key_by:Fn l.prog w K mg base "key_by" 2 3 VY:=d21.fn X G (ps:=["by_name","tree","kind"]) (λ_ _ _ _ _ _ us J=>xp6 J λ_ _ _=>rfl) λ_ _ U M N B=>zu2 T U F_steps_to;have F_keyed:FnT l.prog w K mg base "keyed" 6 4 VX:=d22.fnT X G (ps:=qZ8) (λ_ _ _ _ _ _ us J=>xp5 J λ_ _ _ _=>rfl) λ_ _ U=>zJ1 T U F_lie_apart F_key_by;have F_drawn_past:Fn l.prog w K mg base "drawn_past" 7 6 Qs:=d23.fn X G (ps:=xz7) (λ_ _ _ _ _ _ us J=>xJ8 J λ_ _ _ _ _ _=>rfl) λ_ _ U M N B=>zJ6 T U F_things_by_name F_plain_box F_keyed;have F_drawn:Fn l.prog w K mg base "drawn" 8 5 VZ:=d24.fn X G (ps:=qZ9) (λ_ _ _ _ _ _ us J=>xJ9 J λ_ _ _ _ _=>rfl) λ_ _ U M N B=>zJ5 U F_drawn_past;have Y_left:Fn l.prog w K mg base "_law_left" 1 2 zo8:=d25.fn X G (ps:=["_law_script","_law_k"]) (λ_ _ _ _ _ _ us J=>Kl J λ_ _=>rfl) λ_ _ U M N B=>zX8 T U;have Y_pick:Fn l.prog w K mg base "_law_pick" 1 2 jL:=d26.fn X G (ps:=["_law_left_here","_law_many"]) (λ_ _ _ _ _ _ us J=>Kl J λ_ _=>rfl) λ_ _ U M N B=>zX7 U;have Y_house:Fn l.prog w K mg base "_law_house" 2 1 Qq:=d27.fn X G (ps:=qZ3) (λ_ _ _ _ _ _ us J=>Qn J λ_=>rfl) λ_ _ U M N B=>zJ2 T U Y_pick;have Y_number:Fn l.prog w K mg base "_law_number" 2 3 Yy:=d28.fn X G (ps:=xz8) (λ_ _ _ _ _ _ us J=>xp6 J λ_ _ _=>rfl) λ_ _ U M N B=>zt9 T U Y_pick;have Y_box:Fn l.prog w K mg base "_law_box" 3 2 zT7:=d29.fn X G (ps:=qZ2) (λ_ _ _ _ _ _ us J=>Kl J λ_ _=>rfl) λ_ _ U M N B=>xj8 T U Y_pick Y_number;have Y_kind:Fn l.prog w K mg base "_law_kind" 3 2 zo9:=d30.fn X G (ps:=qZ2) (λ_ _ _ _ _ _ us J=>Kl J λ_ _=>rfl) λ_ _ U M N B=>zX9 T U Y_pick Y_number;have Y_bounds:Fn l.prog w K mg base "_law_bounds" 1 1 zT6:=d31.fn X G (ps:=["_law_things"]) (λ_ _ _ _ _ _ us J=>Qn J λ_=>rfl) λ_ _ U M N B=>xj6 T U;have Y_grown:Fn l.prog w K mg base "_law_grown" 34 4 (Wb 30):=⟨_,_,_,(zJ3 T ao a32 ad aH (W.mg_of X G a32) k32 (ao.binds (ps:=qZ4) λ_ _ _ _ _ _ us J=>xp5 J λ_ _ _ _=>rfl) Y_pick Y_bounds 30),W.mg_of X G a32,k32,(ao.binds (ps:=qZ4) λ_ _ _ _ _ _ us J=>xp5 J λ_ _ _ _=>rfl)⟩;have Y_tree:Fn l.prog w K mg base "_law_tree" 35 2 VT:=d33.fn X G (ps:=qZ2) (λ_ _ _ _ _ _ us J=>Kl J λ_ _=>rfl) λ_ _ U M N B=>zI8 T U Y_grown;have Y_plain:Fn l.prog w K mg base "_law_plain" 1 1 VW:=d34.fn X G (ps:=["_law_box_here"]) (λ_ _ _ _ _ _ us J=>Qn J λ_=>rfl) λ_ _ U M N B=>zu1 T U;have Y_inside:Fn l.prog w K mg base "_law_inside" 1 2 Wa:=d35.fn X G (ps:=["_law_edges","_law_plain_here"]) (λ_ _ _ _ _ _ us J=>Kl J λ_ _=>rfl) λ_ _ U M N B=>zk7 T U;have Y_fits:Fn l.prog w K mg base "_law_fits" 2 2 Qp:=d36.fn X G (ps:=xA0) (λ_ _ _ _ _ _ us J=>Kl J λ_ _=>rfl) λ_ _ U M N B=>zJ0 U Y_inside;have Y_steps:Fn l.prog w K mg base "_law_steps" 1 2 VU:=d37.fn X G (ps:=xz9) (λ_ _ _ _ _ _ us J=>Kl J λ_ _=>rfl) λ_ _ U M N B=>zu0 T T2 U;have Y_ranked:Fn l.prog w K mg base "_law_ranked" 3 3 VS:=d38.fn X G (ps:=xz6) (λ_ _ _ _ _ _ us J=>xp6 J λ_ _ _=>rfl) λ_ _ U M N B=>zt8 T U Y_fits Y_steps;have Y_same:Fn l.prog w K mg base "_law_same" 1 2 VV:=d39.fn X G (ps:=xA1) (λ_ _ _ _ _ _ us J=>Kl J λ_ _=>rfl) λ_ _ U M N B=>zI9 T T3 U;have Y_great_house:Fn l.prog w K mg base "_law_great_house" 2 1 Qr:=d40.fn X G (ps:=qZ3) (λ_ _ _ _ _ _ us J=>Qn J λ_=>rfl) λ_ _ U M N B=>zJ4 T U Y_pick;exact xj7 T aO Y_left Y_pick Y_great_house F_turns Y_house Y_tree Y_box Y_kind Y_plain Y_ranked Y_same F_drawn
def walk{l:W.OpenLaw}{q:Qq3}{loose:Qq2}{XP:(Str->Option Value)->Heap->Prop}{YP:World->Heap->Prop}{d:DefRec}{K:Params->W.Frag}(hn:l.most=some 63)(aa:d.params.defaults=[])
  (hY:∀(w:Qqa) (h:Heap),YP w h->(K w.params).In h)
  (J:∀(w:Qqa),∀y∈qY,∀c P,W.tabIn (K w.params) y=some (c,P)->∃d,(recsOf q).find? (λe=>e.name == y)=some d) (Y:∀w:World,W.noTabs (K w.params)=true)
  (F : ∀ (w : World) (mg : Str -> Option Value) (fa : Addr) (h : Heap), (K w.params).In h -> h.Ns mainGlobals mg -> mg d.name = some (.ref fa) ->
   ∃fd:FuncData,(∀(s:Qq1) (u:Value),BindsTo s fd ⟨[u],[]⟩ [("_law_script",u)])/\∀base:Heap,(K w.params).In base->base.Ns mainGlobals mg->base.NoDigits->Qh (K w.params) mg base->FnOk l.prog w (K w.params) mg base CX0 36 fa fd ["_law_script"] (Kr (K w.params))) :
  W.WalkO q loose XP YP l.row.toRowW d [] (λf vs=>PySem.call f vs):=
 L2.zD9 (n:=63) (k:=36) (x := "_law_script") (CX:=λ_=>CX0) (sp:=λw=>Kr (K w.params)) hn q9 aa ⟨rfl,q9,q9,rfl⟩ hY J (λw=>zT5 (K w.params)) Y F (λ_ _ a ns hl hO hS hT=>⟨a,ns,rfl,hO,hS,hl,hT,λH h=>⟨rfl,h⟩⟩) λ_ _ _ _ _ z=>z
end K41
open PySem PySem.W PyProof.Rows
set_option maxRecDepth 100000 in
set_option maxHeartbeats 0 in
theorem PySem.Challenge.cw_boxlayers_k41_nearest_and_best_holds : PySem.Challenge.rw_boxlayers_k41_nearest_and_best.Holds := by
 w_on; refine holds_law (by kernel_rfl) fun said => ?_; refine holds_open (q:=K41H.view) (loose:=[]) (N:=10000) (XP:=XL K41H.view []) (Xt:=λs=>xlAt K41H.view [] s && recOk (RowW.records (OpenRow.toRowW (OpenLaw.row PySem.Challenge.rw_boxlayers_k41_nearest_and_best))) s) (Yf:=Hook.obs K41H.hook) (Ya:=Hook.val K41H.hook) (YP:=Hook.says K41H.hook) K41H.left (Hook.of K41H.hook) (Hook.keeps K41H.hook) (λs e=>xl_of s (Bool.and_eq_true_iff.mp e).1) XL.keeps rfl rfl rfl (λs e=>recFacts_of (Bool.and_eq_true_iff.mp e).2) rfl (by first | assumption | decide +kernel) w5 ⟨rfl,rfl,rfl,rfl,rfl,w5⟩ ?_ ?_
 ·w_witness2
 k_fill
 refine K41.walk (l:=PySem.Challenge.rw_boxlayers_k41_nearest_and_best) rfl rfl (λw h Y=>PySem.W.km_in_of Y) ?R ?N ?F
 case R =>
  intro w y hy c P e
  have z:y = "_law_grown" := by simpa [L2.qY] using hy
  subst z;exact⟨_,rfl⟩
 case N =>
  intro w
  kernel_rfl
 case F =>
  intro w mg fa h KX G J;refine' K41.all_mk KX G J ?d0 ?d1 ?d2 ?d3 ?d4 ?d5 ?d6 ?d7 ?d8 ?d9 ?d10 ?d11 ?d12 ?d13 ?d14 ?d15 ?d16 ?d17 ?d18 ?d19 ?d20 ?d21 ?d22 ?d23 ?d24 ?d25 ?d26 ?d27 ?d28 ?d29 ?d30 ?d31 ?a32 ?l32 ?c32 ?k32 ?d33 ?d34 ?d35 ?d36 ?d37 ?d38 ?d39 ?d40 ?a41 ?l41 ?c41 ?k41 ?le32 ?lk32 ?lp32 ?yy0 ?hh0 ?z0 ?z1 ?z2 ?z3 ?z4 ?z5 ?z6 ?z7 ?z8 ?z9 ?z10 ?z11 ?z12 ?z13 ?z14 ?z15 ?z16 ?z17 ?z18
  (case a32=>k_is)
  (case l32=>k_is)
  (case c32=>k_is)
  (case k32=>k_is)
  (case a41=>k_is)
  (case l41=>k_is)
  (case c41=>k_is)
  (case k41=>k_is)
  (case le32=>rfl)
  (case lk32=>k_is)
  (case lp32=>rfl)
  (case yy0=>k_is)
  (case hh0=>k_is)
  (case z0=>k_is)
  (case z1=>k_is)
  (case z2=>k_is)
  (case z3=>k_is)
  (case z4=>k_is)
  (case z5=>k_is)
  (case z6=>k_is)
  (case z7=>k_is)
  (case z8=>k_is)
  (case z9=>k_is)
  (case z10=>k_is)
  (case z11=>k_is)
  (case z12=>k_is)
  (case z13=>k_is)
  (case z14=>k_is)
  (case z15=>k_is)
  (case z16=>k_is)
  (case z17=>k_is)
  (case z18=>k_is)
  all_goals (apply K41.dn;k_is;k_is;k_is;k_is)
end
#print axioms PySem.Challenge.cw_boxlayers_k41_nearest_and_best_holds
